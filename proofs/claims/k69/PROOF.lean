import PyProof.Rows.All
import KE.KIntText
import KE.KFromBytes
import KE.KIsAll
import KE.KItem
import OpenK.KLine
import OpenK.KWalk
import Wide.FinOn
import PyProof.EqAt
import PyProof.EqKinds
import PyProof.TupleCall
import Lean
import PySem.Challenge.RW_grindbench_k69_rows_answered
set_option Elab.async false
set_option linter.all false
set_option maxRecDepth 100000
set_option maxHeartbeats 1000000
abbrev FrG:=PySem.W.Frag
open Array renaming length_toList→UF,mem_toList_iff→NG
open Bool renaming and_eq_true→zC,and_eq_true_iff→WJ,eq_iff_iff→xv,false_and→wc,false_eq_true→yb,false_ne_true→ZM
open False renaming elim→UI
open ForInStep renaming yield→Qn
open Int renaming emod_lt_of_pos→QF,emod_nonneg→yv,lt_trichotomy→GH,mul_ne_zero→yl,natAbs_mul→WE,natAbs_natCast→YO,natAbs_neg→UX,natCast_emod→FE,sign_eq_neg_one_of_neg→qo,sign_eq_one_of_pos→FV,toNat_natCast→Qb,zero_sub→FU
open List renaming Nodup→Uu,Pairwise→wT,all_cons→GV,all_eq_true→Fs,all_map→MW,any_cons→JR,append_assoc→XB,append_cancel_left→FD,append_nil→Xg,cons_append→wI,dropLast_concat→NS,drop_eq_getElem_cons→UE,drop_eq_nil_of_le→wh,drop_zero→qq,eq_nil_or_concat→ww,filterMap_cons→zo,filterMap_map→qf,filter_cons→UN,filter_cons_of_neg→FA,filter_cons_of_pos→xS,find?_cons→yp,flatMap_cons→GI,flatten_cons→QY,foldl_append→wm,forIn_cons→yn,getD_eq_getElem?_getD→QA,getElem?_append_left→UD,getElem?_append_right→Qx,getElem?_drop→qE,getElem?_eq_getElem→Yi,getElem?_eq_some_iff→YL,getElem?_map→Yf,getElem?_of_mem→uj,getElem?_range→js,getElem?_set_ne→yY,getElem?_set_self→UQ,getElem?_take_of_lt→GY,getLast?_concat→Um,getLast?_eq_getElem?→QO,getLast?_eq_none_iff→JI,getLast?_eq_some_getLast→XZ,getLast_cons→wn,length→JU,length_append→X9,length_cons→X2,length_drop→JO,length_eq_one_iff→Nc,length_filter_le→QL,length_map→Y2,length_nil→YH,length_replicate→wt,length_set→QU,length_take→YG,lookup→xL,map_append→ZB,map_congr_left→jp,map_cons→YJ,map_eq_cons_iff→uk,map_eq_nil_iff→xl,map_map→zb,map_nil→jx,mem_append→YT,mem_append_left→UK,mem_append_right→YN,mem_cons→X1,mem_cons_of_mem→W1,mem_cons_self→ZA,mem_filter→Uw,mem_flatMap→Fu,mem_map→UC,mem_of_getElem?→ZI,mem_of_getLast?→ui,mem_of_mem_take→ua,mem_singleton→X8,nil_append→Jn,nodup_append→GL,nodup_cons→XJ,not_mem_nil→ZN,of_mem_zip→Nq,pairwise_singleton→wa,range→WC,range_succ_eq_map→FS,replicate→Xz,replicate_succ→zt,replicate_succ'→NU,size_toArray→Yg,sum_cons→yQ,take_add_one→YU,take_length→YX,take_of_length_le→UB,take_zero→NR,toList_toArray→zv
open List.Pairwise renaming nil→MV
open List.cons renaming inj→WH
open Nat renaming add_comm→FR,add_le_add_right→UO,add_mul→Qv,add_sub_cancel→qA,digitChar→MA,gcd→GG,gcd_comm→MX,le_of_eq→MQ,le_of_lt→XG,le_refl→ZY,le_succ→NH,le_trans→ZE,lt_irrefl→yA,lt_of_le_of_lt→xB,lt_of_lt_of_le→Y4,lt_succ_self→wx,lt_trans→UU,min_eq_left→xw,mod_lt→MM,mul_le_mul→qB,mul_le_mul_right→ZH,mul_lt_mul''→wE,ne_of_gt→MO,ne_of_lt→XO,pow_add→NN,pow_le_pow_right→JY,pow_pos→NM,pow_succ→jC,succ_le_succ→xh,succ_mul→FP,toDigits→FT,toDigits_of_lt_base→FC,two_pow_pos→Nr,zero_le→WI
open Ne renaming symm→JE
open Option renaming getD_none→Fn,isSome_iff_exists→GU,map_eq_some_iff→yk,map_some→uS
open Option.some renaming inj→XU
open Prod renaming ext→WT,snd→qv
open PyProof.Rows renaming AllBare→wo,assignInOrder_cons→qS,callWith_type1→UP,envOfC→wq,joinOk_of_weight→WO,signs→QE,slot_tuple_getitem→zn
open PySem renaming Around→XW,BindsTo→Mn,Builtin→WA,DictEntry→wS,FuncData→UH,IsPart→Nd,IsRangeIter→NW,NameKind→JJ,Operator→NV,Paired→xo,Params→Fk,PassesOwn→Wa,Program→YA,PyData→Zh,Shared→U2,Str→Y1,Within→FI,assign→Fc,assignEach→zl,assignInOrder→Fh,attributeBase→wW,backTo→yT,behindInMarks→xr,binaryOp→yy,bindArgs→ut,bootBuiltins→Uf,call_meets→xI,callerA→Mo,codeAny→GS,codeAny_mono→jF,compEnvC→Mc,compareOp→Uh,foldedSetIterable→ze,getItem→GP,holding→GM,intText?→wf,keywordEach→GT,letOwnedTupleGo→xA,mainGlobals→ZL,mem_of_lookup→WU,numbered_texts→Mb,post_val_or_str→ja,recursionLimit→NX,relabel→wr,sizeLine→Y3,sliceBounds→zI,starEach→XE,subscripted→GO,swapsWith→jS,sysModules→Qr,tupleKind→Me,tupleKind_room_in1→qV,typeIs_str→wR,valueAt→Nl,wpAny_Call_Name_kw→QI,wpAny_bind→U1,wpAny_execs_cons→FF,wpAny_execs_nil→uT,wpAny_field→uu,wpAny_getItem_str_slice→zD,wpAny_holding→UA,wpAny_listPart→NY,wpAny_loadName_local→ul,wpAny_mono→UZ,wpAny_newObj_type→zd,wpAny_passesOwn→QV,wpAny_pure→Ya,wpAny_pyIter_list→GN,wpAny_specialOf→Nt,wpAny_standAt→xt,wpAny_truthy_bool→Ja
open PySem.Around renaming under→MS
open PySem.Builtin.Int renaming intBits→Mw
open PySem.Builtin.List renaming listAllItems→Gc,listSameRef→GW,listSubscript?→jv,listTooLong→zk
open PySem.Builtin.Range renaming rangeSize→zw
open PySem.Builtin.Slice renaming sliceAdjust→xk,sliceApplied→qc,slicePlaces→QN
open PySem.Builtin.Str renaming occurrences→Wp,partsBetween→xi,strKind→Gy,strSliceIndices→jd,strSub→xp
open PySem.Builtin.Tuple renaming tupleExact→zi
open PySem.Calls renaming Name_function_global→xa,callWith_builtin→FO,evalArgs_plain→NI,loadGlobal_global→Fm
open PySem.Code renaming isFrame→MU
open PySem.F renaming args_str_split_2→qn,entry_str_split→GE,plainAttrs_list→YY,plainAttrs_str→Yr,slot_dict_get→ND,slot_dict_getitem→Go,slot_list_append→Xq,slot_str_join→WV,slot_str_split→XV,type_list_append→Xs,type_str_join→WZ,type_str_split→Wm
open PySem.Heap renaming SameBut→zS,get?_none_of_le→NF,get?_push_of_some→ZO,get?_push_size→XM,get?_update_other→FM,lt_size→Yo,size_push→qb
open PySem.Heap.IsList renaming push→Bn
open PySem.Heap.IsSliceOf renaming new→MI
open PySem.Heap.SameBut renaming refl→MY
open PySem.IsL renaming isList→Bi
open PySem.NameKind renaming cell→MB,free→yB
open PySem.NumText renaming AllDigits→Mp
open PySem.Obj renaming mapSeq→qh
open PySem.Paired renaming length→My
open PySem.PassesOwn renaming never→YR
open PySem.PyData renaming canLayAll0→WG,eqv→Ul,eqvAll→Fa
open PySem.SeqAt renaming EqAt→WS,canLay_of_shaped→yg,shaped→we
open PySem.SeqAt.EqAt renaming int_str→MD,str_int→ME
open PySem.Str renaming empty→uQ,join→Yk,mk→US,ofString→Z7
open PySem.StrLaws renaming join_length_le→Na,join_split→ML,occBody→Nn,partsBetween_eq→Nw,partsFrom→Mu
open PySem.Txt renaming endswith→FY,join→FB,mul→MZ,slice→Ug,split→Xt,startswith→ql
open PySem.Value renaming bool→MG,float→Bz,int→jI,none→FH,ref→XP,str→Md,type→jT
open PySem.W renaming callWith_K→ya,callWith_K0→Mv,cellsFrom_some→FK,codeIn→XA,emptyDict→UG,findIn→ZU,fnOf→YP,hasDictIn→UR,instObj→Qm,isFn→XT,keepIn→YE,kia_one→WB,kitx_dict→MR,kitx_list→GB,kitx_tuple→MH,lookIn→qa,makesIn→QP,methodCall_KW→NC,methodObj→GA,mg_of→ZG,nsIn→ZT,plainGet→UM,plainGet_of→jo,plainOver→Qa,takerIn→No
open PySem.W.KFB renaming if_not→qk
open Rat renaming divInt→YV,divInt_add_divInt→NA,divInt_eq_div→UY,divInt_mul_divInt→wv,divInt_mul_right→xb,intCast_add→xy,intCast_eq_zero_iff→wb,intCast_mul→YI,intCast_natCast→XI,intCast_neg→JA,intCast_zero→wP,mul_comm→FX,mul_div_cancel→qr,mul_eq_zero→xz,mul_nonneg→YK,mul_pos→XY,neg_den→NL,neg_num→NJ,not_lt→xE,num_divInt_den→xD,num_nonneg→NO,one_mul→ub,zero_mul→yi
open Sum renaming inl→FG,inr→xc
open True renaming intro→zh
local macro_rules | `(tactic| walk_at "s")=>`(tactic| exact ⟨rfl,rfl,rfl,by decide+kernel,rfl,by decide+kernel,by decide+kernel⟩)
local macro_rules | `(tactic| walk_at "o")=>`(tactic| first | exact Or.inl rfl | exact Or.inr rfl)
local macro_rules | `(⋯)=>`(by decide)
local macro_rules | `(∅)=>`(by omega)
theorem ζ {p:Prop}[Decidable p](h:p):decide p=true:=decide_eq_true h
theorem η {p:Prop}[Decidable p](h:¬p):decide p=false:=decide_eq_false h
theorem bc'' {G:Prop}(h:¬G→False):G:=Classical.byContradiction h
local macro_rules | `(tactic| obtain ⟨$ps,*⟩:=$e)=>if ps.getElems.size>3 then `(tactic| (refine bc'' fun h=>?_;rcases $e:term with ⟨$ps,*⟩;refine h ?_)) else Lean.Macro.throwUnsupported
namespace L2
open PySem PySem.Spec PyProof.Rows
abbrev Key:=Sum Int Str
def keyIs:Key->Value->Bool
 | .inl k,v=>Value.isInt k v
 | .inr x,v=>Value.isStrOf x v
def keyH (w:World):Key->Int
 | .inl k=>hashInt k
 | .inr x=>hashStr w x
theorem Hd:∀{k:Key} {v:Value},keyIs k v=true->(∃i t,k=FG i/\v=jI i t)\/(∃x t,k=xc x/\v=Md x t)
 | .inl i,v,h=>by
  obtain ⟨t,e⟩:=Value.isInt_shape (k:=i) (v:=v) h;exact .inl ⟨i,t,rfl,e⟩
 | .inr x,v,h=>by
  obtain ⟨t,e⟩:=Value.isStrOf_shape (x:=x) (v:=v) h;exact .inr ⟨x,t,rfl,e⟩
theorem Ag8 (i:Int)(t:Tok):keyIs (.inl i) (.int i t)=true:=by simp [keyIs,Value.isInt]
theorem AP5 (x:Str)(t:Tok):keyIs (.inr x) (.str x t)=true:=by simp [keyIs,Value.isStrOf]
theorem AX4 (a b:Int):decide ((FG a:Key)=FG b)=(a == b):=by
 by_cases e:a=b
 ·subst e;simp
 ·have h:¬ (FG a:Key)=FG b:=λ q=>e (FG.inj q)
  rw [η h];exact (beq_eq_false_iff_ne.mpr e).symm
theorem wF (a b:Str):decide ((xc a:Key)=xc b)=decide (a=b):=by
 by_cases e:a=b
 ·subst e;simp
 ·have h:¬ (xc a:Key)=xc b:=λ q=>e (xc.inj q)
  rw [η h,η e]
theorem AS2 (a:Int)(b:Str):decide ((FG a:Key)=xc b)=false:=η (λ q=>nomatch q)
theorem tQ (a:Str)(b:Int):decide ((xc a:Key)=FG b)=false:=η (λ q=>nomatch q)
def mixKind (prog:YA)(w:World):PySem.KeyKind prog w Key where
 is:=keyIs
 hash:=keyH w
 inj:=λ v a b ha hb=>by
  rcases Hd ha with ⟨i,t,rfl,rfl⟩ | ⟨x,t,rfl,rfl⟩
  ·rcases Hd hb with ⟨j,u,rfl,e⟩ | ⟨y,u,rfl,e⟩
   ·injection e with e1 _;rw [e1]
   ·exact nomatch e
  ·rcases Hd hb with ⟨j,u,rfl,e⟩ | ⟨y,u,rfl,e⟩
   ·exact nomatch e
   ·injection e with e1 _;rw [e1]
 byValue:=λ k v h=>by
  rcases Hd h with ⟨i,t,rfl,rfl⟩ | ⟨x,t,rfl,rfl⟩<;>rfl
 pyHash:=λ hv h=>by
  rcases Hd hv with ⟨i,t,rfl,rfl⟩ | ⟨x,t,rfl,rfl⟩
  ·exact wpAny_pyHash_int h
  ·exact wpAny_pyHash_str h
 eqBool:=λ c hv h=>by
  rcases Hd c with ⟨i,t,rfl,rfl⟩ | ⟨x,t,rfl,rfl⟩
  ·rcases Hd hv with ⟨j,u,rfl,rfl⟩ | ⟨y,u,rfl,rfl⟩
   ·rw [AX4] at h;exact wpAny_eqBool_int h
   ·rw [AS2] at h;exact MD i t y u _ _ _ _ h
  ·rcases Hd hv with ⟨j,u,rfl,rfl⟩ | ⟨y,u,rfl,rfl⟩
   ·rw [tQ] at h;exact ME x t j u _ _ _ _ h
   ·rw [wF] at h;exact wpAny_eqBool_str h
 «strs»:=λ k x t v h=>by
  rcases Hd h with ⟨i,u,rfl,e⟩ | ⟨y,u,rfl,e⟩
  ·exact nomatch e
  ·injection e with e1 _
   subst e1;cases v<;>rfl
theorem sI (prog:YA)(w:World)(i:Int)(t:Tok):(mixKind prog w).is (.inl i) (.int i t)=true:=Ag8 i t
theorem bU (prog:YA)(w:World)(x:Str)(t:Tok):(mixKind prog w).is (.inr x) (.str x t)=true:=AP5 x t
inductive V where
 | non | bl (b:Bool) | int (i:Int) | str (x:Str) | byt (b:Array UInt8) | flt (b:UInt64) | ref (a:Addr) | ty (n:String)
 deriving DecidableEq
def RelV:V->Value->Prop
 | .non,u=>u=FH
 | .bl b,u=>u=MG b
 | .int i,u=>∃t,u=jI i t
 | .str x,u=>∃t,u=Md x t
 | .byt b,u=>∃t,u=Value.bytes b t
 | .flt b,u=>∃t,u=Bz b t
 | .ref a,u=>u=XP a
 | .ty n,u=>u=jT n
abbrev Vals:List V->List Value->Prop:=xo RelV
theorem Vals.length {xs:List V}{us:List Value}(r:Vals xs us):xs.length=us.length:=My r
theorem Vals.get:∀{xs:List V} {us:List Value} {i:Nat} {x:V},Vals xs us->xs[i]?=some x->∃u,us[i]?=some u/\RelV x u
 | _,_,_,_,.nil,e=>by simp at e
 | _,_,0,_,.cons r _,e=>by simp at e;subst e;exact ⟨_,rfl,r⟩
 | _,_,i+1,x,.cons _ t,e=>by
  obtain ⟨u,a,b⟩:=Vals.get (i:=i) (x:=x) t (by simpa using e)
  exact ⟨u,by simpa using a,b⟩
theorem Vals.set {x:V}{u:Value}(r:RelV x u):∀{xs:List V} {us:List Value} (i:Nat),Vals xs us->Vals (xs.set i x) (us.set i u)
 | _,_,_,.nil=>.nil
 | _,_,0,.cons _ t=>.cons r t
 | _,_,i+1,.cons q t=>.cons q (Vals.set r i t)
theorem Vals.append:∀{xs a:List V} {us b:List Value},Vals xs us->Vals a b->Vals (xs++a) (us++b)
 | _,_,_,_,.nil,s=>s
 | _,_,_,_,.cons r t,s=>.cons r (Vals.append t s)
theorem Vals.take:∀{xs:List V} {us:List Value} (n:Nat),Vals xs us->Vals (xs.take n) (us.take n)
 | _,_,0,_=>.nil
 | _,_,_+1,.nil=>.nil
 | _,_,n+1,.cons r t=>.cons r (Vals.take n t)
theorem Vals.drop:∀{xs:List V} {us:List Value} (n:Nat),Vals xs us->Vals (xs.drop n) (us.drop n)
 | _,_,0,r=>r
 | _,_,_+1,.nil=>.nil
 | _,_,n+1,.cons _ t=>Vals.drop n t
def RelO:Option V->Option Value->Prop
 | some v,some u=>RelV v u
 | none,none=>True
 | _,_=>False
def KV {a:Type}:List (a×V)->List (a×Value)->Prop:=xo λ (p:a×V) (q:a×Value)=>p.1=q.1/\RelV p.2 q.2
def kV:Key->V
 | .inl i=>.int i
 | .inr x=>.str x
inductive HO where
 | lst (xs:List V)
 | tup (xs:List V)
 | dK (kvs:List (Key×V)) | dT (kvs:List (List Key×V))
 | set (S:Int->Bool) (n:Nat)
 | ins (C dx:Addr) (fs:List (Str×V))
 | own (x:Addr)
 | xd (fs:List (Str×V))
 | met (f x:Addr)
 | rng (lo hi:Int)
 | frz (o:Obj) (u:HO)
 | tbl (ps:Array Value)
 | ext (φ:Heap->Prop)
abbrev Hp:=Addr->Option HO
def upd (H:Hp)(a:Addr)(o:HO):Hp:=λ b=>if b=a then some o else H b
theorem Aq {H:Hp}{a:Addr}{o:HO}:upd H a o a=some o:=by unfold upd;rw [if_pos rfl]
theorem BP {H:Hp}{a b:Addr}{o:HO}(h:b≠a):upd H a o b=H b:=by unfold upd;rw [if_neg h]
theorem HY {H:Hp}{a:Addr}{o u:HO}:upd (upd H a o) a u=upd H a u:=by
 funext b;unfold upd;split<;>rfl
theorem xF {H:Hp}{a b:Addr}{o u:HO}(h:H a=some o)(h':H b=some u)(d:o≠u):a≠b:=by
 intro e;subst e;rw [h] at h';exact d (XU h')
theorem Bt {H:Hp}{a b:Addr}{o:HO}(h:H a=some o)(h':H b=none):a≠b:=by
 intro e;subst e;rw [h] at h';cases h'
section
variable (P:YA)(w:World)
def ObjOk (H:Hp)(h:Heap)(a:Addr):HO->Prop
 | .lst xs=>xs.length<=Y3/\∃(its:List Value) (n:Nat),Vals xs its/\h.get? a=some { cls:=.type "list",data:=.seq its.toArray n }
 | .tup xs=>xs.length<=Y3/\∃its:List Value,Vals xs its/\IsTup h a its.toArray
 | .dK b=>b.length<=Y3/\(a == Qr)=false/\∃vs,KV b vs/\h.DictOf (mixKind P w) a vs
 | .dT b=>b.length<=Y3/\(a == Qr)=false/\∃xs:List (List Key×Addr×Value),
   xo (λ (p:List Key×V) (q:List Key×Addr×Value)=>p.1=q.1/\H q.2.1=some (.tup (p.1.map kV))/\RelV p.2 q.2.2) b xs/\
   ∃o es j,h.get? a=some o/\o.ExactDict/\o.data=.dict es j/\es.toList=xs.map (entryOfKey (Me (mixKind P w)))/\(xs.map (·.1)).Nodup
 | .set k n=>h.SetOf (intKind P w) a k n
 | .ins C d fs=>H d=some (.own a)/\fs.length<=1000/\d≠a/\h.get? a=some (Qm C d)/\
   ∃c,h.Ns1 d c/\(∀f,RelO (fs.lookup f) (c f))/\FI c (fs.map (·.1))
 | .own _=>∃o,h.get? a=some o
 | .xd fs=>∃c,h.Ns1 a c/\∀f,RelO (fs.lookup f) (c f)
 | .rng lo hi=>∃t u v,h.get? a=some { cls:=.type "range",data:=.fields #[.int lo t,.int hi u,.int 1 v] }
 | .frz o u=>h.get? a=some o/\ObjOk H h a u
 | .tbl ps=>h.get? a=some { cls:=.none,data:=.fields ps }
 | .met f x=>h.get? a=some (GA (.ref f) (.ref x))
 | .ext e=>e h/\(∃o,h.get? a=some o)/\∀g i:Heap,e g->(∀o,g.get? a=some o->i.get? a=some o)->e i
def HOk (H:Hp)(h:Heap):Prop:=∀a o,H a=some o->ObjOk P w H h a o
end
section
variable {P:YA}{w:World}{H H':Hp}{h h':Heap}{a:Addr}{o:HO}
theorem ObjOk.lt (x:ObjOk P w H h a o):a < h.objs.size:=by
 cases o with
 | lst xs=>obtain ⟨_,_,_,_,e⟩:=x;exact Yo e
 | tup xs=>obtain ⟨_,_,_,p⟩:=x;exact p.lt
 | dK b=>obtain ⟨_,_,_,_,o,_,_,e,_⟩:=x;exact Yo e
 | dT b=>obtain ⟨_,_,_,_,o,_,_,e,_⟩:=x;exact Yo e
 | set i n=>obtain ⟨o,_,_,_,e,_⟩:=x;exact Yo e
 | ins C c fs=>obtain ⟨_,_,_,e,_⟩:=x;exact Yo e
 | own y=>obtain ⟨_,e⟩:=x;exact Yo e
 | xd fs=>obtain ⟨_,⟨_,_,_,e,_⟩,_⟩:=x;exact Yo e
 | rng lo hi=>obtain ⟨_,_,_,e⟩:=x;exact Yo e
 | frz d u=>obtain ⟨e,_⟩:=x;exact Yo e
 | tbl ps=>exact Yo (show h.get? a=some _ from x)
 | met f y=>exact Yo (show h.get? a=some _ from x)
 | ext g=>obtain ⟨_,⟨_,e⟩,_⟩:=x;exact Yo e
theorem xo.mapP {e g:Type}{i j:e->g->Prop}:∀{c:List e} {d:List g},xo i c d->(∀a b,i a b->j a b)->xo j c d
 | _,_,.nil,_=>.nil
 | _,_,.cons r t,f=>.cons (f _ _ r) (xo.mapP t f)
theorem ObjOk.stay (x:ObjOk P w H h a o)(k:∀b u,(b=a\/H b=some (.own a))->h.get? b=some u->h'.get? b=some u)
  (s:∀b,H b=some (.own a)->H' b=some (.own a)) (A:∀b xs,H b=some (.tup xs)->H' b=some (.tup xs)):ObjOk P w H' h' a o:=by
 induction o with
 | lst xs=>obtain ⟨z,its,n,r,e⟩:=x;exact ⟨z,its,n,r,k _ _ (.inl rfl) e⟩
 | tup xs=>obtain ⟨z,its,r,g,e,c⟩:=x;exact ⟨z,its,r,g,k _ _ (.inl rfl) e,c⟩
 | dK m=>obtain ⟨z,y,vs,r,g,es,i,e,c⟩:=x;exact ⟨z,y,vs,r,g,es,i,k _ _ (.inl rfl) e,c⟩
 | dT m=>
  obtain ⟨z,y,xs,r,g,es,i,e,c⟩:=x;exact ⟨z,y,xs,xo.mapP r λ p q z=>⟨z.1,A _ _ z.2.1,z.2.2⟩,g,es,i,k _ _ (.inl rfl) e,c⟩
 | set F n=>obtain ⟨g,es,i,t,e,c⟩:=x;exact ⟨g,es,i,t,k _ _ (.inl rfl) e,c⟩
 | ins C D fs=>
  obtain ⟨d,z,ne,e,j,⟨l,es,i,e2,c⟩,r⟩:=x;exact ⟨s _ d,z,ne,k _ _ (.inl rfl) e,j,⟨l,es,i,k _ _ (.inr d) e2,c⟩,r⟩
 | own y=>obtain ⟨g,e⟩:=x;exact ⟨g,k _ _ (.inl rfl) e⟩
 | xd fs=>obtain ⟨j,⟨l,es,i,e,c⟩,r⟩:=x;exact ⟨j,⟨l,es,i,k _ _ (.inl rfl) e,c⟩,r⟩
 | rng lo hi=>obtain ⟨t,u,v,e⟩:=x;exact ⟨t,u,v,k _ _ (.inl rfl) e⟩
 | frz g u B=>obtain ⟨e,q⟩:=x;exact ⟨k _ _ (.inl rfl) e,B q⟩
 | tbl ps=>
  have e:h.get? a=some { cls:=.none,data:=.fields ps }:=x;show h'.get? a=some { cls:=.none,data:=.fields ps };exact k a _ (.inl rfl) e
 | met f y=>
  have e:h.get? a=some (GA (.ref f) (.ref y)):=x;show h'.get? a=some (GA (.ref f) (.ref y));exact k a _ (.inl rfl) e
 | ext E=>obtain ⟨p,⟨o,e⟩,st⟩:=x;exact ⟨st _ _ p λ o q=>k _ _ (.inl rfl) q,⟨o,k _ _ (.inl rfl) e⟩,st⟩
theorem HOk.lt (x:HOk P w H h)(e:H a=some o):a < h.objs.size:=(x a o e).lt
theorem HOk.fresh (x:HOk P w H h)(e:h.objs.size<=a):H a=none:=by
 cases q:H a with
 | none=>rfl
 | some u=>exact absurd (Y4 (x.lt q) e) (yA _)
theorem HOk.kept (x:HOk P w H h)(k:∀b u,h.get? b=some u->h'.get? b=some u):HOk P w H h':=λ a o e=>
 (x a o e).stay (λ b u _ q=>k b u q) (λ _ q=>q) λ _ _ q=>q
theorem HOk.laid (x:HOk P w H h)(k:∀b u,h.get? b=some u->h'.get? b=some u)(g:h.objs.size<=a)(d:ObjOk P w (upd H a o) h' a o):HOk P w (upd H a o) h':=λ b u e=>by
 have f:=x.fresh g;by_cases hb:b=a
 ·subst hb;rw [Aq] at e;cases e;exact d
 ·rw [BP hb] at e;exact (x b u e).stay (λ c v _ q=>k c v q) (λ c q=>by rw [BP (Bt q f)];exact q) λ c xs q=>by rw [BP (Bt q f)];exact q
end
def Rd (H:Hp)(a:Addr)(u:HO):Prop:=H a=some u\/∃o,H a=some (.frz o u)
theorem Rd.ok {P:YA}{w:World}{H:Hp}{h:Heap}{a:Addr}{u:HO}(r:Rd H a u)(x:HOk P w H h):ObjOk P w H h a u:=by
 rcases r with r | ⟨o,r⟩
 ·exact x a u r
 ·obtain ⟨_,q⟩:=x a _ r;exact q
def Mut:Option HO->Prop
 | some (.lst _)=>True
 | some (.dK _)=>True
 | some (.dT _)=>True
 | some (.set _ _)=>True
 | some (.ins _ _ _)=>True
 | some (.ext _)=>True
 | _=>False
section
variable {P:YA}{w:World}{H:Hp}{h h':Heap}{x e:Addr}{o':HO}
theorem HOk.write (ok:HOk P w H h)(f:Mut (H x))(he:e=x\/H e=some (.own x))(k:∀b u,b≠e->h.get? b=some u->h'.get? b=some u)(i:∃u,h'.get? e=some u)
  (j:ObjOk P w (upd H x o') h' x o'):HOk P w (upd H x o') h':=λ b u q=>by
 have d:∀c y,H c=some (.own y)->c≠x:=λ c y r z=>by subst z;rw [r] at f;exact f
 have g:∀c xs,H c=some (.tup xs)->c≠x:=λ c xs r z=>by subst z;rw [r] at f;exact f
 by_cases hb:b=x
 ·subst hb;rw [Aq] at q;cases q;exact j
 ·rw [BP hb] at q;by_cases a:b=e
  ·have l:H b=some (.own x):=by
    rcases he with z | z
    ·exact absurd (a.trans z) hb
    ·rw [a];exact z
   rw [q] at l;cases l;obtain ⟨v,hv⟩:=i;exact ⟨v,by rw [a];exact hv⟩
  ·refine (ok b u q).stay (λ c v hc r=>k c v ?_ r) (λ c r=>by rw [BP (d c b r)];exact r) λ c xs r=>by rw [BP (g c xs r)];exact r
   rcases hc with rfl | hc
   ·exact a
   ·rintro rfl
    rcases he with z | z
    ·exact d c b hc z
    ·rw [hc] at z;cases z;exact hb rfl
end
structure Un (fs ex:List Addr)(H H':Hp)(h h':Heap):Prop where
 keep:∀b o,h.get? b=some o->H b=none->b∉fs->b∉ex->h'.get? b=some o
 slot:∀b o,h.get? b=some o->H b=none->b∈fs->b∉ex->∃sl,h'.get? b=some { o with slots:=sl }
 free:∀b o,h.get? b=some o->H b=none->b∉ex->H' b=none
 there:∀b o,h.get? b=some o->b∉ex->∃o',h'.get? b=some o'
 tups:∀b xs,H b=some (.tup xs)->H' b=some (.tup xs)
 frzs:∀b o u,H b=some (.frz o u)->H' b=some (.frz o u)
 tbls:∀b ps,H b=some (.tbl ps)->∃more,H' b=some (.tbl (ps++more))
section
variable {fs fs' ex ex':List Addr}{H H1 H2:Hp}{h h1 h2 h':Heap}{a x e:Addr}{o:HO}
theorem Un.any (u:Un fs ex H H1 h h1){b:Addr}{c:Obj}(q:h.get? b=some c)(n:H b=none)(d:b∉ex):∃f,h1.get? b=some { c with slots:=f }:=by
 by_cases hb:b∈fs
 ·exact u.slot b c q n hb d
 ·exact ⟨c.slots,u.keep b c q n hb d⟩
theorem Un.kept (k:∀b u,h.get? b=some u->h'.get? b=some u):Un fs ex H H h h':=
 ⟨λ b c q _ _ _=>k b c q,λ b c q _ _ _=>⟨c.slots,k b c q⟩,λ _ _ _ n _=>n,λ b c q _=>⟨c,k b c q⟩,λ _ _ q=>q,λ _ _ _ q=>q,λ _ ps q=>⟨#[],by rw [q];simp⟩⟩
theorem Un.refl:Un fs ex H H h h:=Un.kept λ _ _ q=>q
theorem Un.laid (k:∀b u,h.get? b=some u->h'.get? b=some u)(d:h.objs.size<=a)(c:H a=none):Un fs ex H (upd H a o) h h' where
 keep:=λ b u q _ _ _=>k b u q
 slot:=λ b u q _ _ _=>⟨u.slots,k b u q⟩
 free:=λ b u q n _=>by rw [BP (XO (Y4 (Yo q) d))];exact n
 there:=λ b u q _=>⟨u,k b u q⟩
 tups:=λ b xs q=>by rw [BP (Bt q c)];exact q
 frzs:=λ b u xs q=>by rw [BP (Bt q c)];exact q
 tbls:=λ b ps q=>⟨#[],by rw [BP (Bt q c),q];simp⟩
theorem Un.write (c:Mut (H x))(he:e=x\/H e=some (.own x))(k:∀b u,b≠e->h.get? b=some u->h'.get? b=some u)(g:∃u,h'.get? e=some u):Un fs ex H (upd H x o) h h':=by
 have i:∀b,H b=none->b≠x:=λ b n z=>by subst z;rw [n] at c;exact c
 have hb:∀b,H b=none->b≠e:=λ b n z=>by
  subst z;rcases he with r | r
  ·exact i b n r
  ·rw [n] at r;cases r
 have f:∀b u,H b=some u->¬ Mut (some u)->b≠x:=λ b u q nm z=>by subst z;rw [q] at c;exact nm c
 refine ⟨λ b u q n _ _=>k b u (hb b n) q,λ b u q n _ _=>⟨u.slots,k b u (hb b n) q⟩,λ b u q n _=>by rw [BP (i b n)];exact n,λ b u q _=>?_,
  λ b xs q=>by rw [BP (f b _ q λ z=>z)];exact q,λ b u xs q=>by rw [BP (f b _ q λ z=>z)];exact q,λ b ps q=>⟨#[],by rw [BP (f b _ q λ z=>z),q];simp⟩⟩
 by_cases d:b=e
 ·subst d;exact g
 ·exact ⟨u,k b u d q⟩
end
def trk (h:Heap)(H:Hp):List Addr:=(WC h.objs.size).filter λ a=>(H a).isSome
def hidT (h:Heap)(H:Hp):Heap:=PySem.W.hideAll h (trk h H)
theorem qd (h:Heap)(H:Hp):(hidT h H).objs.size=h.objs.size:=PySem.W.hideAll_size _ _
theorem yx {h:Heap}{H:Hp}{b:Addr}{o:Obj}(e:h.get? b=some o)(n:H b=none):(hidT h H).get? b=some o:=
 PySem.W.hideAll_get _ e λ a=>by
  have q:(H b).isSome=true:=(Uw.mp a).2;rw [n] at q;simp at q
theorem qj {h:Heap}{H:Hp}{b:Addr}{o:Obj}(e:(hidT h H).get? b=some o):h.get? b=some o/\H b=none:=by
 have a:h.get? b=some o:=PySem.W.of_hideAll (trk h H) e;refine ⟨a,?_⟩;cases q:H b with
 | none=>rfl
 | some x=>
  have c:b∈trk h H:=Uw.mpr ⟨List.mem_range.mpr (Yo a),by simp [q]⟩
  have z:(hidT h H).get? b=none:=PySem.W.hideAll_none (trk h H) c;rw [z] at e;cases e
structure Mod (K:FrG)(mg:Str->Option Value)(base:Heap):Prop where
 kin:K.In base
 glob:base.Ns ZL mg
 blt:∃mb,base.Ns builtinsNs mb/\∀x:Str,x≠"__name__"->mb x=Uf x
 nolimit:base.NoLimit
structure Cx where
 prog:YA
 w:World
 K:FrG
 mg:Str->Option Value
 base:Heap
 A:XW
 N:List Str
 s₀:U2
 H₀:Hp
 env:Env
 outer:List Env
 stack:List Env
 ex:List Addr
 fn:Str->Bool
 calm:Bool
 pn:List (Addr×Obj)
 xe:Value->U2->Prop
def frs (l:List Env):List Addr:=l.filterMap (·.frame)
abbrev Cx.fs (X:Cx):List Addr:=frs X.outer
def Vis (a:Scope)(x:Str):Prop:=a.names.lookup x=some .local\/a.names.lookup x=some .cell\/a.names.lookup x=some .free
def Loc (a:Scope)(x:Str):Prop:=a.names.lookup x=some .local\/a.names.lookup x=some .cell
def Look (env:Env)(h:Heap)(m:Str->Option Value)(x:Str)(u:Value):Prop:=
 (env.kindOf x=some .local/\m x=some u)\/((env.kindOf x=some .cell\/env.kindOf x=some .free)/\∃c,env.cells.lookup x=some c/\h.IsCell c (some u))
structure Cx.Ok (X:Cx):Prop where
 mod:Mod X.K X.mg X.base
 kind:X.env.scope.kind=.function
 glob:X.env.globals=ZL
 blt:X.env.builtins=builtinsNs
 above:X.s₀.heap.objs.size<=X.env.locals
 inj:∀x y c,X.env.cells.lookup x=some c->X.env.cells.lookup y=some c->x=y
 has:∀x,(X.env.kindOf x=some .cell\/X.env.kindOf x=some .free)->∃c,X.env.cells.lookup x=some c
 cab:∀x c,X.fn x=true->X.env.cells.lookup x=some c->X.s₀.heap.objs.size<=c
 hd:X.calm=true->X.A.handled=none
 frames:X.A.frames=some X.stack
 stk:X.stack=X.outer\/(X.stack=X.env::X.outer/\X.env.frame=some X.env.locals)
 exf:∀b∈X.ex,b≠X.env.locals/\∀x c,X.env.cells.lookup x=some c->c≠b
 bs:∀b o,X.base.get? b=some o->X.s₀.heap.get? b=some o/\X.H₀ b=none
 bsz:X.base.objs.size<=X.s₀.heap.objs.size
 noex:∀b o,X.base.get? b=some o->b∉X.ex
 exfs:∀b∈X.ex,b∉X.fs
 funs:X.s₀.heap.FunFrames X.base X.outer
 frf:∀b∈X.fs,X.H₀ b=none
structure Inv (X:Cx)(pins:List (Addr×Obj))(σ:List (Option V))(H:Hp)(s:U2):Prop where
 ok:X.Ok
 os:s.os=X.s₀.os
 bare:wo s.gens
 base:Un X.fs X.ex X.H₀ H X.s₀.heap s.heap
 loc:∃m,s.heap.Ns X.env.locals m/\∀(i:Nat) (x:Str) (v:V),X.N[i]?=some x->σ[i]?=some (some v)->Vis X.env.scope x->∃u,RelV v u/\Look X.env s.heap m x u
 cell:∀x c,X.env.cells.lookup x=some c->∃v,s.heap.IsCell c v
 free:H X.env.locals=none
 freeC:∀x c,X.env.cells.lookup x=some c->H c=none
 pin:∀p∈X.pn++pins,s.heap.get? p.1=some p.2/\H p.1=none/\p.1≠X.env.locals/\p.1∉X.fs/\∀v,p.2.data≠.cell v
 hok:HOk X.prog X.w H s.heap
 len:σ.length=X.N.length
section
variable {X:Cx}{pins:List (Addr×Obj)}{σ:List (Option V)}{H H':Hp}{s:U2}{h':Heap}
theorem Cx.Ok.nofr (ok:X.Ok){b:Addr}{o:Obj}(e:X.base.get? b=some o):b∉X.fs:=λ hb=>by
 have:=(ok.funs.mem hb).1;rw [e] at this;cases this
theorem Inv.bs (a:Inv X pins σ H s):∀b o,X.base.get? b=some o->s.heap.get? b=some o/\H b=none:=λ b o e=>
 ⟨a.base.keep b o (a.ok.bs b o e).1 (a.ok.bs b o e).2 (a.ok.nofr e) (a.ok.noex b o e),a.base.free b o (a.ok.bs b o e).1 (a.ok.bs b o e).2 (a.ok.noex b o e)⟩
theorem Inv.bk (a:Inv X pins σ H s):∀b o,X.base.get? b=some o->s.heap.get? b=some o:=λ b o e=>(a.bs b o e).1
theorem Inv.mod (a:Inv X pins σ H s):Mod X.K X.mg X.base:=a.ok.mod
theorem Inv.kIn (a:Inv X pins σ H s):X.K.In s.heap:=a.ok.mod.kin.keeps a.bk
theorem Inv.lt (b:Inv X pins σ H s):X.env.locals < s.heap.objs.size:=let ⟨_,a,_⟩:=b.loc;a.lt
theorem Inv.sz (a:Inv X pins σ H s):X.s₀.heap.objs.size<=s.heap.objs.size:=ZE a.ok.above (XG a.lt)
theorem Inv.nofs (c:Inv X pins σ H s){a:Addr}(h:s.heap.objs.size<=a):a∉X.fs:=λ hb=>by
 obtain ⟨_,o,b,_⟩:=c.ok.funs.mem hb;exact absurd (Y4 (Yo b) (ZE c.sz h)) (yA _)
theorem Inv.cne (f:Inv X pins σ H s):∀x c,X.env.cells.lookup x=some c->c≠X.env.locals:=λ x c e z=>by
 obtain ⟨v,o,a,hd⟩:=f.cell x c e;obtain ⟨m,⟨g,es,h,b,d,_⟩,_⟩:=f.loc;rw [z,b] at a;cases a;rw [d] at hd;cases hd
theorem Inv.funs (f:Inv X pins σ H s):s.heap.FunFrames X.base X.outer:=by
 have all:∀(l:List Env),(∀b∈frs l,b∈X.fs)->X.s₀.heap.FunFrames X.base l->s.heap.FunFrames X.base l:=by
  intro l
  induction l with
  | nil=>intro _ _;trivial
  | cons env r g=>
   intro d hl;obtain ⟨h,⟨c,o,hf,i,j,hd⟩,k⟩:=hl;have a:c∈X.fs:=d c (by unfold frs;rw [zo,hf];exact ZA)
   obtain ⟨m,e⟩:=f.base.slot c o j (f.ok.frf c a) a λ z=>f.ok.exfs c z a
   exact ⟨h,⟨c,_,hf,i,e,hd⟩,g (λ b hb=>d b (by unfold frs;rw [zo,hf];exact W1 _ hb)) k⟩
 exact all X.outer (λ _ hb=>hb) f.ok.funs
theorem Inv.stack (a:Inv X pins σ H s):s.heap.FunFrames X.base X.stack:=by
 rcases a.ok.stk with e | ⟨e,hf⟩
 ·rw [e];exact a.funs
 ·rw [e];obtain ⟨m,b,_⟩:=a.loc;refine .cons (by rw [a.ok.kind];decide) hf b ?_ a.funs
  exact NF (ZE a.ok.bsz a.ok.above)
theorem Inv.stkSub (a:Inv X pins σ H s):∀b∈frs X.stack,b∈X.env.locals::X.fs:=λ b hb=>by
 rcases a.ok.stk with e | ⟨e,hf⟩
 ·rw [e] at hb;exact W1 _ hb
 ·rw [e] at hb;unfold frs at hb;rw [zo,hf] at hb;exact hb
theorem Inv.stkFree (a:Inv X pins σ H s):∀b∈frs X.stack,H b=none:=λ b hb=>by
 rcases X1.mp (a.stkSub b hb) with e | hb
 ·rw [e];exact a.free
 ·obtain ⟨_,o,c,_⟩:=a.ok.funs.mem hb;exact a.base.free b o c (a.ok.frf b hb) λ z=>a.ok.exfs b z hb
theorem Inv.step {g':Array GenState}{t':Nat}{d':Drawn}{ch:List Addr}(f:Inv X pins σ H s)
  (g:∀b∈ch,(b∈X.ex\/X.s₀.heap.objs.size<=b)/\b≠X.env.locals/\(∀x c,X.env.cells.lookup x=some c->c≠b)/\∀p∈X.pn++pins,p.1≠b)
  (keep:∀b o,b≠X.env.locals->b∉X.fs->b∉ch->s.heap.get? b=some o->H b=none->h'.get? b=some o)
  (slot:∀b o,b≠X.env.locals->b∈X.fs->b∉ch->s.heap.get? b=some o->H b=none->∃C,h'.get? b=some { o with slots:=C }) (free:∀b o,b∉ch->s.heap.get? b=some o->H b=none->H' b=none)
  (there:∀b o,b∉ch->s.heap.get? b=some o->∃A,h'.get? b=some A)
  (tups:∀b xs,H b=some (.tup xs)->H' b=some (.tup xs)) (frzs:∀b o u,H b=some (.frz o u)->H' b=some (.frz o u)) (tbls:∀b ps,H b=some (.tbl ps)->∃more,H' b=some (.tbl (ps++more)))
  (ns:∀m,s.heap.Ns X.env.locals m->h'.Ns X.env.locals m) (hok:HOk X.prog X.w H' h') (G:wo g'):
  Inv X pins σ H' { s with heap:=h',gens:=g',drawn:=d',toks:=t' }:=by
 have B:∀b o,X.s₀.heap.get? b=some o->b≠X.env.locals:=λ b o e=>XO (Y4 (Yo e) f.ok.above)
 have j:∀b o,X.s₀.heap.get? b=some o->b∉X.ex->b∉ch:=λ b o e a hb=>by
  rcases (g b hb).1 with z | z
  ·exact a z
  ·exact absurd (Y4 (Yo e) z) (yA _)
 have t:∀x c,X.env.cells.lookup x=some c->∀v,s.heap.IsCell c v->h'.IsCell c v:=λ x c e v ⟨o,y,hd⟩=>by
  have h:c∉ch:=λ z=>(g c z).2.2.1 x c e rfl
  by_cases hc:c∈X.fs
  ·obtain ⟨C,q⟩:=slot c o (f.cne x c e) hc h y (f.freeC x c e);exact ⟨_,q,hd⟩
  ·exact ⟨o,keep c o (f.cne x c e) hc h y (f.freeC x c e),hd⟩
 refine ⟨f.ok,f.os,G,⟨λ b o e n hb a=>?_,λ b o e n hb a=>?_,λ b o e n a=>?_,λ b o e a=>?_,λ b xs e=>tups b xs (f.base.tups b xs e),λ b o xs e=>frzs b o xs (f.base.frzs b o xs e),λ b ps e=>?_⟩,?_,λ x c e=>?_,?_,λ x c e=>?_,λ p D=>?_,hok,f.len⟩
 ·exact keep b o (B b o e) hb (j b o e a) (f.base.keep b o e n hb a) (f.base.free b o e n a)
 ·obtain ⟨C,e1⟩:=f.base.slot b o e n hb a;obtain ⟨E,e2⟩:=slot b _ (B b o e) hb (j b o e a) e1 (f.base.free b o e n a);exact ⟨E,e2⟩
 ·obtain ⟨A,e1⟩:=f.base.there b o e a;exact free b A (j b o e a) e1 (f.base.free b o e n a)
 ·obtain ⟨A,e1⟩:=f.base.there b o e a;exact there b A (j b o e a) e1
 ·obtain ⟨I,e1⟩:=f.base.tbls b ps e;obtain ⟨J,e2⟩:=tbls b _ e1;exact ⟨I++J,by rw [e2,Array.append_assoc]⟩
 ·obtain ⟨m,K,hl⟩:=f.loc;refine ⟨m,ns m K,λ i x v e1 e2 L=>?_⟩
  obtain ⟨u,r,l⟩:=hl i x v e1 e2 L;refine ⟨u,r,?_⟩;rcases l with l | ⟨k,c,e,z⟩
  ·exact .inl l
  ·exact .inr ⟨k,c,e,t x c e _ z⟩
 ·obtain ⟨v,z⟩:=f.cell x c e;exact ⟨v,t x c e v z⟩
 ·obtain ⟨m,⟨o,_,_,y,_⟩,_⟩:=f.loc;exact free _ o (λ z=>(g _ z).2.1 rfl) y f.free
 ·obtain ⟨v,o,y,hd⟩:=f.cell x c e;exact free c o (λ z=>(g c z).2.2.1 x c e rfl) y (f.freeC x c e)
 ·obtain ⟨e,n,ne,F,d⟩:=f.pin p D;have h:p.1∉ch:=λ z=>(g p.1 z).2.2.2 p D rfl
  exact ⟨keep p.1 p.2 ne F h e n,free p.1 p.2 h e n,ne,F,d⟩
theorem Inv.un {t':Nat}(g:Inv X pins σ H s)(u:Un X.fs [] H H' s.heap h')(hok:HOk X.prog X.w H' h'):Inv X pins σ H' { s with heap:=h',toks:=t' }:=by
 obtain ⟨m,⟨o,es,k,c,r⟩,_⟩:=id g.loc;obtain ⟨l,h⟩:=u.any c g.free (by simp)
 exact g.step (g':=s.gens) (d':=s.drawn) (ch:=[]) (λ _ z=>nomatch z) (λ b o _ hb _ e n=>u.keep b o e n hb (by simp)) (λ b o _ hb _ e n=>u.slot b o e n hb (by simp)) (λ b o _ e n=>u.free b o e n (by simp)) (λ b o _ e=>u.there b o e (by simp)) u.tups u.frzs u.tbls (λ p i=>by
  obtain ⟨q,d,f,a,j⟩:=i;rw [c] at a;cases a;exact ⟨_,d,f,h,j⟩) hok g.bare
theorem Inv.call {g':Array GenState}{t':Nat}{d':Drawn}{ch:List Addr}(j:Inv X pins σ H s)(u:Un (frs X.stack) ch H H' s.heap h')(hok:HOk X.prog X.w H' h')(k:wo g')
  (a:∀b∈ch,(b∈X.ex\/X.s₀.heap.objs.size<=b)/\b≠X.env.locals/\(∀x c,X.env.cells.lookup x=some c->c≠b)/\∀p∈X.pn++pins,p.1≠b):
  Inv X pins σ H' { s with heap:=h',gens:=g',drawn:=d',toks:=t' }:=by
 obtain ⟨m,⟨o,es,t,g,r⟩,_⟩:=id j.loc;obtain ⟨v,f⟩:=u.any g j.free λ z=>(a _ z).2.1 rfl
 exact j.step (ch:=ch) a (λ b o f hb hc e n=>u.keep b o e n (λ z=>(X1.mp (j.stkSub b z)).elim f hb) hc) (λ b o _ _ hc e n=>u.any e n hc) (λ b o hc e n=>u.free b o e n hc) (λ b o hc e=>u.there b o e hc) u.tups u.frzs u.tbls (λ y l=>by
  obtain ⟨A,h,i,d,q⟩:=l;rw [g] at d;cases d;exact ⟨_,h,i,f,q⟩) hok k
theorem Inv.turned {t':Nat}{it:Addr}(f:Inv X pins σ H s)(k:∀b o,b≠it->s.heap.get? b=some o->h'.get? b=some o)(g:H it=none)(d:it≠X.env.locals)
  (h:it∈X.ex\/X.s₀.heap.objs.size<=it) (i:∀x c,X.env.cells.lookup x=some c->c≠it) (j:∀p∈X.pn++pins,p.1≠it):Inv X pins σ H { s with heap:=h',toks:=t' }:=by
 have a:∀b u,H b=some u->b≠it:=λ b u e z=>by rw [z,g] at e;cases e
 refine f.step (g':=s.gens) (d':=s.drawn) (ch:=[it]) (λ b hb=>?_) (λ b o _ _ hc e _=>k b o (λ z=>hc (by simp [z])) e) (λ b o _ _ hc e _=>⟨o.slots,k b o (λ z=>hc (by simp [z])) e⟩) (λ _ _ _ _ n=>n)
  (λ b o hc e=>⟨o,k b o (λ z=>hc (by simp [z])) e⟩) (λ _ _ e=>e) (λ _ _ _ e=>e) (λ b ps e=>⟨#[],by rw [e];simp⟩) (λ m l=>?_) (λ b u e=>?_) f.bare
 ·have e:b=it:=by simpa using hb
  subst e;exact ⟨h,d,i,j⟩
 ·obtain ⟨o,es,t,w,r⟩:=l;exact ⟨o,es,t,k _ o (JE d) w,r⟩
 ·refine (f.hok b u e).stay (λ c v hc q=>k c v ?_ q) (λ _ q=>q) λ _ _ q=>q
  rcases hc with z | z
  ·rw [z];exact a b u e
  ·exact a c _ z
theorem Inv.tok (a:Inv X pins σ H s)(t:Nat):Inv X pins σ H { s with toks:=t }:=a.un (h':=s.heap) (t':=t) Un.refl a.hok
theorem Inv.kept {t':Nat}(a:Inv X pins σ H s)(k:∀b u,s.heap.get? b=some u->h'.get? b=some u):Inv X pins σ H { s with heap:=h',toks:=t' }:=a.un (Un.kept k) (a.hok.kept k)
theorem Inv.laid {a:Addr}{o:HO}{t':Nat}(e:Inv X pins σ H s)(k:∀b u,s.heap.get? b=some u->h'.get? b=some u)(c:s.heap.objs.size<=a)(d:ObjOk X.prog X.w (upd H a o) h' a o):
  Inv X pins σ (upd H a o) { s with heap:=h',toks:=t' }:=e.un (Un.laid k c (e.hok.fresh c)) (e.hok.laid k c d)
theorem Inv.write {x e:Addr}{o:HO}{t':Nat}(f:Inv X pins σ H s)(c:Mut (H x))(he:e=x\/H e=some (.own x))(k:∀b u,b≠e->s.heap.get? b=some u->h'.get? b=some u)(a:∃u,h'.get? e=some u)
  (d:ObjOk X.prog X.w (upd H x o) h' x o):Inv X pins σ (upd H x o) { s with heap:=h',toks:=t' }:=f.un (Un.write c he k a) (f.hok.write c he k a d)
theorem Inv.pins_of {a:List (Addr×Obj)}(b:Inv X pins σ H s)(h:∀p∈a,s.heap.get? p.1=some p.2/\H p.1=none/\p.1≠X.env.locals/\p.1∉X.fs/\∀v,p.2.data≠.cell v):Inv X a σ H s:=
 ⟨b.ok,b.os,b.bare,b.base,b.loc,b.cell,b.free,b.freeC,λ p c=>(YT.mp c).elim (λ z=>b.pin p (UK _ z)) (h p),b.hok,b.len⟩
theorem mF {N:List Str}(c:N.Nodup){i j:Nat}{x:Str}(a:N[i]?=some x)(b:N[j]?=some x):i=j:=by
 obtain ⟨d,e1⟩:=YL.mp a;obtain ⟨e,e2⟩:=YL.mp b;exact (List.getElem_inj c).mp (e1.trans e2.symm)
theorem ug {M:Model}{A:XW}{E:Value->U2->Prop}{i:Nat}{x:Str}{v:V}{u:Value}{Q:Unit->U2->Prop}(f:Inv X pins σ H s)(a3:X.N.Nodup)(hi:X.N[i]?=some x)(l:Loc X.env.scope x)(r:RelV v u)
  (h:∀s',Inv X pins (σ.set i (some v)) H s'->(∃a,zS a s.heap s'.heap/\(a=X.env.locals\/X.env.cells.lookup x=some a))->Q () s') (hf:X.fn x=true\/X.env.scope.names.lookup x=some .local:=by first | exact .inl rfl | exact .inr rfl | assumption):wpAny M A (storeName X.env x u) Q E s:=by
 obtain ⟨m,P,hl⟩:=id f.loc;have R:(X.env.scope.kind == .class || (X.env.scope.kind == .module && X.env.locals != X.env.globals))=false:=by rw [f.ok.kind];rfl
 have F:i < σ.length:=by rw [f.len];exact (YL.mp hi).1
 have cne:=f.cne;have t:∀{a:Addr} {h':Heap},(∃o,s.heap.get? a=some o/\H a=none)->zS a s.heap h'->HOk X.prog X.w H h':=λ {a h'} ha g b a7 e=>by
  obtain ⟨_,_,D⟩:=ha;refine (f.hok b a7 e).stay (λ c I hc q=>(g.2 c ?_).trans q) (λ _ q=>q) λ _ _ q=>q
  rintro rfl
  rcases hc with rfl | hc
  ·rw [D] at e;cases e
  ·rw [D] at hc;cases hc
 rcases l with B | B
 ·refine wpAny_storeName_local B P (λ h' a4 g=>?_) R
  obtain ⟨a8,_,_,a5,_⟩:=id P;refine h _ ⟨f.ok,f.os,f.bare,⟨λ b o e n hb l=>?_,λ b o e n hb l=>?_,f.base.free,λ b o e l=>?_,f.base.tups,f.base.frzs,f.base.tbls⟩,⟨_,a4,λ j y S e1 e2 T=>?_⟩,λ y c e=>?_,f.free,f.freeC,λ p U=>?_,t ⟨a8,a5,f.free⟩ g,by simpa using f.len⟩ ⟨_,g,.inl rfl⟩
  ·exact (g.2 b (XO (Y4 (Yo e) f.ok.above))).trans (f.base.keep b o e n hb l)
  ·obtain ⟨W,e1⟩:=f.base.slot b o e n hb l;exact ⟨W,(g.2 b (XO (Y4 (Yo e) f.ok.above))).trans e1⟩
  ·obtain ⟨Y,e1⟩:=f.base.there b o e l;exact ⟨Y,(g.2 b (XO (Y4 (Yo e) f.ok.above))).trans e1⟩
  ·by_cases C:j=i
   ·subst C;rw [hi] at e1;cases e1;rw [UQ F] at e2;cases e2
    exact ⟨u,r,.inl ⟨B,by simp⟩⟩
   ·rw [yY (JE C)] at e2;obtain ⟨Z,a0,q⟩:=hl j y S e1 e2 T;refine ⟨Z,a0,?_⟩;rcases q with ⟨k,e⟩ | ⟨k,c,e,z⟩
    ·refine .inl ⟨k,?_⟩;have:y≠x:=λ e=>C (mF a3 e1 (e▸hi))
     simp [this,e]
    ·exact .inr ⟨k,c,e,z.sameBut g (cne y c e)⟩
  ·obtain ⟨I,z⟩:=f.cell y c e;exact ⟨I,z.sameBut g (cne y c e)⟩
  ·obtain ⟨e,n,ne,a1,d⟩:=f.pin p U;exact ⟨(g.2 p.1 ne).trans e,n,ne,a1,d⟩
 ·have G:X.fn x=true:=by
   rcases hf with z | z
   ·exact z
   ·rw [z] at B;cases B
  obtain ⟨c,hc⟩:=f.ok.has x (.inl B);obtain ⟨I,z⟩:=f.cell x c hc;refine wpAny_storeName_cell f.ok.kind B hc z (λ h' K g=>?_)
  obtain ⟨a6,L,a2⟩:=id z;refine h { s with heap:=h' } ⟨f.ok,f.os,f.bare,⟨λ b o e n hb l=>?_,λ b o e n hb l=>?_,f.base.free,λ b o e l=>?_,f.base.tups,f.base.frzs,f.base.tbls⟩,⟨m,P.sameBut g (JE (cne x c hc)),λ j y S e1 e2 T=>?_⟩,λ y J e=>?_,f.free,f.freeC,λ p U=>?_,t ⟨a6,L,f.freeC x c hc⟩ g,by simpa using f.len⟩ ⟨c,g,.inr hc⟩
  ·exact (g.2 b (XO (Y4 (Yo e) (f.ok.cab x c G hc)))).trans (f.base.keep b o e n hb l)
  ·obtain ⟨W,e1⟩:=f.base.slot b o e n hb l;exact ⟨W,(g.2 b (XO (Y4 (Yo e) (f.ok.cab x c G hc)))).trans e1⟩
  ·obtain ⟨Y,e1⟩:=f.base.there b o e l;exact ⟨Y,(g.2 b (XO (Y4 (Yo e) (f.ok.cab x c G hc)))).trans e1⟩
  ·by_cases C:j=i
   ·subst C;rw [hi] at e1;cases e1;rw [UQ F] at e2;cases e2
    exact ⟨u,r,.inr ⟨.inl B,c,hc,K⟩⟩
   ·rw [yY (JE C)] at e2;obtain ⟨Z,a0,q⟩:=hl j y S e1 e2 T;refine ⟨Z,a0,?_⟩;rcases q with q | ⟨k,J,e,a9⟩
    ·exact .inl q
    ·refine .inr ⟨k,J,e,a9.sameBut g ?_⟩;rintro rfl
     exact C (mF a3 e1 (f.ok.inj _ _ _ e hc▸hi))
  ·by_cases O:J=c
   ·subst O;exact ⟨_,K⟩
   ·obtain ⟨b0,b1⟩:=f.cell y J e;exact ⟨b0,b1.sameBut g O⟩
  ·obtain ⟨e,n,ne,a1,d⟩:=f.pin p U;refine ⟨(g.2 p.1 ?_).trans e,n,ne,a1,d⟩;intro q;rw [q,L] at e;have b2:a6=p.2:=XU e;exact d I (by rw [<- b2];exact a2)
theorem Jk {M:Model}{A:XW}{E:Value->U2->Prop}{i:Nat}{x:Str}{v:V}{u:Value}{Q:Unit->U2->Prop}(d:Inv X pins σ H s)(a:X.N.Nodup)(hi:X.N[i]?=some x)(b:Loc X.env.scope x)(r:RelV v u)
  (h:∀s',Inv X pins (σ.set i (some v)) H s'->Q () s') (hf:X.fn x=true\/X.env.scope.names.lookup x=some .local:=by first | exact .inl rfl | exact .inr rfl | assumption):wpAny M A (storeName X.env x u) Q E s:=
 ug d a hi b r (λ s' c _=>h s' c) hf
theorem Inv.call' {s':U2}{ch:List Addr}(h:Inv X pins σ H s)(d:s'.os=s.os)(u:Un (frs X.stack) ch H H' s.heap s'.heap)(hok:HOk X.prog X.w H' s'.heap)(f:wo s'.gens)
  (a:∀b∈ch,(b∈X.ex\/X.s₀.heap.objs.size<=b)/\b≠X.env.locals/\(∀x c,X.env.cells.lookup x=some c->c≠b)/\∀p∈X.pn++pins,p.1≠b):Inv X pins σ H' s':=by
 obtain ⟨h',g',d',t',g⟩:=s';have e:g=s.os:=d;subst e;exact h.call (g':=g') (t':=t') (d':=d') u hok f a
end
abbrev XK:=Value->Option Addr->Hp->Prop
abbrev St:=List (Option V)
abbrev VK:=V->Hp->Prop
abbrev TE:=St->Hp->VK->Prop
abbrev TT:=St->Hp->(Bool->Hp->Prop)->Prop
abbrev TA:=St->Hp->(List V->Hp->Prop)->Prop
structure Ends where
 nx:St->Hp->Prop
 rt:VK
 bk:St->Hp->Prop:=λ _ _=>False
 ct:St->Hp->Prop:=λ _ _=>False
abbrev TS:=Ends->St->Hp->Prop
def EP (X:Cx)(a:List (Addr×Obj))(c:St)(Q:VK)(u:Value)(s':U2):Prop:=∃v b,Inv X a c b s'/\RelV v u/\Q v b
def TP (X:Cx)(a:List (Addr×Obj))(d:St)(Q:Bool->Hp->Prop)(b:Bool)(s':U2):Prop:=∃c,Inv X a d c s'/\Q b c
def AP (X:Cx)(a:List (Addr×Obj))(c:St)(Q:List V->Hp->Prop)(us:List Value)(s':U2):Prop:=∃vs b,Inv X a c b s'/\Vals vs us/\Q vs b
def SP (X:Cx)(c:List (Addr×Obj))(d:Ends)(f:Flow)(s':U2):Prop:=
 match f with
 | .next=>∃a b,Inv X c a b s'/\d.nx a b
 | .brk=>∃a b,Inv X c a b s'/\d.bk a b
 | .cont=>∃a b,Inv X c a b s'/\d.ct a b
 | .ret u=>∃v a b,Inv X c a b s'/\RelV v u/\d.rt v b
def PE (X:Cx)(e:Expr)(t:TE):Prop:=
 ∀(a:List (Addr×Obj)) (s:U2) (b:St) (H:Hp) (Q:VK),Inv X a b H s->t b H Q->wpAny (model X.prog X.w) X.A (eval e X.env) (EP X a b Q) X.xe s
def PT (X:Cx)(e:Expr)(t:TT):Prop:=
 ∀(a:List (Addr×Obj)) (s:U2) (b:St) (H:Hp) (Q:Bool->Hp->Prop),Inv X a b H s->t b H Q->wpAny (model X.prog X.w) X.A (isTrue e X.env (eval e X.env)) (TP X a b Q) X.xe s
def PW (X:Cx)(e:Expr)(t:TT):Prop:=
 ∀(b:Sem Value) (a:List (Addr×Obj)) (s:U2) (c:St) (H:Hp) (Q:Bool->Hp->Prop),Inv X a c H s->t c H Q->wpAny (model X.prog X.w) X.A (isTrue e X.env b) (TP X a c Q) X.xe s
theorem PW.pt {X:Cx}{e:Expr}{t:TT}(h:PW X e t):PT X e t:=h _
def PA (X:Cx)(es:List Expr)(t:TA):Prop:=
 ∀(pos:Pos) (a:List (Addr×Obj)) (s:U2) (b:St) (H:Hp) (Q:List V->Hp->Prop),Inv X a b H s->t b H Q->wpAny (model X.prog X.w) X.A (spliced (yT pos (XE es X.env))) (AP X a b Q) X.xe s
def PS (X:Cx)(st:Stmt)(t:TS):Prop:=
 ∀(a:List (Addr×Obj)) (s:U2) (b:St) (H:Hp) (c:Ends),Inv X a b H s->t c b H->wpAny (model X.prog X.w) X.A (exec st X.env) (SP X a c) X.xe s
def PSs (X:Cx)(st:List Stmt)(t:TS):Prop:=
 ∀(a:List (Addr×Obj)) (s:U2) (b:St) (H:Hp) (c:Ends),Inv X a b H s->t c b H->wpAny (model X.prog X.w) X.A (execs st X.env) (SP X a c) X.xe s
theorem thn {b:Type}{t:Sem b}{Q c:b->U2->Prop}{M:Model}{A:XW}{E:Value->U2->Prop}{s:U2}(h:wpAny M A t Q E s)(d:∀a s,Q a s->c a s):wpAny M A t c E s:=UZ h d λ _ _ x=>x
section
variable {X:Cx}
inductive tVar (i:Nat)(σ:St)(H:Hp)(Q:VK):Prop | mk (v:_) (_:σ[i]?=some (some v)) (_:Q v H)
def tC (v:V):TE:=λ _ H Q=>Q v H
theorem AY5 {i:Nat}{x:Str}{pos:Pos}(j:X.N[i]?=some x)(hv:Vis X.env.scope x)(hd:(x == ("__debug__":Str))=false:=by decide)(f:(x == ("__classdict__":Str))=false:=by decide):PE X (.Name x pos) (tVar i):=by
 intro d s k H Q g h;obtain ⟨v,e,h⟩:=h;obtain ⟨m,n,hl⟩:=g.loc;obtain ⟨u,r,l⟩:=hl i x v j e hv;have b:EP X d k Q u s:=⟨v,H,g,r,h⟩;rcases l with ⟨a,o⟩ | ⟨a,c,hc,hcell⟩
 ·exact wpAny_Name (ul g.ok.kind a n o b) hd
 ·rcases a with a | a
  ·exact wpAny_Name (wpAny_loadName_cell g.ok.kind a hc hcell b) hd
  ·exact wpAny_Name (wpAny_loadName_free g.ok.kind a hc hcell b f) hd
theorem Ab {i j pos}:PE X (.Constant (.int i) j pos) (tC (.int i)):=λ _ _ _ H _ a h=>wpAny_Constant_int ⟨.int i,H,a.tok _,⟨_,rfl⟩,h⟩
theorem Dn {b j pos}:PE X (.Constant (.bool b) j pos) (tC (.bl b)):=λ _ _ _ H _ a h=>Constant_bool ⟨.bl b,H,a,rfl,h⟩
theorem Ec {j pos}:PE X (.Constant .none j pos) (tC .non):=λ _ _ _ H _ a h=>Constant_none ⟨.non,H,a,rfl,h⟩
theorem Ba {x j pos}:PE X (.Constant (.str x) j pos) (tC (.str x)):=λ _ _ _ H _ a h=>Calls.Constant_str ⟨.str x,H,a.tok _,⟨_,rfl⟩,h⟩
def Gl (X:Cx)(x:Str):Prop:=X.env.kindOf x=some .globalImplicit
theorem Kc {E:Value->U2->Prop}{a:List (Addr×Obj)}{s:U2}{c:St}{H:Hp}{x:Str}{u:Value}{pos:Pos}{Q:Value->U2->Prop}(b:Inv X a c H s)(d:Gl X x)(e:X.mg x=some u)(h:Q u s)
  (hd:(x == ("__debug__":Str))=false:=by decide):wpAny (model X.prog X.w) X.A (eval (.Name x pos) X.env) Q E s:=
 xa b.ok.kind d (Fm (by rw [b.ok.glob];exact b.mod.glob.keeps b.bk) e h) hd
theorem Il {E:Value->U2->Prop}{a:List (Addr×Obj)}{s:U2}{c:St}{H:Hp}{x:Str}{u:Value}{pos:Pos}{Q:Value->U2->Prop}(b:Inv X a c H s)(d:Gl X x)(e:X.mg x=none)(hv:Uf x=some u)(h:Q u s)
  (f:x≠"__name__":=by decide) (hd:(x == ("__debug__":Str))=false:=by decide):wpAny (model X.prog X.w) X.A (eval (.Name x pos) X.env) Q E s:=by
 obtain ⟨j,g,i⟩:=b.mod.blt;exact xa b.ok.kind d (Calls.loadGlobal_builtin (by rw [b.ok.glob];exact b.mod.glob.keeps b.bk) e (by rw [b.ok.blt];exact g.keeps b.bk) ((i x f).trans hv) h) hd
theorem Bb {x:Str}{v:V}{u:Value}{pos:Pos}(a:Gl X x)(b:X.mg x=some u)(r:RelV v u)(hd:(x == ("__debug__":Str))=false:=by decide):PE X (.Name x pos) (tC v):=
 λ _ _ _ H _ c h=>Kc c a b ⟨v,H,c,r,h⟩ hd
theorem Fg {x:Str}{v:V}{u:Value}{pos:Pos}(a:Gl X x)(b:X.mg x=none)(hv:Uf x=some u)(r:RelV v u)(c:x≠"__name__":=by decide)(hd:(x == ("__debug__":Str))=false:=by decide):PE X (.Name x pos) (tC v):=
 λ _ _ _ H _ d h=>Il d a b hv ⟨v,H,d,r,h⟩ c hd
variable {a b:Expr}{ta tb:TE}{pos:Pos}
def PC (X:Cx)(g:CmpOp)(a b:Expr)(t:TE):Prop:=
 ∀(c:List (Addr×Obj)) (s:U2) (d:St) (H:Hp) (Q:VK),Inv X c d H s->t d H Q->
  wpAny (model X.prog X.w) X.A (eval a X.env) (λ v e=>wpAny (model X.prog X.w) X.A (eval b X.env) (λ u f=>wpAny (model X.prog X.w) X.A (Uh g v u) (EP X c d Q) X.xe f) X.xe e) X.xe s
inductive tBX (Q:Bool->Hp->Prop)(x:V)(H1:Hp):Prop | mk (c:_) (_:x=.bl c) (_:Q c H1)
def tB (t:TE):TT:=λ c H Q=>t c H λ x d=>tBX Q x d
theorem xU {e:CmpOp}{t:TE}(h:PC X e a b t)(f:xr e b=false:=by first | exact nobehind _ ⋯ ⋯ | rfl):PT X (.Compare a [e] [b] pos) (tB t):=by
 intro g s i H Q p j;refine wpAny_isTrue_Compare1 (thn (h g s i H _ p j) λ v r f=>thn f λ u w k=>thn k λ c y ⟨x,l,m,n,o⟩=>?_) f
 obtain ⟨d,rfl,q⟩:=o;cases n
 exact Ja ⟨l,m,q⟩
theorem Bs {e:Expr}{t:TE}(h:PE X e t)(he:∀c,isTrue e X.env c=(do let v <- c;standAt e.pos;GM [v] (truthy v)):=by intro _;rfl):PT X e (tB t):=by
 intro f s g H Q n i;refine isTrue_plain (thn (h f s g H _ n i) λ v o ⟨x,j,k,l,m⟩=>?_) (he _)
 obtain ⟨d,rfl,q⟩:=m;cases l
 exact Ja ⟨j,k,q⟩
variable {tA tB':TT}{rest:List Expr}
def tAnd (t u:TT):TT:=λ d H Q=>t d H λ c e=>if c=true then u d e Q else Q false e
def tOr (t u:TT):TT:=λ d H Q=>t d H λ c e=>if c=true then Q true e else u d e Q
def tNot (t:TT):TT:=λ d H Q=>t d H λ c e=>Q (!c) e
theorem pw_and1 (ha:PT X a tA):PW X (.BoolOp .And [a] pos) tA:=by
 intro g d s f H Q i h;refine isTrue_and (thn (ha d s f H Q i h) λ c j e=>?_)
 cases c with
 | true=>exact isTrue_and_nil e
 | false=>exact e
theorem pw_or1 (ha:PT X a tA):PW X (.BoolOp .Or [a] pos) tA:=by
 intro g d s f H Q i h;refine isTrue_or (thn (ha d s f H Q i h) λ c j e=>?_)
 cases c with
 | false=>exact isTrue_or_nil e
 | true=>exact e
theorem pw_and (ha:PT X a tA)(hb:PW X (.BoolOp .And (b::rest) pos) tB'):PW X (.BoolOp .And (a::b::rest) pos) (tAnd tA tB'):=by
 intro j d s e H Q l h;refine isTrue_and (thn (ha d s e H _ l h) λ c k ⟨f,g,i⟩=>?_)
 cases c with
 | true=>exact hb j d k e f Q g i
 | false=>exact ⟨f,g,i⟩
theorem pw_or (ha:PT X a tA)(hb:PW X (.BoolOp .Or (b::rest) pos) tB'):PW X (.BoolOp .Or (a::b::rest) pos) (tOr tA tB'):=by
 intro j d s e H Q l h;refine isTrue_or (thn (ha d s e H _ l h) λ c k ⟨f,g,i⟩=>?_)
 cases c with
 | true=>exact ⟨f,g,i⟩
 | false=>exact hb j d k e f Q g i
theorem Cd (ha:PT X a tA):PT X (.UnaryOp .Not a pos) (tNot tA):=by
 intro d s e H Q g h;exact isTrue_not (ha d s e H (λ c f=>Q (!c) f) g h)
inductive uG (tb:TE)(σ:St)(Q:VK)(x:V)(H1:Hp):Prop | mk (c:_) (_:x=.bl c) (_:if c=true then tb σ H1 Q else Q (.bl false) H1)
def tAndV (ta tb:TE):TE:=λ c H Q=>ta c H λ x d=>uG tb c Q x d
inductive uq (Q:VK)(x:V)(H1:Hp):Prop | mk (c:_) (_:x=.bl c) (_:Q (.bl (!c)) H1)
def tNotV (ta:TE):TE:=λ c H Q=>ta c H λ x d=>uq Q x d
theorem Ho {op}{t:TE}(h:PE X a t):PE X (.BoolOp op [a] pos) t:=λ c s d H Q f e=>BoolOp_one (h c s d H Q f e)
theorem HX (ha:PE X a ta)(hb:PE X (.BoolOp .And (b::rest) pos) tb):PE X (.BoolOp .And (a::b::rest) pos) (tAndV ta tb):=by
 intro d s f H Q l h;refine BoolOp_and (thn (ha d s f H _ l h) λ v j ⟨x,g,i,k,e⟩=>?_)
 obtain ⟨c,rfl,e⟩:=e;cases k
 refine Ja ?_;cases c with
 | true=>exact hb d j f g Q i e
 | false=>exact ⟨.bl false,g,i,rfl,e⟩
theorem Ms (ha:PE X a ta):PE X (.UnaryOp .Not a pos) (tNotV ta):=by
 intro d s f H Q k h;refine UnaryOp_ (thn (ha d s f H _ k h) λ v l ⟨x,g,i,j,e⟩=>?_)
 obtain ⟨c,rfl,e⟩:=e;cases j
 exact not_of (Ja ⟨.bl (!c),g,i,rfl,e⟩)
def tIf (t:TT)(ta tb:TE):TE:=λ d H Q=>t d H λ c e=>if c=true then ta d e Q else tb d e Q
theorem Fy {c:Expr}(hc:PT X c tA)(ha:PE X a ta)(hb:PE X b tb):PE X (.IfExp c a b pos) (tIf tA ta tb):=by
 intro e s f H Q l h;refine wpAny_IfExp (thn (hc e s f H _ l h) λ d g ⟨i,j,k⟩=>?_)
 cases d with
 | true=>exact ha e g f i Q j k
 | false=>exact hb e g f i Q j k
end
def SqL (K:FrG)(H:Hp)(a:Addr)(xs:List V):Prop:=
 Rd H a (.lst xs)\/
  ∃(o:Obj) (its:Array Value) (n:Nat),K.lookup a=some o/\o.cls=.type "list"/\o.dict=none/\o.data=.seq its n/\its.size<=Y3/\Vals xs its.toList
def SqT (K:FrG)(H:Hp)(a:Addr)(xs:List V):Prop:=
 Rd H a (.tup xs)\/
  ∃(o:Obj) (its:Array Value) (n:Nat),K.lookup a=some o/\o.cls=.type "tuple"/\o.data=.seq its n/\its.size<=Y3/\Vals xs its.toList
def absV:Value->Option V
 | .none=>some .non
 | .bool b=>some (.bl b)
 | .int i _=>some (.int i)
 | .str x _=>some (.str x)
 | .bytes b _=>some (.byt b)
 | .float b _=>some (.flt b)
 | .ref a=>some (.ref a)
 | .type n=>some (.ty n)
 | _=>none
theorem RelV.abs {x:V}{u:Value}(r:RelV x u):absV u=some x:=by
 cases x with
 | non=>cases r;rfl
 | bl _=>cases r;rfl
 | int _=>obtain ⟨t,rfl⟩:=r;rfl
 | str _=>obtain ⟨t,rfl⟩:=r;rfl
 | byt _=>obtain ⟨t,rfl⟩:=r;rfl
 | flt _=>obtain ⟨t,rfl⟩:=r;rfl
 | ref _=>cases r;rfl
 | ty _=>cases r;rfl
theorem RelV.inj {x y:V}{u:Value}(r:RelV x u)(q:RelV y u):x=y:=XU (r.abs.symm.trans q.abs)
theorem Vals.inj:∀{xs a:List V} {us:List Value},Vals xs us->Vals a us->xs=a
 | _,_,_,.nil,.nil=>rfl
 | _,_,_,.cons r t,.cons b t'=>by rw [r.inj b,Vals.inj t t']
section
variable {X:Cx}{pins:List (Addr×Obj)}{σ:St}{H:Hp}{s:U2}{a:Addr}{xs ys:List V}
theorem SqL.of {K:FrG}(h:H a=some (.lst xs)):SqL K H a xs:=.inl (.inl h)
theorem SqT.of {K:FrG}(h:H a=some (.tup xs)):SqT K H a xs:=.inl (.inl h)
theorem Inv.list (d:Inv X pins σ H s)(h:SqL X.K H a xs):∃its:List Value,Vals xs its/\PlainL s.heap a its.toArray/\xs.length<=Y3:=by
 rcases h with h | ⟨o,its,n,b,hc,hd,c,hz,r⟩
 ·obtain ⟨z,its,n,r,e⟩:=h.ok d.hok;exact ⟨its,r,⟨_,n,e,rfl,rfl,rfl⟩,z⟩
 ·refine ⟨its.toList,r,⟨o,n,d.kIn a o b,hc,hd,by simpa using c⟩,?_⟩
  have e:=r.length;simp only [UF] at e;omega
theorem Inv.tuple (d:Inv X pins σ H s)(h:SqT X.K H a xs):∃its:List Value,Vals xs its/\IsTup s.heap a its.toArray/\xs.length<=Y3:=by
 rcases h with h | ⟨o,its,n,b,hc,c,hz,r⟩
 ·obtain ⟨z,its,r,p⟩:=h.ok d.hok;exact ⟨its,r,p,z⟩
 ·refine ⟨its.toList,r,⟨o,d.kIn a o b,hc,n,by simpa using c⟩,?_⟩
  have e:=r.length;simp only [UF] at e;omega
theorem Inv.list_inj (g:Inv X pins σ H s)(h:SqL X.K H a xs)(h':SqL X.K H a ys):xs=ys:=by
 obtain ⟨its,r,⟨o,n,e,_,_,d⟩,_⟩:=g.list h;obtain ⟨its',c,⟨i,j,b,_,_,d'⟩,_⟩:=g.list h';rw [e] at b;cases b;rw [d] at d'
 injection d' with f _
 have:its=its':=by simpa using congrArg Array.toList f
 subst this;exact r.inj c
theorem Inv.tuple_inj (g:Inv X pins σ H s)(h:SqT X.K H a xs)(h':SqT X.K H a ys):xs=ys:=by
 obtain ⟨its,r,⟨o,e,_,n,d⟩,_⟩:=g.tuple h;obtain ⟨its',c,⟨i,b,_,j,d'⟩,_⟩:=g.tuple h';rw [e] at b;cases b;rw [d] at d'
 injection d' with f _
 have:its=its':=by simpa using congrArg Array.toList f
 subst this;exact r.inj c
end
abbrev Cx.wish (X:Cx)(E:Value->U2->Prop):Cx:={ X with xe:=E }
abbrev Cx.nox (X:Cx):Cx:=X.wish λ _ _=>False
theorem Cx.Ok.wish {X:Cx}(ok:X.Ok)(E:Value->U2->Prop):(X.wish E).Ok:=
 ⟨ok.mod,ok.kind,ok.glob,ok.blt,ok.above,ok.inj,ok.has,ok.cab,ok.hd,ok.frames,ok.stk,ok.exf,ok.bs,ok.bsz,ok.noex,ok.exfs,ok.funs,ok.frf⟩
theorem Cx.Ok.unwish {X:Cx}{E:Value->U2->Prop}(ok:(X.wish E).Ok):X.Ok:=
 ⟨ok.mod,ok.kind,ok.glob,ok.blt,ok.above,ok.inj,ok.has,ok.cab,ok.hd,ok.frames,ok.stk,ok.exf,ok.bs,ok.bsz,ok.noex,ok.exfs,ok.funs,ok.frf⟩
section
variable {X:Cx}{pins:List (Addr×Obj)}{σ:St}{H:Hp}{s:U2}{E:Value->U2->Prop}
theorem Inv.wish (a:Inv X pins σ H s)(E:Value->U2->Prop):Inv (X.wish E) pins σ H s:=⟨a.ok.wish E,a.os,a.bare,a.base,a.loc,a.cell,a.free,a.freeC,a.pin,a.hok,a.len⟩
theorem Inv.unwish (a:Inv (X.wish E) pins σ H s):Inv X pins σ H s:=⟨a.ok.unwish,a.os,a.bare,a.base,a.loc,a.cell,a.free,a.freeC,a.pin,a.hok,a.len⟩
theorem SP.unwish {d:Ends}{f:Flow}{s':U2}(h:SP (X.wish E) pins d f s'):SP X pins d f s':=by
 cases f with
 | next=>obtain ⟨a,b,c,q⟩:=h;exact ⟨a,b,c.unwish,q⟩
 | brk=>obtain ⟨a,b,c,q⟩:=h;exact ⟨a,b,c.unwish,q⟩
 | cont=>obtain ⟨a,b,c,q⟩:=h;exact ⟨a,b,c.unwish,q⟩
 | ret u=>obtain ⟨v,a,b,c,r,q⟩:=h;exact ⟨v,a,b,c.unwish,r,q⟩
theorem PSs.nox {st:List Stmt}{t:TS}(h:PSs X.nox st t):PSs X st t:=λ pins s σ H b c a=>
 UZ (h pins s σ H b (c.wish _) a) (λ _ _ q=>q.unwish) λ _ _ z=>UI z
end
section
variable {X:Cx}{st:Stmt}{rest:List Stmt}{t u:TS}{e:Expr}{te:TE}{pos:Pos}
def tNext:TS:=λ b a H=>b.nx a H
def tSeq (t u:TS):TS:=λ b a H=>t { b with nx:=u b } a H
theorem BL:PSs X [] tNext:=λ _ _ a H _ b h=>uT ⟨a,H,b,h⟩
theorem Ah (c:PS X st t)(d:PSs X rest u):PSs X (st::rest) (tSeq t u):=by
 intro a s g H i m h;refine FF (thn (c a s g H { i with nx:=u i } m h) λ f j q=>?_)
 cases f with
 | next=>
  obtain ⟨b,k,l,q⟩:=q;exact d a j b k i l q
 | ret v=>exact q
 | brk=>exact q
 | cont=>exact q
theorem Aj (b:PS X st t):PSs X [st] t:=by
 intro a s c H d g h;refine FF (thn (b a s c H d g h) λ f i q=>?_)
 cases f with
 | next=>exact uT q
 | ret v=>exact q
 | brk=>exact q
 | cont=>exact q
theorem Inv.quiet {a:List (Addr×Obj)}{b:St}{H:Hp}{s:U2}(c:Inv X a b H s):interactive X.env=false:=by simp [interactive,c.ok.kind]
def tDrop (te:TE):TS:=λ c a H=>te a H λ _ b=>c.nx a b
theorem Cq (he:PE X e te)(c:jS e none pos.line X.env=pure false:=by rfl):PS X (.Expr e pos) (tDrop te):=by
 intro a s b H l i h;exact wpAny_Expr_any (thn (he a s b H _ i h) λ v j ⟨x,d,f,k,g⟩=>⟨b,d,f,g⟩) i.quiet c
def tRet (te:TE):TS:=λ b a H=>te a H b.rt
theorem Ar (he:PE X e te):PS X (.Return (some e) pos) (tRet te):=by
 intro a s b H k i h;exact wpAny_Return_some (thn (he a s b H _ i h) λ v j ⟨x,c,d,f,g⟩=>⟨x,b,c,d,f,g⟩)
def tIfS (c:TT)(t u:TS):TS:=λ f a H=>c a H λ b d=>if b=true then t f a d else u f a d
theorem BJ {c:Expr}{a b:List Stmt}{i:TT}(hc:PT X c i)(ha:PSs X a t)(hb:PSs X b u):PS X (.If c a b pos) (tIfS i t u):=by
 intro f s g H n o h;refine wpAny_If (thn (hc f s g H _ o h) λ d j ⟨k,l,m⟩=>?_)
 cases d with
 | true=>exact ha f j g k n l m
 | false=>exact hb f j g k n l m
def tNever:TS:=λ _ _ _=>False
theorem Dh:PS X st tNever:=λ _ _ _ _ _ _ h=>h.elim
end
abbrev TG:=V->St->Hp->(St->Hp->Prop)->Prop
abbrev TGs:=List V->St->Hp->(St->Hp->Prop)->Prop
def PG (X:Cx)(a:Expr)(t:TG):Prop:=
 ∀(b:List (Addr×Obj)) (s:U2) (d:St) (H:Hp) (v:V) (u:Value) (Q:St->Hp->Prop),Inv X b d H s->RelV v u->t v d H Q->
  wpAny (model X.prog X.w) X.A (Fc a X.env u) (λ _ s'=>∃c e,Inv X b c e s'/\Q c e) X.xe s
def PGs (X:Cx)(e:List Expr)(t:TGs):Prop:=
 ∀(a:List (Addr×Obj)) (s:U2) (c:St) (H:Hp) (vs:List V) (us:List Value) (Q:St->Hp->Prop),Inv X a c H s->Vals vs us->t vs c H Q->
  wpAny (model X.prog X.w) X.A (Fh ((zl e X.env).map (·.2)) us) (λ _ s'=>∃b d,Inv X a b d s'/\Q b d) X.xe s
abbrev TSet:=V->V->V->Hp->(Hp->Prop)->Prop
def PSet (X:Cx)(t:TSet):Prop:=
 ∀(a:List (Addr×Obj)) (s:U2) (b:St) (H:Hp) (o i v:V) (c d u:Value) (Q:Hp->Prop),Inv X a b H s->RelV o c->RelV i d->RelV v u->t o i v H Q->
  wpAny (model X.prog X.w) X.A (setItem c d u) (λ _ s'=>∃e,Inv X a b e s'/\Q e) X.xe s
abbrev TIp:=V->V->Hp->VK->Prop
def PIp (X:Cx)(c:NV)(t:TIp):Prop:=
 ∀(a:List (Addr×Obj)) (s:U2) (b:St) (H:Hp) (x y:V) (v u:Value) (Q:VK),Inv X a b H s->RelV x v->RelV y u->t x y H Q->
  wpAny (model X.prog X.w) X.A (inplaceOp c v u) (EP X a b Q) X.xe s
section
variable {X:Cx}{pos:Pos}
def gName (i:Nat):TG:=λ v a H Q=>Q (a.set i (some v)) H
theorem Bp {i:Nat}{x:Str}(a:X.N.Nodup)(hi:X.N[i]?=some x:=by rfl)(b:Loc X.env.scope x:=by first | exact Or.inl rfl | exact Or.inr rfl)(hf:X.fn x=true\/X.env.scope.names.lookup x=some .local:=by first | exact .inl rfl | exact .inr rfl | assumption):PG X (.Name x pos) (gName i):=by
 intro c s e H v u Q f r h;exact wpAny_assign_Name (Jk f a hi b r (λ s' d=>⟨_,H,d,h⟩) hf)
def gNil:TGs:=λ vs a H Q=>vs=[]/\Q a H
def gCons (t:TG)(u:TGs):TGs:=λ vs b H Q=>∃v r,vs=v::r/\t v b H λ a c=>u r a c Q
theorem HD:PGs X [] gNil:=by
 intro a s b H vs us Q c r h;obtain ⟨e,h⟩:=h;subst e;cases r
 exact assignInOrder_nil ⟨b,H,c,h⟩
theorem Eb {e:Expr}{es:List Expr}{t:TG}{u:TGs}(c:PG X e t)(d:PGs X es u)
  (f:(zl (e::es) X.env).map (·.2)=Fc e X.env::(zl es X.env).map (·.2):=by rfl):PGs X (e::es) (gCons t u):=by
 intro a s g H vs us Q n r h;obtain ⟨v,o,e1,h⟩:=h;subst e1;cases r with
 | cons r i=>
  rw [f];refine qS (thn (c a s g H _ _ _ n r h) λ _ j ⟨b,k,l,m⟩=>?_)
  exact d a j b k _ _ Q l i m
inductive gTup (K:FrG)(n:Nat)(t:TGs)(v:V)(σ:St)(H:Hp)(Q:St->Hp->Prop):Prop | mk (a xs:_) (_:v=.ref a) (_:SqT K H a xs) (_:xs.length=n) (_:t xs σ H Q)
theorem JV {es:List Expr}{k:Nat}{t:TGs}{n:Nat}(hc:X.calm=true)(h:PGs X es t)
  (j:(zl es X.env).length=n:=by rfl) (f:(zl es X.env).findIdx? (·.1)=none:=by rfl):PG X (.Tuple es k pos) (gTup X.K n t):=by
 intro c s g H v u Q l r d;obtain ⟨a,xs,e1,m,hl,d⟩:=d;subst e1;cases r
 obtain ⟨its,i,p,hz⟩:=l.tuple m;refine assign_Tuple_tuple (l.ok.hd hc) p (by simp [j,<- hl,i.length]) f λ h' q=>?_
 have w:Inv X c g H { s with heap:=h' }:=l.kept (t':=s.toks) λ b o e=>q b o (XO (Yo e)) e
 exact h c _ g H xs _ Q w (by simpa using i) d
def gSub (b c:TE)(t:TSet):TG:=λ v a H Q=>b a H λ o d=>c a d λ i e=>t o i v e λ f=>Q a f
theorem La {o i:Expr}{e f:TE}{t:TSet}(g:PE X o e)(hi:PE X i f)(j:PSet X t)
  (ha:∀v,Fc (.Subscript o i pos) X.env v=(do
   let b <- GM [v] (eval o X.env)
   let c <- GM [v,b] (eval i X.env)
   standAt pos
   GM [v,b,c] (setItem b c v)
   release [v,b,c] []):=by intro _;rfl):PG X (.Subscript o i pos) (gSub e f t):=by
 intro a s d H v u Q F r h;rw [ha];refine U1 (UA (thn (g a s d H _ F h) λ b k ⟨x,l,m,n,p⟩=>?_))
 refine U1 (UA (thn (hi a k d l _ m p) λ c q ⟨y,w,z,A,B⟩=>?_))
 refine U1 (xt (U1 (UA (thn (j a q d w x y v b c u _ z n A r B) λ _ G ⟨C,D,E⟩=>?_))))
 exact wpAny_release ⟨d,C,D,E⟩
def tAsg (b:TE)(d:TG):TS:=λ e a H=>b a H λ x c=>d x a c e.nx
theorem I9 {tg e:Expr}{b:TE}{o:TG}(he:PE X e b)(d:PG X tg o)(f:swapsWithSole [tg] e pos.line X.env=pure false:=by rfl)(g:swappedStores [tg] e X.env=pure none:=by rfl)
  (i:(zl [tg] X.env).map (·.2)=[Fc tg X.env]:=by rfl):PS X (.Assign [tg] e pos) (tAsg b o):=by
 intro a s c H t p h;refine wpAny_Assign_stores (thn (he a s c H _ p h) λ v j ⟨x,k,l,m,n⟩=>?_) f g
 rw [i];exact thn (d a j c k x v _ l m n) λ _ r q=>q
theorem Aw {i:Nat}{x:Str}{e:Expr}{c:TE}{a:Pos}(d:X.N.Nodup)(he:PE X e c)(hi:X.N[i]?=some x:=by rfl)(f:Loc X.env.scope x:=by first | exact Or.inl rfl | exact Or.inr rfl)(g:jS e (some (.Name x a)) pos.line X.env=pure false:=by rfl)(hf:X.fn x=true\/X.env.scope.names.lookup x=some .local:=by first | exact .inl rfl | exact .inr rfl | assumption):
  PS X (.Assign [.Name x a] e pos) (tAsg c (gName i)):=by
 intro b s j H t p h;refine wpAny_Assign_Name (thn (he b s j H _ p h) λ v q ⟨y,k,l,m,n⟩=>?_) g
 exact Jk l d hi f m (λ r o=>⟨_,k,o,n⟩) hf
inductive Ah4 (i:Nat)(j:Nat)(D:Ends)(σ:St)(vs:List V)(H1:Hp):Prop | mk (v w:_) (_:vs=[v,w]) (_:D.nx ((σ.set i (some v)).set j (some w)) H1)
def tPar (i j:Nat)(b:TA):TS:=λ d a H=>b a H λ vs c=>Ah4 i j d a vs c
theorem jJ {i j:Nat}{x y:Str}{a b:Expr}{n:TA}{k l pt:Pos}{kt k2 pt2}(hc:X.calm=true)(r:X.N.Nodup)(hi:X.N[i]?=some x)(G:X.N[j]?=some y)(t:i≠j)
  (u:X.env.scope.names.lookup x=some .local) (z:X.env.scope.names.lookup y=some .local) (ha:PA X [a,b] n)
  (I:swappedStores [.Tuple [.Name x k,.Name y l] kt pt] (.Tuple [a,b] k2 pt2) X.env=pure (some [x,y]))
  (J:swapsWithSole [.Tuple [.Name x k,.Name y l] kt pt] (.Tuple [a,b] k2 pt2) pos.line X.env=pure false:=by rfl):
  PS X (.Assign [.Tuple [.Name x k,.Name y l] kt pt] (.Tuple [a,b] k2 pt2) pos) (tPar i j n):=by
 intro g s B H W T h;rw [exec_Assign_arm];refine U1 (xt ?_);rw [J];refine U1 (Ya ?_);rw [if_neg ⋯]
 refine U1 (Tuple_ (thn (ha _ g s B H _ T h) λ us c ⟨vs,C,K,L,m⟩=>?_))
 obtain ⟨v,w,e1,m⟩:=m;subst e1;obtain ⟨d,f,rfl,M,D⟩:∃d f,us=[d,f]/\RelV v d/\RelV w f:=by
  cases L with
  | cons p q=>
   cases q with
   | cons O P=>
    cases P
    exact ⟨_,_,rfl,p,O⟩
 refine zd ?_ (by show 2<=Y3;decide)
 have Q:Inv X g B C { c with heap:=c.heap.push { cls:=.type "tuple",data:=.seq [d,f].toArray } }:=K.kept (t':=c.toks) λ b o e=>ZO _ e
 rw [I];refine U1 (Ya ?_);show wpAny (model X.prog X.w) X.A (do rule "assign.swapped-stores";let items <- unpackItems (.ref c.heap.objs.size) 2 none;Fh [λ v=>bindName X.env y v,λ v=>bindName X.env x v] items.reverse;pure Flow.next) _ _ _
 refine U1 (wpAny_rule (U1 (unpackItems_tuple (items:=#[d,f]) (T.ok.hd hc) (IsTup.new c.heap _) λ h' E=>?_)))
 have R:=Q.kept (h':=h') (t':=c.toks) λ b o e=>E b o (XO (Yo e)) e
 show wpAny _ _ (Fh [λ v=>bindName X.env y v,λ v=>bindName X.env x v] [f,d] >>= λ _=>pure Flow.next) _ _ _
 refine U1 (qS (wpAny_bindName (Jk R r G (.inl z) D (λ U S=>?_) (.inr z))))
 refine qS (wpAny_bindName (Jk S r hi (.inl u) M (λ V F=>assignInOrder_nil (Ya ?_)) (.inr u)))
 rw [List.set_comm _ _ (JE t)] at F;exact ⟨_,C,F,m⟩
inductive tAug (i:Nat)(te:TE)(ti:TIp)(D:Ends)(σ:St)(H:Hp):Prop | mk (x:_) (_:σ[i]?=some (some x)) (_:te σ H λ y H1=>ti x y H1 λ z H2=>D.nx (σ.set i (some z)) H2)
theorem qK {i:Nat}{x:Str}{e:Expr}{o:TE}{d:NV}{p:TIp}{f:Pos}(C:X.N.Nodup)(hi:X.N[i]?=some x)(g:Loc X.env.scope x)(he:PE X e o)(D:PIp X d p)(hf:X.fn x=true\/X.env.scope.names.lookup x=some .local:=by first | exact .inl rfl | exact .inr rfl | assumption):
  PS X (.AugAssign (.Name x f) d e pos) (tAug i o p):=by
 intro b s q H S B h;obtain ⟨v,e1,h⟩:=h;obtain ⟨m,E,hl⟩:=B.loc;have t:Vis X.env.scope x:=by rcases g with k | k;exact .inl k;exact .inr (.inl k)
 obtain ⟨u,r,l⟩:=hl i x v hi e1 t;refine wpAny_AugAssign_Name ?_;have go:wpAny (model X.prog X.w) X.A (eval e X.env) (λ w j=>wpAny (model X.prog X.w) X.A (inplaceOp d u w) (λ r n=>wpAny (model X.prog X.w) X.A (storeName X.env x r) (λ _=>SP X b S .next) X.xe n) X.xe j) X.xe s:=by
  refine thn (he b s q H _ B h) λ w F ⟨y,G,I,J,K⟩=>?_
  refine thn (D b F q G v y u w _ I r J K) λ z T ⟨U,L,M,O,P⟩=>?_
  exact Jk M C hi g O (λ V Q=>⟨_,L,Q,P⟩) hf
 rcases l with ⟨a,R⟩ | ⟨a,c,hc,hcell⟩
 ·exact ul B.ok.kind a E R go
 ·rcases a with a | a
  ·exact wpAny_loadName_cell B.ok.kind a hc hcell go
  ·rcases g with k | k
   ·have:X.env.scope.names.lookup x=some .free:=a;rw [k] at this;cases this
   ·have:X.env.scope.names.lookup x=some .free:=a;rw [k] at this;cases this
def ipI (f:Int->Int->Int):TIp:=λ x y H Q=>∃i j,x=.int i/\y=.int j/\Q (.int (f i j)) H
theorem AZ4:PIp X .Add (ipI λ i j=>i+j):=by
 intro a s d H x y v u Q e b c h;obtain ⟨i,j,e1,e2,q⟩:=h;subst e1;subst e2;obtain ⟨t,rfl⟩:=b;obtain ⟨t',rfl⟩:=c;exact iadd_int ⟨.int _,H,e.tok _,⟨_,rfl⟩,q⟩
end
section
variable {X:Cx}{pos:Pos}
def tWhile (c:TT)(tb:TS):TS:=λ h a H=>∃i:Nat->St->Hp->Prop,(∃m,i m a H)/\∀m a H,i m a H->
 c a H λ b e=>if b=true then ∃N:St->Hp->Prop,(∀d f,N d f->∃g,g < m/\i g d f)/\tb { h with nx:=N,ct:=N,bk:=h.nx } a e else h.nx a e
theorem O5 {c:Expr}{g:List Stmt}{t:TT}{tb:TS}(u:Wa (model X.prog X.w) X.A X.env X.xe)(hc:PT X c t)(hb:PSs X g tb):PS X (.While c g [] pos) (tWhile t tb):=by
 intro d s D H P L h;obtain ⟨M,⟨E,F⟩,turn⟩:=h;refine wpAny_While (codeAny_whileLoop (λ n s'=>∃l x,Inv X d l x s'/\M n l x) ?_ E ⟨D,H,L,F⟩)
 rintro n G ⟨e,y,I,J⟩
 refine QV u (thn (hc d G e y _ I (turn n e y J)) λ b K ⟨z,B,j⟩=>?_)
 cases b with
 | true=>
  obtain ⟨N,C,j⟩:=j;rw [if_pos rfl];refine QV u (thn (hb d K e z _ B j) λ f O k=>?_)
  cases f with
  | next=>
   obtain ⟨a,i,m,o⟩:=k;obtain ⟨p,q,r⟩:=C a i o;exact ⟨p,q,a,i,m,r⟩
  | cont=>
   obtain ⟨a,i,m,o⟩:=k;obtain ⟨p,q,r⟩:=C a i o;exact ⟨p,q,a,i,m,r⟩
  | brk=>exact k
  | ret v=>exact k
 | false=>
  rw [if_neg ZM];exact uT ⟨e,z,B,j⟩
end
structure It where
 go:Nat->Hp->Prop
 yld:Nat->Hp->V->Hp->Prop
 stop:Nat->Hp->Prop
def FpOk (X:Cx)(a:List (Addr×Obj))(H:Hp)(b:Addr):Prop:=
 H b=none/\b≠X.env.locals/\b∉X.fs/\(b∈X.ex\/X.s₀.heap.objs.size<=b)/\(∀x c,X.env.cells.lookup x=some c->c≠b)/\∀p∈X.pn++a,p.1≠b
theorem Inv.fpOk {X:Cx}{a:List (Addr×Obj)}{g:St}{H d:Hp}{s:U2}{b:Addr}(f:Inv X a g H s)(hb:s.heap.objs.size<=b)(h:d b=none):FpOk X a d b:=by
 refine ⟨h,MO (Y4 f.lt hb),f.nofs hb,.inr (ZE f.sz hb),λ x c e z=>?_,λ p i z=>?_⟩
 ·obtain ⟨v,q⟩:=f.cell x c e;exact absurd (Y4 q.lt (by rw [z];exact hb)) (yA _)
 ·exact absurd (Y4 (Yo (f.pin p i).1) (by rw [z];exact hb)) (yA _)
structure Turn (P:YA)(w:World)(K:FrG)(tg:Expr)(J:It)(fp:List Addr)(it:Addr)(tn:Nat->Heap->Prop):Prop where
 mem:it∈fp
 obj:∀i h,tn i h->∀b∈fp,∃o,h.get? b=some o/\∀v,o.data≠.cell v
 keep:∀i h h',tn i h->(∀b∈fp,∀o,h.get? b=some o->h'.get? b=some o)->tn i h'
 item:∀(X:Cx),X.prog=P->X.w=w->X.K=K->X.calm=true->∀(i:Nat) (pins:List (Addr×Obj)) (s:U2) (σ:St) (H:Hp) (E:Value->U2->Prop),Inv X pins σ H s->(∀b∈fp,FpOk X pins H b)->tn i s.heap->J.go i H->
  wpAny (model P w) X.A (pyNext (.ref it)) (λ r s1=>∃u,r=some u/\
   wpAny (model P w) X.A (xA tg (.ref it) u) (λ _ s2=>∃x H',Inv X pins σ H' s2/\RelV x u/\J.yld i H x H'/\tn (i+1) s2.heap/\∀b∈fp,H' b=none) E s1) E s
 done:∀(X:Cx),X.prog=P->X.w=w->X.K=K->X.calm=true->∀(i:Nat) (pins:List (Addr×Obj)) (s:U2) (σ:St) (H:Hp) (E:Value->U2->Prop),Inv X pins σ H s->(∀b∈fp,FpOk X pins H b)->tn i s.heap->J.stop i H->
  wpAny (model P w) X.A (pyNext (.ref it)) (λ r s1=>r=none/\Inv X pins σ H s1) E s
 self:∀(A:XW) (i:Nat) (s:U2) (Q:Value->U2->Prop) (E:Value->U2->Prop),tn i s.heap->Q (.ref it) s->wpAny (model P w) A (pyIter (.ref it)) Q E s
abbrev TI:=St->Hp->(It->Hp->Prop)->Prop
def PIE (X:Cx)(a:List (Addr×Obj))(h:St)(tg:Expr)(j:It->Hp->Prop)(d:Value)(e:U2):Prop:=
 ∃(it:Addr) (f:List Addr) (g:Nat->Heap->Prop) (i:It) (c:Hp),d=.ref it/\Inv X a h c e/\Turn X.prog X.w X.K tg i f it g/\g 0 e.heap/\(∀b∈f,FpOk X a c b)/\j i c
def PI (X:Cx)(tg iter:Expr)(c:TI):Prop:=
 ∀(a:List (Addr×Obj)) (s:U2) (b:St) (H:Hp) (e:It->Hp->Prop),Inv X a b H s->c b H e->
  wpAny (model X.prog X.w) X.A (eval iter X.env) (λ v d=>wpAny (model X.prog X.w) X.A (pyIter v) (PIE X a b tg e) X.xe d) X.xe s
theorem Oe {M:Model}{A:XW}{E:Value->U2->Prop}{s:U2}{tg:Expr}{it:Addr}{u:Value}{o:Obj}{n:String}{vs:Array Value}{Q:Unit->U2->Prop}(b:s.heap.get? it=some o)(hc:o.cls=.type n)(hd:o.data=.fields vs)
  (c:["enumerate","zip","dict_itemiterator","dict_reverseitemiterator","odict_iterator","itertools.zip_longest","itertools.pairwise"].contains n=false) (a:Q () s):wpAny M A (xA tg (.ref it) u) Q E s:=by
 unfold xA;cases tg<;>first
  | exact Ya a
  | (cases u<;>first
    | exact Ya a
    | (refine U1 (wpAny_load b ?_);rw [hc,hd];show wpAny M A (if (["enumerate","zip","dict_itemiterator","dict_reverseitemiterator","odict_iterator","itertools.zip_longest","itertools.pairwise"].contains n && vs[0]? == some (rawInt _))=true then _ else _) Q E s;rw [if_neg (by intro h;rw [c,wc] at h;cases h)];exact Ya a))
def Itl (K:FrG)(a:Addr):It:=
 ⟨λ i H=>∃xs x,SqL K H a xs/\xs[i]?=some x,λ i H x b=>b=H/\∀xs,SqL K H a xs->xs[i]?=some x,λ i H=>∃xs,SqL K H a xs/\xs.length<=i⟩
def Itt (K:FrG)(a:Addr):It:=
 ⟨λ i H=>∃xs x,SqT K H a xs/\xs[i]?=some x,λ i H x b=>b=H/\∀xs,SqT K H a xs->xs[i]?=some x,λ i H=>∃xs,SqT K H a xs/\xs.length<=i⟩
def Itr (lo:Int)(n:Nat):It:=⟨λ i _=>i < n,λ i H x a=>a=H/\x=.int (lo+i),λ i _=>n<=i⟩
theorem qI {P:YA}{w:World}{K:FrG}{tg:Expr}(a it:Addr):Turn P w K tg (Itl K a) [it] it (λ i h=>h.IsListIter it a i) where
 mem:=by simp
 obj:=λ i h st b hb=>by
  have e:b=it:=by simpa using hb
  subst e;obtain ⟨o,e,c,d⟩:=st;exact ⟨o,e,λ v z=>by rw [d] at z;cases z⟩
 keep:=λ i h h' st k=>st.at λ o e=>k it (by simp) o e
 item:=by
  intro X l m n hc i f s G H E q hf st r;subst l m n;obtain ⟨xs,x,g,t⟩:=r;obtain ⟨its,y,p,hz⟩:=q.list g;obtain ⟨u,I,J⟩:=y.get t;obtain ⟨A,B,L,C,D,F⟩:=hf it (by simp)
  refine wpAny_pyNext_list_item st p.isList (x:=u) (by simpa using I) λ h' j M=>?_
  have N:Inv X f G H { s with heap:=h' }:=q.turned (t':=s.toks) (λ b o hb e=>(M.2 b hb).trans e) A B C D F
  obtain ⟨o,e,c,d⟩:=id j;exact ⟨u,rfl,Oe (s:={ s with heap:=h' }) e c d ⋯ ⟨x,H,N,J,⟨rfl,λ R O=>by rw [q.list_inj O g];exact t⟩,j,λ b hb=>(hf b hb).1⟩⟩
 done:=by
  intro X l m n hc i f s G H E q hf st r;subst l m n;obtain ⟨xs,g,t⟩:=r;obtain ⟨its,y,p,hz⟩:=q.list g;obtain ⟨A,B,L,C,D,F⟩:=hf it (by simp)
  have hl:=y.length;exact wpAny_pyNext_list_end (q.ok.hd hc) st p.isList (by simp;omega) λ h' Q=>⟨rfl,q.turned (t':=s.toks) (λ b o hb e=>Q b o hb e) A B C D F⟩
 self:=λ _ _ _ _ _ st h=>wpAny_pyIter_listiter st h
theorem qW {P:YA}{w:World}{K:FrG}{tg:Expr}(a it:Addr):Turn P w K tg (Itt K a) [it] it (λ i h=>h.IsTupleIter it a i) where
 mem:=by simp
 obj:=λ i h st b hb=>by
  have e:b=it:=by simpa using hb
  subst e;obtain ⟨o,e,c,d⟩:=st;exact ⟨o,e,λ v z=>by rw [d] at z;cases z⟩
 keep:=λ i h h' st k=>st.at λ o e=>k it (by simp) o e
 item:=by
  intro X l m n hc i f s G H E q hf st r;subst l m n;obtain ⟨xs,x,g,t⟩:=r;obtain ⟨its,y,p,hz⟩:=q.tuple g;obtain ⟨u,I,J⟩:=y.get t;obtain ⟨A,B,L,C,D,F⟩:=hf it (by simp)
  refine wpAny_pyNext_tuple_item st (show s.heap.IsTuple a its.toArray from p) (x:=u) (by simpa using I) λ h' j M=>?_
  have N:Inv X f G H { s with heap:=h' }:=q.turned (t':=s.toks) (λ b o hb e=>(M.2 b hb).trans e) A B C D F
  obtain ⟨o,e,c,d⟩:=id j;exact ⟨u,rfl,Oe (s:={ s with heap:=h' }) e c d ⋯ ⟨x,H,N,J,⟨rfl,λ R O=>by rw [q.tuple_inj O g];exact t⟩,j,λ b hb=>(hf b hb).1⟩⟩
 done:=by
  intro X l m n hc i f s G H E q hf st r;subst l m n;obtain ⟨xs,g,t⟩:=r;obtain ⟨its,y,p,hz⟩:=q.tuple g;obtain ⟨A,B,L,C,D,F⟩:=hf it (by simp)
  have hl:=y.length;exact wpAny_pyNext_tuple_end (q.ok.hd hc) st (show s.heap.IsTuple a its.toArray from p) (by simp;omega) λ h' Q=>⟨rfl,q.turned (t':=s.toks) (λ b o hb e=>Q b o hb e) A B C D F⟩
 self:=λ _ _ _ _ _ st h=>wpAny_pyIter_tupleiter st h
theorem qQ {P:YA}{w:World}{K:FrG}{tg:Expr}(it:Addr)(lo:Int)(n:Nat):Turn P w K tg (Itr lo n) [it] it (λ i h=>NW h it (lo+(i:Nat) * 1) ((n:Int) - (i:Nat)) 1) where
 mem:=by simp
 obj:=λ i h st b hb=>by
  have e:b=it:=by simpa using hb
  subst e;exact ⟨_,st,λ v z=>by
   have y:Data.fields _=Data.cell v:=z;cases y⟩
 keep:=λ i h h' st k=>k it (by simp) _ st
 item:=by
  intro X d f g hc i a s u H E x hf st j;subst d f g;obtain ⟨l,m,A,p,q,r⟩:=hf it (by simp)
  have F:=Walks.range (prog:=X.prog) (w:=X.w) (x.ok.hd hc) it lo 1 n;refine F.item i s _ _ j st λ v h' tk hv c B=>?_
  obtain ⟨t,rfl⟩:=hv;have C:Inv X a u H { s with heap:=h',toks:=tk }:=x.turned (λ b o hb e=>B b o (by simpa using hb) e) l m p q r
  refine ⟨_,rfl,Oe (s:={ s with heap:=h',toks:=tk }) (n:="range_iterator") c rfl rfl ⋯ ⟨.int (lo+i),H,C,⟨t,?_⟩,⟨rfl,rfl⟩,c,λ b hb=>(hf b hb).1⟩⟩
  rw [Int.mul_one]
 done:=by
  intro X d f g hc i a s u H E x hf st j;subst d f g;obtain ⟨l,m,A,p,q,r⟩:=hf it (by simp)
  exact wpAny_pyNext_range_end (x.ok.hd hc) st (by have:n<=i:=j;omega) λ h' D=>⟨rfl,x.turned (t':=s.toks) (λ b o hb e=>D b o hb e) l m p q r⟩
 self:=λ _ _ _ _ _ st h=>wpAny_pyIter_rangeiter st h
section
variable {X:Cx}{tg:Expr}
inductive tU (K:FrG)(R:It->Hp->Prop)(x:V)(H1:Hp):Prop | mk (a:_) (_:x=.ref a) (_:(∃xs,SqL K H1 a xs)) (_:R (Itl K a) H1)
def iList (K:FrG)(a:TE):TI:=λ b H d=>a b H λ x c=>tU K d x c
inductive AY2 (K:FrG)(R:It->Hp->Prop)(x:V)(H1:Hp):Prop | mk (a:_) (_:x=.ref a) (_:(∃xs,SqT K H1 a xs)) (_:R (Itt K a) H1)
def iTup (K:FrG)(a:TE):TI:=λ b H d=>a b H λ x c=>AY2 K d x c
theorem Dt {l:Expr}{g:TE}(hl:PE X l g):PI X tg l (iList X.K g):=by
 intro f s i H u r h;refine thn (hl f s i H _ r h) λ v c ⟨x,j,d,k,m⟩=>?_
 obtain ⟨a,e,⟨xs,n⟩,q⟩:=m;subst e;cases k
 obtain ⟨its,t,p,hz⟩:=d.list n;refine GN p.isList ?_;refine ⟨c.heap.objs.size,[c.heap.objs.size],_,_,j,rfl,d.kept (t':=c.toks) λ b o e=>ZO _ e,qI a _,⟨_,XM _ rfl,rfl,rfl⟩,λ b hb=>?_,q⟩
 have e:b=c.heap.objs.size:=by simpa using hb
 subst e;exact d.fpOk (ZY _) (d.hok.fresh (ZY _))
theorem Kf {l:Expr}{g:TE}(hl:PE X l g):PI X tg l (iTup X.K g):=by
 intro f s i H u r h;refine thn (hl f s i H _ r h) λ v c ⟨x,j,d,k,m⟩=>?_
 obtain ⟨a,e,⟨xs,n⟩,q⟩:=m;subst e;cases k
 obtain ⟨its,t,p,hz⟩:=d.tuple n;refine wpAny_pyIter_tuple (show c.heap.IsTuple a its.toArray from p) ?_
 refine ⟨c.heap.objs.size,[c.heap.objs.size],_,_,j,rfl,d.kept (t':=c.toks) λ b o e=>ZO _ e,qW a _,⟨_,XM _ rfl,rfl,rfl⟩,λ b hb=>?_,q⟩
 have e:b=c.heap.objs.size:=by simpa using hb
 subst e;exact d.fpOk (ZY _) (d.hok.fresh (ZY _))
theorem jc {a:List (Addr×Obj)}{c:St}{H:Hp}{s:U2}{j:It->Hp->Prop}{E:Value->U2->Prop}{lo hi:Int}{t u v:Tok}{tk:Nat}(k:Inv X a c H s)(f:-(2 ^ 62)<=lo)(g:lo < 2 ^ 62)(h:-(2 ^ 62)<=hi)(i:hi < 2 ^ 62)
  (q:j (Itr lo (hi - lo).toNat) H):wpAny (model X.prog X.w) X.A (pyIter (.ref s.heap.objs.size)) (PIE X a c tg j) E { s with heap:=s.heap.push { cls:=.type "range",data:=.fields #[.int lo t,.int hi u,.int 1 v] },toks:=tk }:=by
 refine wpAny_pyIter_range (IsRange.new ..) (small_one f g h i) ?_;have d:Inv X a c H { s with heap:=s.heap.push { cls:=.type "range",data:=.fields #[.int lo t,.int hi u,.int 1 v] },toks:=tk }:=k.kept λ b o e=>ZO _ e
 refine ⟨(s.heap.push { cls:=.type "range",data:=.fields #[.int lo t,.int hi u,.int 1 v] }).objs.size,[(s.heap.push { cls:=.type "range",data:=.fields #[.int lo t,.int hi u,.int 1 v] }).objs.size],_,_,H,rfl,
  d.kept (t':=tk) λ b o e=>ZO _ e,qQ _ lo (hi - lo).toNat,?_,λ b hb=>?_,q⟩
 ·have e1:lo+((0:Nat):Int) * 1=lo:=by simp
  have e2:(((hi - lo).toNat:Nat):Int) - ((0:Nat):Int)=zw lo hi 1:=by rw [rangeSize_one];split<;>omega
  show NW _ _ (lo+((0:Nat):Int) * 1) ((((hi - lo).toNat:Nat):Int) - ((0:Nat):Int)) 1;rw [e1,e2];exact XM _ rfl
 ·have e:b=(s.heap.push { cls:=.type "range",data:=.fields #[.int lo t,.int hi u,.int 1 v] }).objs.size:=by simpa using hb
  subst e;exact d.fpOk (ZY _) (d.hok.fresh (ZY _))
inductive yd (R:It->Hp->Prop)(vs:List V)(H1:Hp):Prop | mk (j:Int) (_:vs=[.int j]) (_:-(2 ^ 62)<=j) (_:j < 2 ^ 62) (_:R (Itr 0 j.toNat) H1)
def iRng1 (a:TA):TI:=λ b H d=>a b H λ vs c=>yd d vs c
inductive vo (R:It->Hp->Prop)(vs:List V)(H1:Hp):Prop | mk (i j:Int) (_:vs=[.int i,.int j]) (_:(-(2 ^ 62)<=i/\i < 2 ^ 62/\-(2 ^ 62)<=j/\j < 2 ^ 62)) (_:R (Itr i (j - i).toNat) H1)
def iRng2 (a:TA):TI:=λ b H d=>a b H λ vs c=>vo d vs c
theorem Ld {a:Expr}{d:TA}{p pos:Pos}(f:Gl X "range")(g:X.mg "range"=none)(ha:PA X [a] d)(i:XE [a] X.env=[(false,eval a X.env)]:=by rfl):PI X tg (.Call (.Name "range" p) [a] [] pos) (iRng1 d):=by
 intro b s k H x u h;refine Call_ (Il u f g boot_range (UP (thn (ha pos b s k H _ u h) λ us v ⟨vs,w,l,m,c⟩=>?_) i rfl))
 obtain ⟨j,e,c,n,q⟩:=c;subst e;cases m with
 | cons r o=>
  cases o
  obtain ⟨t,rfl⟩:=r;exact call_range_1 (jc l ∅ ∅ c n (by simpa using q))
theorem Af6 {a b:Expr}{k:TA}{p pos:Pos}(l:Gl X "range")(m:X.mg "range"=none)(ha:PA X [a,b] k)(n:XE [a,b] X.env=[(false,eval a X.env),(false,eval b X.env)]:=by rfl)(c:XE [b] X.env=[(false,eval b X.env)]:=by rfl):
  PI X tg (.Call (.Name "range" p) [a,b] [] pos) (iRng2 k):=by
 intro d s o H D A h;refine Call_ (Il A l m boot_range (UP (thn (ha pos d s o H _ A h) λ us B ⟨vs,C,u,v,f⟩=>?_) (by rw [n,c]) (by rw [c];rfl)))
 obtain ⟨i,j,e,⟨f,w,x,y⟩,q⟩:=f;subst e;cases v with
 | cons r g=>
  cases g with
  | cons z g=>
   cases g
   obtain ⟨t,rfl⟩:=r;obtain ⟨t',rfl⟩:=z;exact call_range_2 (jc u f w x y q)
def tFor (f:TI)(n:TG)(tb:TS):TS:=λ g a H=>f a H λ h j=>∃k:Nat->Nat->St->Hp->Prop,(∃m,k 0 m a j)/\∀i m a H,k i m a H->
 (h.stop i H/\g.nx a H)\/(h.go i H/\∃N:St->Hp->Prop,(∀c b,N c b->∃d,d < m/\k (i+1) d c b)/\∀x b,h.yld i H x b->n x a b λ e l=>tb { g with nx:=N,ct:=N,bk:=g.nx } e l)
def pinsAt (a:List Addr)(h:Heap):List (Addr×Obj):=a.filterMap λ b=>(h.get? b).map λ o=>(b,o)
theorem Om {a:List Addr}{h:Heap}{b:Addr}{o:Obj}(hb:b∈a)(e:h.get? b=some o):(b,o)∈pinsAt a h:=List.mem_filterMap.mpr ⟨b,hb,by rw [e];rfl⟩
theorem Ad7 {a:List Addr}{h:Heap}{p:Addr×Obj}(c:p∈pinsAt a h):p.1∈a/\h.get? p.1=some p.2:=by
 obtain ⟨b,hb,e⟩:=List.mem_filterMap.mp c;cases q:h.get? b with
 | none=>rw [q] at e;cases e
 | some o=>
  rw [q] at e;have d:(b,o)=p:=XU e;subst d;exact ⟨hb,q⟩
theorem Inv.pinned {a:List (Addr×Obj)}{f:St}{H:Hp}{s:U2}{c:List Addr}(m:Inv X a f H s)(hf:∀b∈c,FpOk X a H b)(h:∀b∈c,∃o,s.heap.get? b=some o/\∀v,o.data≠.cell v):Inv X (a++pinsAt c s.heap) f H s:=
 m.pins_of λ p i=>(YT.mp i).elim (λ z=>m.pin p (YN _ z)) λ z=>by
  obtain ⟨hb,e⟩:=Ad7 z;obtain ⟨j,k,l,_⟩:=hf p.1 hb;obtain ⟨o,g,d⟩:=h p.1 hb;rw [e] at g;cases g;exact ⟨e,j,k,l,d⟩
theorem Inv.unpinned {a pl:List (Addr×Obj)}{b:St}{H:Hp}{s:U2}(d:Inv X (a++pl) b H s):Inv X a b H s:=d.pins_of λ p c=>d.pin p (YN _ (UK _ c))
theorem Dj {iter:Expr}{y:List Stmt}{K:TI}{c6:TG}{tb:TS}{pos:Pos}(z:Wa (model X.prog X.w) X.A X.env X.xe)(hc:X.calm=true)(hi:PI X tg iter K)(Z:PG X tg c6)(hb:PSs X y tb)
  (a0:∀x,ze iter X.env x=pure x:=by intro _;rfl):PS X (.For tg iter y [] pos) (tFor K c6 tb):=by
 intro c s L H d2 c9 h;refine wpAny_For (thn (hi c s L H _ c9 h) λ v d0 a1=>thn a1 λ c7 d1 a2=>?_) a0
 obtain ⟨it,B,M,d3,a3,e,a4,T,O,P,c8,⟨a5,a6⟩,turn⟩:=a2;subst e;have t:∀{k:Hp},(∀b∈B,k b=none)->∀b∈B,FpOk X c k b:=λ a7 b hb=>⟨a7 b hb,(P b hb).2⟩
 refine codeAny_forLoop_any (λ n s'=>∃i l k,Inv X c l k s'/\M i s'.heap/\(∀b∈B,k b=none)/\c8 i n l k) ?_ a5 ⟨0,L,a3,a4,O,λ b hb=>(P b hb).1,a6⟩
 rintro n Q ⟨i,p,E,R,F,G,a8⟩
 rcases turn i n p E a8 with ⟨stop,a9⟩ | ⟨go,N,b0,step⟩
 ·refine QV z (thn (T.done X rfl rfl rfl hc i c Q p E X.xe R (t G) F stop) λ r b1 ⟨I,b2⟩=>?_)
  subst I;exact uT ⟨p,E,b2,a9⟩
 ·refine QV z (thn (T.item X rfl rfl rfl hc i c Q p E X.xe R (t G) F go) λ r b1 ⟨u,I,b3⟩=>?_)
  subst I;refine QV z (thn b3 λ _ S ⟨x,U,b4,b5,b6,C,V⟩=>?_)
  have W:=b4.pinned (t V) (T.obj _ _ C);refine QV z (thn (Z _ S p U x u _ W b5 (step x U b6)) λ _ b7 ⟨Y,b8,b9,c0⟩=>?_)
  refine QV z (thn (hb _ b7 Y b8 _ b9 c0) λ f J q=>?_)
  have again:∀{a:St} {g:Hp},Inv X (c++pinsAt B S.heap) a g J->N a g->∃m,m < n/\∃i l k,Inv X c l k J/\M i J.heap/\(∀b∈B,k b=none)/\c8 i m l k:=λ {a g} j D=>by
   obtain ⟨c1,c2,c3⟩:=b0 a g D;refine ⟨c1,c2,i+1,a,g,j.unpinned,T.keep _ _ _ C λ b hb o e=>(j.pin (b,o) (YN _ (YN _ (Om hb e)))).1,λ b hb=>?_,c3⟩
   obtain ⟨o,e,d⟩:=T.obj _ _ C b hb;exact (j.pin (b,o) (YN _ (YN _ (Om hb e)))).2.1
  cases f with
  | next=>obtain ⟨a,g,j,D⟩:=q;exact again j D
  | cont=>obtain ⟨a,g,j,D⟩:=q;exact again j D
  | brk=>obtain ⟨a,g,j,q⟩:=q;exact ⟨a,g,j.unpinned,q⟩
  | ret v=>obtain ⟨c4,a,g,j,c5,q⟩:=q;exact ⟨c4,a,g,j.unpinned,c5,q⟩
end
theorem GX {K:FrG}{a:Addr}{xs:List V}{t:TG}{tb:TS}{k:Ends}{b:St}{H:Hp}(c:Nat->St->Hp->Prop)(n:c 0 b H)(hl:∀i b H,i<=xs.length->c i b H->SqL K H a xs)
  (o:∀i x b H,xs[i]?=some x->c i b H->t x b H λ f j=>tb { k with nx:=c (i+1),ct:=c (i+1),bk:=k.nx } f j) (hd:∀b H,c xs.length b H->k.nx b H):
  ∃r:Nat->Nat->St->Hp->Prop,(∃m,r 0 m b H)/\∀i m b H,r i m b H->
   ((Itl K a).stop i H/\k.nx b H)\/((Itl K a).go i H/\∃N:St->Hp->Prop,(∀g d,N g d->∃l,l < m/\r (i+1) l g d)/\∀x d,(Itl K a).yld i H x d->t x b d λ f j=>tb { k with nx:=N,ct:=N,bk:=k.nx } f j):=by
 refine ⟨λ i m b H=>m=xs.length - i/\i<=xs.length/\c i b H,⟨xs.length,by simp,WI _,n⟩,?_⟩
 rintro i m b H ⟨rfl,hi,p⟩
 have q:=hl i b H hi p;by_cases h:i < xs.length
 ·refine .inr ⟨⟨xs,xs[i],q,by simp [h]⟩,c (i+1),λ g d s=>⟨xs.length - (i+1),by omega,rfl,h,s⟩,λ x d y=>?_⟩
  obtain ⟨e,y⟩:=y;subst e;exact o i x b _ (y xs q) p
 ·have e:i=xs.length:=by omega
  subst e;exact .inl ⟨⟨xs,q,ZY _⟩,hd b H p⟩
theorem QB {lo:Int}{n:Nat}{s:TG}{tb:TS}{j:Ends}{a:St}{H:Hp}(b:Nat->St->Hp->Prop)(l:b 0 a H)
  (o:∀i a H,i < n->b i a H->s (.int (lo+i)) a H λ d h=>tb { j with nx:=b (i+1),ct:=b (i+1),bk:=j.nx } d h) (hd:∀a H,b n a H->j.nx a H):
  ∃q:Nat->Nat->St->Hp->Prop,(∃m,q 0 m a H)/\∀i m a H,q i m a H->
   ((Itr lo n).stop i H/\j.nx a H)\/((Itr lo n).go i H/\∃N:St->Hp->Prop,(∀f c,N f c->∃k,k < m/\q (i+1) k f c)/\∀x c,(Itr lo n).yld i H x c->s x a c λ d h=>tb { j with nx:=N,ct:=N,bk:=j.nx } d h):=by
 refine ⟨λ i m a H=>m=n - i/\i<=n/\b i a H,⟨n,by simp,WI _,l⟩,?_⟩
 rintro i m a H ⟨rfl,hi,p⟩
 by_cases g:i < n
 ·refine .inr ⟨g,b (i+1),λ f c r=>⟨n - (i+1),by omega,rfl,g,r⟩,λ x c y=>?_⟩
  obtain ⟨e,y⟩:=y;subst e y;exact o i a _ g p
 ·have e:i=n:=by omega
  subst e;exact .inl ⟨ZY _,hd a H p⟩
abbrev R2:=V->V->Hp->VK->Prop
def OpR (X:Cx)(f:Value->Value->Sem Value)(r:R2):Prop:=
 ∀(a:List (Addr×Obj)) (s:U2) (b:St) (H:Hp) (x y:V) (v u:Value) (Q:VK),Inv X a b H s->RelV x v->RelV y u->r x y H Q->
  wpAny (model X.prog X.w) X.A (f v u) (EP X a b Q) X.xe s
def UnR (X:Cx)(f:Value->Sem Value)(r:V->Hp->VK->Prop):Prop:=
 ∀(a:List (Addr×Obj)) (s:U2) (b:St) (H:Hp) (x:V) (v:Value) (Q:VK),Inv X a b H s->RelV x v->r x H Q->
  wpAny (model X.prog X.w) X.A (f v) (EP X a b Q) X.xe s
def CallR (X:Cx)(f:Value)(r:List V->Hp->VK->Prop):Prop:=
 ∀(a:List (Addr×Obj)) (s:U2) (b:St) (H:Hp) (xs:List V) (us:List Value) (Q:VK),Inv X a b H s->Vals xs us->r xs H Q->
  wpAny (model X.prog X.w) X.A (call f us) (EP X a b Q) X.xe s
def tOp (r:R2)(b tb:TE):TE:=λ a H Q=>b a H λ x c=>tb a c λ y d=>r x y d Q
def tUn (r:V->Hp->VK->Prop)(a:TE):TE:=λ b H Q=>a b H λ x c=>r x c Q
inductive rI (C:Int->Int->Prop)(g:Int->Int->V)(x:V)(y:V)(H:Hp)(Q:VK):Prop | mk (i j:_) (_:x=.int i) (_:y=.int j) (_:C i j) (_:Q (g i j) H)
inductive rI0 (g:Int->Int->V)(x:V)(y:V)(H:Hp)(Q:VK):Prop | mk (i j:_) (_:x=.int i) (_:y=.int j) (_:Q (g i j) H)
inductive rU (g:Int->V)(x:V)(H:Hp)(Q:VK):Prop | mk (i:_) (_:x=.int i) (_:Q (g i) H)
section
variable {X:Cx}{a b c:Expr}{ta tb tc:TE}{pos:Pos}
theorem binT (ha:PE X a ta)(hb:PE X b tb){d:List (Addr×Obj)}{s:U2}{e:St}{H:Hp}{z:V->V->Hp->Prop}(B:Inv X d e H s)
  (h:ta e H λ x j=>tb e j λ y g=>z x y g) {Q:Value->U2->Prop} {f:Value->Value->Sem Value}
  (hf:∀v u i x y g,Inv X d e g i->RelV x v->RelV y u->z x y g->wpAny (model X.prog X.w) X.A (f v u) Q X.xe i):
  wpAny (model X.prog X.w) X.A (eval a X.env) (λ v k=>wpAny (model X.prog X.w) X.A (eval b X.env) (λ u l=>wpAny (model X.prog X.w) X.A (f v u) Q X.xe l) X.xe k) X.xe s:=by
 refine thn (ha d s e H _ B h) λ v m ⟨x,j,n,o,p⟩=>?_
 refine thn (hb d m e j _ n p) λ u i ⟨y,g,q,r,t⟩=>?_
 exact hf v u i x y g q o r t
theorem Ax {e:NV}{r:R2}(f:OpR X (yy e) r)(ha:PE X a ta)(hb:PE X b tb):PE X (.BinOp a e b pos) (tOp r ta tb):=by
 intro d s g H Q m h;exact wpAny_BinOp (binT ha hb m h λ v u i x y j k l ry q=>f d i g j x y v u Q k l ry q)
theorem W9 {e:UnaryOp}{r:V->Hp->VK->Prop}(g:UnR X (unaryOp e) r)(ha:PE X a ta):PE X (.UnaryOp e a pos) (tUn r ta):=by
 intro d s f H Q n h;exact UnaryOp_ (thn (ha d s f H _ n h) λ v i ⟨x,j,k,l,m⟩=>g d i f j x v Q k l m)
theorem opI {f:Value->Value->Sem Value}{C:Int->Int->Prop}{d:Int->Int->Int}
  (rule:∀(i j:Int) (t u:Tok) (s:U2) (Q:Value->U2->Prop) (E:Value->U2->Prop),C i j->Q (.int (d i j) s.toks) { s with toks:=s.toks+1 }->wpAny (model X.prog X.w) X.A (f (.int i t) (.int j u)) Q E s):
  OpR X f (rI C λ i j=>.int (d i j)):=by
 intro e s k H x y v u Q l g ry h;obtain ⟨i,j,rfl,rfl,hc,q⟩:=h;obtain ⟨t,rfl⟩:=g;obtain ⟨t',rfl⟩:=ry;exact rule i j t t' s _ _ hc ⟨.int (d i j),H,l.tok _,⟨_,rfl⟩,q⟩
theorem opI0 {f:Value->Value->Sem Value}{d:Int->Int->Int}
  (rule:∀(i j:Int) (t u:Tok) (s:U2) (Q:Value->U2->Prop) (E:Value->U2->Prop),Q (.int (d i j) s.toks) { s with toks:=s.toks+1 }->wpAny (model X.prog X.w) X.A (f (.int i t) (.int j u)) Q E s):
  OpR X f (rI0 λ i j=>.int (d i j)):=by
 intro e s k H x y v u Q l g ry h;obtain ⟨i,j,rfl,rfl,q⟩:=h;obtain ⟨t,rfl⟩:=g;obtain ⟨t',rfl⟩:=ry;exact rule i j t t' s _ _ ⟨.int (d i j),H,l.tok _,⟨_,rfl⟩,q⟩
theorem opB0 {f:Value->Value->Sem Value}{d:Int->Int->Bool}
  (rule:∀(i j:Int) (t u:Tok) (s:U2) (Q:Value->U2->Prop) (E:Value->U2->Prop),Q (.bool (d i j)) s->wpAny (model X.prog X.w) X.A (f (.int i t) (.int j u)) Q E s):
  OpR X f (rI0 λ i j=>.bl (d i j)):=by
 intro e s k H x y v u Q l g ry h;obtain ⟨i,j,rfl,rfl,q⟩:=h;obtain ⟨t,rfl⟩:=g;obtain ⟨t',rfl⟩:=ry;exact rule i j t t' s _ _ ⟨.bl (d i j),H,l,rfl,q⟩
def CDiv (i j:Int):Prop:=0 < j/\j < 1073741824
def CPow (i j:Int):Prop:=0<=j/\j<=1000000/\i.natAbs < 2 ^ 64
def CMul (i j:Int):Prop:=(-(2 ^ 64) < i/\i < 2 ^ 64)\/(-(2 ^ 64) < j/\j < 2 ^ 64)
theorem CMul.ok {i j:Int}(h:CMul i j):IntMulOk i j:=by
 rcases h with ⟨d,e⟩ | ⟨d,e⟩
 ·exact .of_left (intBits_le_64 d e)
 ·exact .of_right (intBits_le_64 d e)
theorem DW:OpR X (yy .Add) (rI0 λ i j=>.int (i+j)):=opI0 λ _ _ _ _ _ _ _ q=>add_int q
theorem Gm:OpR X (yy .Sub) (rI0 λ i j=>.int (i - j)):=opI0 λ _ _ _ _ _ _ _ q=>sub_int q
theorem JP:OpR X (yy .Mult) (rI CMul λ i j=>.int (i * j)):=opI λ _ _ _ _ _ _ _ hc q=>mul_int q hc.ok
theorem JW:OpR X (yy .FloorDiv) (rI CDiv λ i j=>.int (i / j)):=opI λ i j _ _ _ _ _ hc q=>by
 have d:(0:Int) < j:=hc.1;have e:j < 1073741824:=hc.2;exact floordiv_int ∅ (by rw [Int.fdiv_eq_ediv_of_nonneg i ∅];exact q) (.inl (PyProof.noPylong_small ∅))
theorem Dq:OpR X (yy .Mod) (rI (λ _ j=>0 < j) λ i j=>.int (i % j)):=opI λ i j _ _ _ _ _ hc q=>by
 have d:(0:Int) < j:=hc;exact mod_int' ∅ (by rw [Int.fmod_eq_emod_of_nonneg i ∅];exact q)
theorem Yj:OpR X (yy .Pow) (rI CPow λ i j=>.int (i ^ j.toNat)):=opI λ _ _ _ _ _ _ _ hc q=>pow_int_small hc.1 hc.2.1 hc.2.2 q
theorem unI {f:Value->Sem Value}{d:Int->Int}
  (rule:∀(i:Int) (t:Tok) (s:U2) (Q:Value->U2->Prop) (E:Value->U2->Prop),Q (.int (d i) s.toks) { s with toks:=s.toks+1 }->wpAny (model X.prog X.w) X.A (f (.int i t)) Q E s):
  UnR X f (rU λ i=>.int (d i)):=by
 intro e s j H x v Q k g h;obtain ⟨i,rfl,q⟩:=h;obtain ⟨t,rfl⟩:=g;exact rule i t s _ _ ⟨.int (d i),H,k.tok _,⟨_,rfl⟩,q⟩
theorem WW:UnR X (unaryOp .USub) (rU λ i=>.int (-i)):=unI λ _ _ _ _ _ q=>neg_int q
end
def scal:V->V->Bool
 | .non,.non=>true | .non,.int _=>true | .int _,.non=>true | .non,.bl _=>true | .bl _,.non=>true | .non,.str _=>true | .str _,.non=>true
 | .int _,.int _=>true | .bl _,.bl _=>true | .str _,.str _=>true | .byt _,.byt _=>true
 | .int _,.str _=>true | .str _,.int _=>true | .bl _,.str _=>true | .str _,.bl _=>true
 | _,_=>false
def rEq:R2:=λ x y H Q=>scal x y=true/\Q (.bl (decide (x=y))) H
def rNe:R2:=λ x y H Q=>scal x y=true/\Q (.bl (!decide (x=y))) H
theorem jt {i j:Int}:decide (V.int i=V.int j)=(i == j):=by
 rw [xv];simp
theorem iW {i j:Bool}:decide (V.bl i=V.bl j)=(i == j):=by
 rw [xv];simp
theorem iV {i j:Str}:decide (V.str i=V.str j)=(i == j):=by
 rw [xv];simp
theorem dY {i j:Array UInt8}:decide (V.byt i=V.byt j)=(i.toList == j.toList):=by
 rw [xv];cases i
 cases j
 simp
section
variable {X:Cx}{a b c:Expr}{ta tb tc:TE}{pos:Pos}
theorem Ci {d:List (Addr×Obj)}{f:St}{H:Hp}{s:U2}{Q:VK}{k g:Bool}(h:Inv X d f H s)(q:Q (.bl k) H)(e:k=g):EP X d f Q (.bool g) s:=by
 subst e;exact ⟨.bl k,H,h,rfl,q⟩
theorem Bq:OpR X (Uh .Eq) rEq:=by
 intro g s k H x y v u Q d f ry h;obtain ⟨e,q⟩:=h;cases x with
 | non=>
  cases f
  cases y with
  | non=>cases ry;exact PySem.EqNone.eq_none_none (Ci d q (by simp))
  | bl j=>cases ry;exact PySem.EqNone.eq_none_bool (Ci d q (by simp))
  | int j=>obtain ⟨t',rfl⟩:=ry;exact PySem.EqNone.eq_none_int (Ci d q (by simp))
  | str j=>obtain ⟨t',rfl⟩:=ry;exact PySem.EqNone.eq_none_str (Ci d q (by simp))
  | _=>exact absurd (show false=true from e) ZM
 | bl i=>
  cases f
  cases y with
  | non=>cases ry;exact PySem.EqNone.eq_bool_none (Ci d q (by simp))
  | bl j=>cases ry;exact eq_bool (Ci d q iW)
  | str j=>obtain ⟨t',rfl⟩:=ry;exact PySem.EqMixed.eq_bool_str (Ci d q (by simp))
  | _=>exact absurd (show false=true from e) ZM
 | int i=>
  obtain ⟨t,rfl⟩:=f;cases y with
  | non=>cases ry;exact PySem.EqNone.eq_int_none (Ci d q (by simp))
  | int j=>obtain ⟨t',rfl⟩:=ry;exact eq_int (Ci d q jt)
  | str j=>obtain ⟨t',rfl⟩:=ry;exact PySem.EqMixed.eq_int_str (Ci d q (by simp))
  | _=>exact absurd (show false=true from e) ZM
 | str i=>
  obtain ⟨t,rfl⟩:=f;cases y with
  | non=>cases ry;exact PySem.EqNone.eq_str_none (Ci d q (by simp))
  | bl j=>cases ry;exact PySem.EqMixed.eq_str_bool (Ci d q (by simp))
  | int j=>obtain ⟨t',rfl⟩:=ry;exact PySem.EqMixed.eq_str_int (Ci d q (by simp))
  | str j=>obtain ⟨t',rfl⟩:=ry;exact eq_str (Ci d q iV)
  | _=>exact absurd (show false=true from e) ZM
 | byt i=>
  obtain ⟨t,rfl⟩:=f;cases y with
  | byt j=>obtain ⟨t',rfl⟩:=ry;exact PySem.W.eq_bytes (Ci d q dY)
  | _=>exact absurd (show false=true from e) ZM
 | _=>cases y<;>exact absurd (show false=true from e) ZM
theorem FZ:OpR X (Uh .NotEq) rNe:=by
 intro g s k H x y v u Q d f ry h;obtain ⟨e,q⟩:=h;cases x with
 | non=>
  cases f
  cases y with
  | non=>cases ry;exact PySem.EqNone.ne_none_none (Ci d q (by simp))
  | bl j=>cases ry;exact PySem.EqNone.ne_none_bool (Ci d q (by simp))
  | int j=>obtain ⟨t',rfl⟩:=ry;exact PySem.EqNone.ne_none_int (Ci d q (by simp))
  | str j=>obtain ⟨t',rfl⟩:=ry;exact PySem.EqNone.ne_none_str (Ci d q (by simp))
  | _=>exact absurd (show false=true from e) ZM
 | bl i=>
  cases f
  cases y with
  | non=>cases ry;exact PySem.EqNone.ne_bool_none (Ci d q (by simp))
  | bl j=>cases ry;exact ne_bool (Ci d q (congrArg not iW))
  | str j=>obtain ⟨t',rfl⟩:=ry;exact PySem.EqMixed.ne_bool_str (Ci d q (by simp))
  | _=>exact absurd (show false=true from e) ZM
 | int i=>
  obtain ⟨t,rfl⟩:=f;cases y with
  | non=>cases ry;exact PySem.EqNone.ne_int_none (Ci d q (by simp))
  | int j=>obtain ⟨t',rfl⟩:=ry;exact ne_int (Ci d q (congrArg not jt))
  | str j=>obtain ⟨t',rfl⟩:=ry;exact PySem.EqMixed.ne_int_str (Ci d q (by simp))
  | _=>exact absurd (show false=true from e) ZM
 | str i=>
  obtain ⟨t,rfl⟩:=f;cases y with
  | non=>cases ry;exact PySem.EqNone.ne_str_none (Ci d q (by simp))
  | bl j=>cases ry;exact PySem.EqMixed.ne_str_bool (Ci d q (by simp))
  | int j=>obtain ⟨t',rfl⟩:=ry;exact PySem.EqMixed.ne_str_int (Ci d q (by simp))
  | str j=>obtain ⟨t',rfl⟩:=ry;exact ne_str (Ci d q (congrArg not iV))
  | _=>exact absurd (show false=true from e) ZM
 | byt i=>
  obtain ⟨t,rfl⟩:=f;cases y with
  | byt j=>obtain ⟨t',rfl⟩:=ry;exact PySem.W.ne_bytes (Ci d q (congrArg not dY))
  | _=>exact absurd (show false=true from e) ZM
 | _=>cases y<;>exact absurd (show false=true from e) ZM
theorem Hc:OpR X (Uh .Lt) (rI0 λ i j=>.bl (decide (i < j))):=opB0 λ _ _ _ _ _ _ _ q=>lt_int q
theorem Pk:OpR X (Uh .LtE) (rI0 λ i j=>.bl (decide (i<=j))):=opB0 λ _ _ _ _ _ _ _ q=>le_int q
theorem Hu:OpR X (Uh .Gt) (rI0 λ i j=>.bl (decide (j < i))):=opB0 λ _ _ _ _ _ _ _ q=>gt_int q
theorem bR:OpR X (Uh .GtE) (rI0 λ i j=>.bl (decide (j<=i))):=opB0 λ _ _ _ _ _ _ _ q=>ge_int q
theorem Gi:OpR X (Uh .Is) (λ x y H Q=>y=.non/\Q (.bl (decide (x=.non))) H):=by
 intro e s f H x y v u Q g d ry h;obtain ⟨rfl,q⟩:=h;cases ry
 refine is_none_gen (Ci g q ?_);cases x<;>first
  | (cases d;rfl)
  | (obtain ⟨t,rfl⟩:=d;rfl)
theorem rH:OpR X (Uh .IsNot) (λ x y H Q=>y=.non/\Q (.bl (!decide (x=.non))) H):=by
 intro e s f H x y v u Q g d ry h;obtain ⟨rfl,q⟩:=h;cases ry
 refine isnot_none_gen (Ci g q ?_);cases x<;>first
  | (cases d;rfl)
  | (obtain ⟨t,rfl⟩:=d;rfl)
theorem nomark (b:Expr){d:CmpOp}(h:d≠.In:=by decide)(e:d≠.NotIn:=by decide):xr d b=false:=by
 have e1:(d == CmpOp.In)=false:=by cases d<;>first | rfl | exact absurd rfl h
 have e2:(d == CmpOp.NotIn)=false:=by cases d<;>first | rfl | exact absurd rfl e
 cases b<;>simp [xr,e1,e2]
theorem Dr {d:CmpOp}{r:R2}(f:OpR X (Uh d) r)(ha:PE X a ta)(hb:PE X b tb)(g:xr d b=false:=by first | exact nomark _ | rfl):PE X (.Compare a [d] [b] pos) (tOp r ta tb):=by
 intro e s i H Q n h;exact wpAny_Compare1 (binT ha hb n h λ v u j x y k l m ry q=>f e j i k x y v u Q l m ry q) g
inductive zu (Q:Bool->Hp->Prop)(x:V)(H':Hp):Prop | mk (k:_) (_:x=.bl k) (_:Q k H')
def tTest (t:TE):TT:=λ d H Q=>t d H λ x e=>zu Q x e
theorem BR {f:CmpOp}{r:R2}(i:OpR X (Uh f) r)(ha:PE X a ta)(hb:PE X b tb)(j:xr f b=false:=by first | exact nomark _ | rfl):PT X (.Compare a [f] [b] pos) (tTest (tOp r ta tb)):=by
 intro d s g H Q G h;refine wpAny_isTrue_Compare1 (thn (ha d s g H _ G h) λ v l ⟨x,m,n,o,p⟩=>thn (hb d l g m _ n p) λ u q ⟨y,t,w,A,B⟩=>
  thn (i d q g t x y v u _ w o A B) λ c I ⟨z,C,D,E,k,e,F⟩=>?_) j
 subst e;cases E
 exact Ja ⟨C,D,F⟩
def tChain (r f:R2)(ta tb tc:TE):TE:=λ d H Q=>ta d H λ x g=>tb d g λ y h=>r x y h λ z e=>∃k,z=.bl k/\
 (if k=true then tc d e λ i j=>f y i j Q else Q (.bl false) e)
theorem bQ {j g:CmpOp}{r l:R2}(t:OpR X (Uh j) r)(m:OpR X (Uh g) l)(ha:PE X a ta)(hb:PE X b tb)(hc:PE X c tc)
  (w:lastMarks [j,g] [b,c]=false:=by with_unfolding_all rfl):PT X (.Compare a [j,g] [b,c] pos) (tTest (tChain r l ta tb tc)):=by
 intro f s i H Q a1 h;refine isTrue_chain (thn (ha f s i H _ a1 h) λ v A ⟨x,B,C,D,E⟩=>test_link (thn (hb f A i B _ C E) λ u F ⟨y,G,I,n,J⟩=>
  thn (t f F i G x y v u _ I D n J) λ d K ⟨z,o,p,L,k,e,q⟩=>?_)) w
 subst e;cases L
 refine Ja ?_;cases k with
 | false=>
  obtain ⟨a2,M,N⟩:=q;cases M
  exact ite_ff ⟨o,p,N⟩
 | true=>
  refine ite_tt (test_last (thn (hc f K i o _ p q) λ O P ⟨R,S,T,U,V⟩=>thn (m f P i S y R u O _ T n U V) λ d' a3 ⟨a4,W,Y,Z,a5,e2,a0⟩=>?_))
  subst e2;cases Z
  exact Ja ⟨W,Y,a0⟩
theorem line63:(Y3:Nat) < 2 ^ 63:=by rw [sizeLine_eq];decide
inductive uV (x:V)(y:V)(H:Hp)(Q:VK):Prop | mk (i j:_) (_:x=.str i) (_:y=.str j) (_:i.length+j.length<=Y3) (_:Q (.str (i++j)) H)
theorem Ce:OpR X (yy .Add) uV:=by
 intro d s f H x y v u Q g e ry h;obtain ⟨i,j,rfl,rfl,hz,q⟩:=h;obtain ⟨t,rfl⟩:=e;obtain ⟨t',rfl⟩:=ry;exact add_str (λ t' tk=>⟨.str (i++j),H,g.tok _,⟨_,rfl⟩,q⟩) hz
def PlainIxT (b:Expr):Prop:=∀o i,GO b false o i=operate [o,i] (GP o i)
theorem oh (ha:PE X a ta)(hb:PE X b tb)(d:PlainIxT b):
  PE X (.Subscript a b pos) (tOp (λ x y H Q=>∃z i c,x=.str z/\y=.int i/\0<=i/\i < 2 ^ 63/\i < z.length/\z.cps[i.toNat]?=some c/\Q (.str ⟨#[c]⟩) H) ta tb):=by
 intro f s p H Q r h;refine Subscript_ (binT ha hb r h λ v u g x y j k l ry q=>?_)
 obtain ⟨z,i,c,rfl,rfl,m,o,n,hc,q⟩:=q;obtain ⟨t,rfl⟩:=l;obtain ⟨t',rfl⟩:=ry;have e:seqIndex? i z.length=some i.toNat:=PySem.StrLaws.seqIndex_nonneg m n;exact tail_any (wR g z t) slot_str_getitem.lookup (getItem_str (c:=c) (by
  have e1:decide (i < -(2 ^ 63:Int))=false:=η ∅
  have e2:decide (i≥2 ^ 63)=false:=η ∅
  rw [e1,e2]<;>rfl) (by rw [e];exact hc) ⟨.str ⟨#[c]⟩,j,k.tok _,⟨_,rfl⟩,q⟩) (d _ _)
theorem vals1 {x:V}{us:List Value}(r:Vals [x] us):∃u,us=[u]/\RelV x u:=by
 cases r with
 | cons d e=>cases e;exact ⟨_,rfl,d⟩
theorem vals2 {x y:V}{us:List Value}(r:Vals [x,y] us):∃u d,us=[u,d]/\RelV x u/\RelV y d:=by
 cases r with
 | cons e f=>
  cases f with
  | cons g h=>cases h;exact ⟨_,_,rfl,e,g⟩
inductive AJ5 (xs:List V)(H:Hp)(Q:VK):Prop | mk (i:_) (_:xs=[.int i]) (_:Q (.int (if i < 0 then -i else i)) H)
theorem K8:CallR X (.builtin "abs") AJ5:=by
 intro d s e H xs us Q f r h;obtain ⟨i,rfl,q⟩:=h;obtain ⟨u,rfl,t,rfl⟩:=vals1 r;exact call_abs_int λ u tk=>⟨.int (if i < 0 then -i else i),H,f.tok _,⟨_,rfl⟩,q⟩
theorem Ub:CallR X (.type "int") (λ xs H Q=>(∃i,xs=[.int i]/\Q (.int i) H)\/∃k,xs=[.bl k]/\Q (.int (if k then 1 else 0)) H):=by
 intro d s g H xs us Q f r h;rcases h with ⟨i,rfl,q⟩ | ⟨k,rfl,q⟩
 ·obtain ⟨u,rfl,t,rfl⟩:=vals1 r;exact call_int_int ⟨.int i,H,f,⟨_,rfl⟩,q⟩
 ·obtain ⟨u,rfl,e⟩:=vals1 r;cases e
  exact call_int_bool ⟨.int (if k then 1 else 0),H,f.tok _,⟨_,rfl⟩,q⟩
theorem aR:CallR X (.type "str") (λ xs H Q=>∃i,xs=[.int i]/\i.natAbs.log2 < 1920/\Q (.str (toString i)) H):=by
 intro d s e H xs us Q f r h;obtain ⟨i,rfl,hz,q⟩:=h;obtain ⟨u,rfl,t,rfl⟩:=vals1 r;exact PySem.P.str_of_int hz ⟨.str _,H,f.tok _,⟨_,rfl⟩,q⟩
end
structure ObjM (h:Heap)(x dx C:Addr)(mA:Str->Option Value):Prop where
 obj:h.get? x=some (Qm C dx)
 ns:h.Ns1 dx mA
 ne:dx≠x
theorem Ag9 {h:Heap}{c:Addr}{d:Str->Option Value}(n:h.Ns1 c d):∃f,h.get? c=some f/\∀name,qa name f=some (d name):=by
 obtain ⟨o,es,m,g,hd,i,_,j⟩:=n;refine ⟨o,g,λ name=>?_⟩
 have e:=j name;unfold nsFind findBy at e;rw [<- Array.find?_toList] at e;unfold qa;rw [hd];dsimp only
 split
 ·rename_i y q
  rw [q] at e;exact congrArg some e
 ·rename_i q
  rw [q] at e;have a:es.toList.any (·.refKey)=false:=by
   rw [List.any_eq_false];intro y k;obtain ⟨z,t,b⟩:=i y (NG.mp k);simp [wS.refKey,b]
  have l:¬ es.toList.any (·.refKey)=true:=by rw [a];exact ZM
  rw [if_neg l];exact congrArg some e
theorem ObjM.look {h:Heap}{x b C:Addr}{c:Str->Option Value}(e:ObjM h x b C c):∃a,PySem.W.InstAt h x (Qm C b) C (some a)/\∀name,qa name a=some (c name):=
 let ⟨a,d,hl⟩:=Ag9 e.ns
 ⟨a,⟨e.obj,rfl,rfl,d⟩,hl⟩
section
variable {prog:YA}{w:World}{A:XW}{E:Value->U2->Prop}{s:U2}{K:FrG}{x dx C f:Addr}{mA:Str->Option Value}{name:Str}{v:Value}
theorem zL {a:Bool}{Q:Value->U2->Prop}(X:K.In s.heap)(e:ObjM s.heap x dx C mA)(c:UM K C name=true)(d:UR K C=true)
  (ha:ZU K (.ref C) name=some none) (hv:mA name=some v) (b:PySem.W.handedIn v=true) (h:Q v { s with toks:=s.toks+1 }):
  wpAny (model prog w) A (getAttr (.ref x) name a) Q E s:=by
 obtain ⟨g,i,hl⟩:=e.look;exact PySem.W.get_value X i (jo c).1 (PySem.W.findObj_own d ha rfl (by rw [hl,hv])) b h
theorem AM0 {pl:Sem Bool}{Q:Value×List Value->U2->Prop}(X:K.In s.heap)(d:ObjM s.heap x dx C mA)(a:UM K C name=true)
  (hf:ZU K (.ref C) name=some (some (.ref f))) (b:XT K (.ref f)=true) (hv:mA name=none) (h:Q (.ref f,[.ref x]) s):
  wpAny (model prog w) A (getMethod (.ref x) name pl) Q E s:=by
 obtain ⟨c,e,hl⟩:=d.look;exact PySem.W.method_fn X e (jo a).1 (jo a).2 hf (beq_iff_eq.mp b) (by show (qa name c).map (·.isSome)=some false;rw [hl,hv];rfl) h
theorem sX {ns:List Str}{Q:Unit->U2->Prop}(X:K.In s.heap)(e:ObjM s.heap x dx C mA)
  (l:ZU K (.ref C) "__setattr__"=some (some (.builtin "object.__setattr__"))) (m:Qa K C=true) (n:No K C name=some none) (o:UR K C=true)
  (p:FI mA ns) (hsz:ns.length<=Y3)
  (h:∀h',ObjM h' x dx C (λ y=>if y=name then some v else mA y)->zS dx s.heap h'->Q () { s with heap:=h',toks:=s.toks+2 }):
  wpAny (model prog w) A (setAttr (.ref x) name v) Q E s:=by
 obtain ⟨B,t,hl⟩:=e.look;refine PySem.W.set_plain X t l (PySem.W.osa_open (s:={ s with toks:=s.toks+1 }) (r:=none) X t m n λ b=>?_)
 obtain ⟨cd,hc,g⟩:=PySem.W.any_some o;have q:s.heap.get? x=some ⟨.ref C,some dx,.plain,#[]⟩:=e.obj;refine U1 (Ya (U1 (U1 (wpAny_loadPart q (U1 (PySem.W.Looks.here (s:={ s with toks:=s.toks+1 }) (PySem.W.looks_clsIn X hc) ?_))))))
 rw [g];refine Ya (a:=some dx) (U1 (Ya (U1 ?_)));refine wpAny_nsSet1 (s:={ s with toks:=s.toks+1 }) e.ns λ h' c d=>?_
 obtain ⟨D,u,z,i,j,k⟩:=c.count (FI.cons name v p);refine U1 (wpAny_lookBehind i (by rw [j];exact pastItsLine_dict (ZE k (by rw [X2];omega))) ?_)
 exact Ya (h _ ⟨(d.2 _ (JE e.ne)).trans e.obj,c,e.ne⟩ d)
theorem rG {c:Result->U2->Prop}{vs:List Value}{a:List (Str×Value)}(X:K.In s.heap)(b:QP K C=true)
  (hi:ZU K (.ref C) "__init__"=some (some (.ref f))) (hf:PySem.W.typeIn K (.ref f)=some (.type "function"))
  (h:GS (model prog w) (A.under (.builtin "type.__call__" ⟨.ref C::vs,a⟩)) (.call (.ref f) ⟨.ref (s.heap.objs.size+1)::vs,a⟩) (PySem.W.InitBack (s.heap.objs.size+1) c)
   { s with heap:=(s.heap.push UG).push (Qm C s.heap.objs.size) }):
  GS (model prog w) A (.call (.ref C) ⟨vs,a⟩) c s:=by
 obtain ⟨e,g,d,t,os⟩:=s;exact PySem.W.make_core (PySem.W.makes_of X b) (PySem.W.looks_findIn X hi) (λ self=>PySem.W.bind_fn X self hf) (.inl rfl) h
end
def putF (f:Str)(v:V):List (Str×V)->List (Str×V)
 | []=>[(f,v)]
 | (a,x)::r=>if a=f then (a,v)::r else (a,x)::putF f v r
theorem dD (f a:Str)(v:V):∀fs:List (Str×V),(putF f v fs).lookup a=if a=f then some v else fs.lookup a
 | []=>by
  show xL a [(f,v)]=_;by_cases h:a=f
  ·have hb:(a == f)=true:=beq_iff_eq.mpr h;simp only [xL,hb,if_pos h]
  ·have hb:(a == f)=false:=beq_eq_false_iff_ne.mpr h;simp only [xL,hb,if_neg h]
 | (k,x)::r=>by
  have c:=dD f a v r;rw [show putF f v ((k,x)::r)=(if k=f then (k,v)::r else (k,x)::putF f v r) from rfl]
  by_cases b:k=f
  ·rw [if_pos b];by_cases h:a=k
   ·have hb:(a == k)=true:=beq_iff_eq.mpr h;simp only [xL,hb,if_pos (h.trans b)]
   ·have hb:(a == k)=false:=beq_eq_false_iff_ne.mpr h;simp only [xL,hb,if_neg (λ e:a=f=>h (e.trans b.symm))]
  ·rw [if_neg b];by_cases h:a=k
   ·have hb:(a == k)=true:=beq_iff_eq.mpr h;simp only [xL,hb,if_neg (λ e:a=f=>b (h.symm.trans e))]
   ·have hb:(a == k)=false:=beq_eq_false_iff_ne.mpr h;simp only [xL,hb];exact c
theorem Ws (f:Str)(v:V):∀fs:List (Str×V),f∈(putF f v fs).map (·.1)/\∀b,b∈fs.map (·.1)->b∈(putF f v fs).map (·.1)
 | []=>⟨by simp [putF],λ b h=>by simp at h⟩
 | (k,x)::r=>by
  obtain ⟨c,d⟩:=Ws f v r;rw [show putF f v ((k,x)::r)=(if k=f then (k,v)::r else (k,x)::putF f v r) from rfl]
  by_cases a:k=f
  ·rw [if_pos a];subst a;exact ⟨by simp,λ b h=>by simpa using h⟩
  ·rw [if_neg a];refine ⟨?_,λ b h=>?_⟩
   ·rw [YJ];exact W1 _ c
   ·rw [YJ] at h ⊢;rcases X1.mp h with e | e
    ·exact X1.mpr (.inl e)
    ·exact W1 _ (d b e)
theorem cR (f:Str)(v:V):∀fs:List (Str×V),(putF f v fs).length<=fs.length+1
 | []=>by simp [putF]
 | (k,x)::r=>by
  have b:=cR f v r;rw [show putF f v ((k,x)::r)=(if k=f then (k,v)::r else (k,x)::putF f v r) from rfl]
  by_cases a:k=f
  ·rw [if_pos a,X2,X2];omega
  ·rw [if_neg a,X2,X2];omega
theorem RelO.some_of {v:V}{o:Option Value}(r:RelO (some v) o):∃u,o=some u/\RelV v u:=by
 cases o with
 | none=>exact (show False from r).elim
 | some u=>exact ⟨u,rfl,r⟩
theorem RelO.none_of {o:Option Value}(r:RelO none o):o=none:=by
 cases o with
 | none=>rfl
 | some u=>exact (show False from r).elim
theorem z9 {v:V}{u:Value}(r:RelV v u):PySem.W.handedIn u=true:=by
 cases v with
 | non=>cases (show u=FH from r);rfl
 | bl b=>cases (show u=MG b from r);rfl
 | int i=>obtain ⟨t,e⟩:=(show ∃t,u=jI i t from r);cases e;rfl
 | str x=>obtain ⟨t,e⟩:=(show ∃t,u=Md x t from r);cases e;rfl
 | byt b=>obtain ⟨t,e⟩:=(show ∃t,u=Value.bytes b t from r);cases e;rfl
 | flt b=>obtain ⟨t,e⟩:=(show ∃t,u=Bz b t from r);cases e;rfl
 | ref a=>cases (show u=XP a from r);rfl
 | ty n=>cases (show u=jT n from r);rfl
section
variable {P:YA}{w:World}{H H':Hp}{h h':Heap}{a C dx:Addr}{fs fs':List (Str×V)}
theorem Oj (hok:HOk P w H h)(e:H a=some (.ins C dx fs)):∃b,ObjM h a dx C b/\(∀f,RelO (fs.lookup f) (b f))/\FI b (fs.map (·.1))/\fs.length<=1000/\H dx=some (.own a):=by
 obtain ⟨d,z,ne,c,b,n,r,q⟩:=(show ObjOk P w H h a (.ins C dx fs) from hok a _ e)
 exact ⟨b,⟨c,n,ne⟩,r,q,z,d⟩
end
structure Cls (K:FrG)(C:Addr):Prop where
 pg:UM K C uQ=true
 hd:UR K C=true
 po:Qa K C=true
 sa:ZU K (.ref C) "__setattr__"=some (some (.builtin "object.__setattr__"))
theorem Cls.get {K:FrG}{C:Addr}(c:Cls K C)(f:Str):UM K C f=true:=c.pg
def NoAttr (K:FrG)(C:Addr)(f:Str):Prop:=ZU K (.ref C) f=some none
theorem NoAttr.taker {K:FrG}{C:Addr}{f:Str}(n:NoAttr K C f):No K C f=some none:=by
 unfold No;rw [show ZU K (.ref C) f=some none from n]
 rfl
structure Meth (K:FrG)(C:Addr)(m:Str)(f:Addr):Prop where
 at_:ZU K (.ref C) m=some (some (.ref f))
 fn:XT K (.ref f)=true
 kp:YE K (.ref f)=true
section
variable {X:Cx}{pins:List (Addr×Obj)}{σ:St}{H:Hp}{s:U2}{a C dx:Addr}{fs:List (Str×V)}{f:Str}{v:V}{A:XW}{E:Value->U2->Prop}
theorem cI {b:Bool}{Q:Value->U2->Prop}(g:Inv X pins σ H s)(e:H a=some (.ins C dx fs))(c:Cls X.K C)(n:NoAttr X.K C f)(l:fs.lookup f=some v)
  (h:∀u s',Inv X pins σ H s'->RelV v u->Q u s'):wpAny (model X.prog X.w) A (getAttr (.ref a) f b) Q E s:=by
 obtain ⟨i,k,r,_,_,_⟩:=Oj g.hok e;obtain ⟨u,j,d⟩:=RelO.some_of (v:=v) (o:=i f) (by rw [<- l];exact r f)
 exact zL g.kIn k (c.get f) c.hd n j (z9 d) (h u _ (g.tok _) d)
theorem fM {m:Str}{g:Addr}{pl:Sem Bool}{Q:Value×List Value->U2->Prop}(i:Inv X pins σ H s)(e:H a=some (.ins C dx fs))(c:Cls X.K C)(k:Meth X.K C m g)(l:fs.lookup m=none)
  (h:Q (.ref g,[.ref a]) s):wpAny (model X.prog X.w) A (getMethod (.ref a) m pl) Q E s:=by
 obtain ⟨b,j,r,_,_,_⟩:=Oj i.hok e;have d:b m=none:=RelO.none_of (by rw [<- l];exact r m)
 exact AM0 i.kIn j (c.get m) k.at_ k.fn d h
theorem eU {y:V}{u:Value}{Q:Unit->U2->Prop}(l:Inv X pins σ H s)(e:H a=some (.ins C dx fs))(c:Cls X.K C)(n:NoAttr X.K C f)(hl:fs.length < 1000)(ry:RelV y u)
  (h:∀s',Inv X pins σ (upd H a (.ins C dx (putF f y fs))) s'->Q () s'):wpAny (model X.prog X.w) A (setAttr (.ref a) f u) Q E s:=by
 obtain ⟨i,m,r,j,_,k⟩:=Oj l.hok e;have hz:(fs.map (·.1)).length<=Y3:=by rw [Y2,sizeLine_eq];omega
 refine sX l.kIn m c.sa c.po n.taker c.hd j hz λ h' g p=>h _ ?_
 have hd:∃o,h'.get? dx=some o:=let ⟨o,_,_,t,_⟩:=g.ns;⟨o,t⟩
 refine l.write (x:=a) (e:=dx) (by rw [e];exact zh) (.inr k) (λ b q hb z=>(p.2 b hb).trans z) hd ?_
 refine ⟨by rw [BP m.ne];exact k,?_,m.ne,g.obj,_,g.ns,λ d=>?_,λ d B=>?_⟩
 ·have:=cR f y fs;omega
 ·show RelO ((putF f y fs).lookup d) (if d=f then some u else i d)
  rw [dD];by_cases q:d=f
  ·rw [if_pos q,if_pos q];exact ry
  ·rw [if_neg q,if_neg q];exact r d
 ·by_cases q:d=f
  ·rw [q];exact (Ws f y fs).1
  ·refine (Ws f y fs).2 d (j d λ z=>B ?_)
   show (if d=f then some u else i d)=none
   rw [if_neg q];exact z
theorem Inv.made (h:Inv X pins σ H s):Inv X pins σ (upd (upd H s.heap.objs.size (.own (s.heap.objs.size+1))) (s.heap.objs.size+1) (.ins C s.heap.objs.size []))
  { s with heap:=(s.heap.push UG).push (Qm C s.heap.objs.size) }:=by
 have e1:(s.heap.push UG).get? s.heap.objs.size=some UG:=XM s.heap rfl;have e2:((s.heap.push UG).push (Qm C s.heap.objs.size)).get? (s.heap.objs.size+1)=some (Qm C s.heap.objs.size):=by
  have:=XM (s.heap.push UG) (o:=Qm C s.heap.objs.size) rfl
  rwa [qb] at this
 have c:(s.heap.push UG).Ns s.heap.objs.size (λ _=>none):=⟨UG,#[],_,e1,rfl,(λ e he=>absurd he (by simp)),λ _=>rfl⟩
 have d:=h.laid (a:=s.heap.objs.size) (o:=.own (s.heap.objs.size+1)) (h':=s.heap.push UG) (t':=s.toks) (λ b u q=>ZO _ q) (ZY _) ⟨_,e1⟩
 refine d.laid (a:=s.heap.objs.size+1) (o:=.ins C s.heap.objs.size []) (t':=s.toks) (λ b u q=>ZO _ q) (MQ (qb _ _)) ?_
 have ne:s.heap.objs.size≠s.heap.objs.size+1:=XO (wx _);refine ⟨by rw [BP ne,Aq],WI _,ne,e2,λ _=>none,(Heap.Ns1.of_empty c).at λ o q=>ZO _ q,λ _=>zh,λ y g=>absurd rfl g⟩
theorem xx {prog:YA}{w:World}{env:Env}{e:Expr}{f:Str}{pos:Pos}{s:U2}{Q:Value->U2->Prop}(hb:wW e f env (eval e env)=eval e env)
  (h:wpAny (model prog w) A (eval e env) (λ o b=>wpAny (model prog w) A (getAttr o f true) Q E b) E s):wpAny (model prog w) A (eval (.Attribute e f pos) env) Q E s:=
 Attribute_any_ h (by rw [arm_eval_Attribute,hb])
end
inductive yI (K:FrG)(f:Str)(Q:VK)(x:V)(H1:Hp):Prop | mk (a C dx fs v:_) (_:x=.ref a) (_:H1 a=some (.ins C dx fs)) (_:Cls K C) (_:NoAttr K C f) (_:fs.lookup f=some v) (_:Q v H1)
def tFld (K:FrG)(a:TE)(f:Str):TE:=λ b H Q=>a b H λ x c=>yI K f Q x c
def sFld (K:FrG)(e g:TE)(f:Str):TS:=λ i b H=>g b H λ y h=>e b h λ x c=>∃a C d fs,x=.ref a/\c a=some (.ins C d fs)/\Cls K C/\NoAttr K C f/\fs.length < 1000/\
 i.nx b (upd c a (.ins C d (putF f y fs)))
def InOp (X:Cx)(c:NV)(d:V->V->Hp->VK->Prop):Prop:=
 ∀(a:List (Addr×Obj)) (s:U2) (b:St) (H:Hp) (x y:V) (u v:Value) (Q:VK),Inv X a b H s->RelV x u->RelV y v->d x y H Q->wpAny (model X.prog X.w) X.A (inplaceOp c u v) (EP X a b Q) X.xe s
def sFldAug (K:FrG)(h i:TE)(j:V->V->Hp->VK->Prop)(f:Str):TS:=λ m d H=>h d H λ x e=>∃a C k fs v,x=.ref a/\e a=some (.ins C k fs)/\Cls K C/\NoAttr K C f/\fs.lookup f=some v/\
 i d e λ y l=>j v y l λ z g=>∃c b,g a=some (.ins C c b)/\b.length < 1000/\m.nx d (upd g a (.ins C c (putF f z b)))
section
variable {X:Cx}{o e value:Expr}{f:Str}{pos pos' tpos:Pos}{ta tv:TE}
theorem AS6 (he:PE X e ta)(hb:wW e f X.env (eval e X.env)=eval e X.env):PE X (.Attribute e f pos) (tFld X.K ta f):=by
 intro b s d H Q r h;refine xx hb (thn (he b s d H _ r h) λ u t ⟨x,g,i,j,a,C,w,fs,v,ex,k,c,n,l,q⟩=>?_)
 subst ex;obtain rfl:u=XP a:=j;exact cI i k c n l λ y z m p=>⟨v,g,m,p,q⟩
theorem wV (ha:PE X o ta)(hv:PE X value tv)(g:jS value (some (.Attribute o f pos')) pos.line X.env=pure false):PS X (.Assign [.Attribute o f pos'] value pos) (sFld X.K ta tv f):=by
 intro b s d H F z h;refine plainObj_wpAny_Assign_Attribute (thn (hv b s d H _ z h) λ u i ⟨y,j,k,ry,q⟩=>thn (ha b i d j _ k q) λ m A ⟨x,B,p,r,a,C,D,fs,ex,t,c,n,l,v⟩=>?_) g
 subst ex;obtain rfl:m=XP a:=r;exact eU p t c n l ry λ E w=>⟨d,_,w,v⟩
theorem bY {g:NV}{i:V->V->Hp->VK->Prop}(ha:PE X o ta)(hv:PE X value tv)(j:InOp X g i):PS X (.AugAssign (.Attribute o f tpos) g value pos) (sFldAug X.K ta tv i f):=by
 intro b s d H a1 S h;refine wpAny_AugAssign_AttributeAny (thn (ha b s d H _ S h) λ m T ⟨x,p,r,t,a,C,U,fs,v,ex,w,c,n,l,q⟩=>?_)
 subst ex;obtain rfl:m=XP a:=t;refine cI r w c n l λ u A B D=>thn (hv b A d p _ B q) λ E F ⟨y,G,I,ry,J⟩=>thn (j b F d G v y u E _ I D ry J) λ W Y ⟨z,Z,L,M,Q,R,k,N,O⟩=>?_
 exact eU L k c n N M λ a0 P=>⟨d,_,P,O⟩
inductive rAdd (x:V)(y:V)(H:Hp)(Q:VK):Prop | mk (i j:_) (_:x=.int i) (_:y=.int j) (_:Q (.int (i+j)) H)
theorem lD:InOp X .Add rAdd:=by
 rintro a s c H x y u v Q d b ry ⟨i,j,rfl,rfl,q⟩
 obtain ⟨t,rfl⟩:=(show ∃t,u=jI i t from b)
 obtain ⟨t',rfl⟩:=(show ∃t',v=jI j t' from ry)
 exact PyProof.Rows.iadd_int ⟨.int (i+j),H,d.tok _,⟨_,rfl⟩,q⟩
end
section
variable {X:Cx}{pins:List (Addr×Obj)}{σ:St}{H:Hp}{s:U2}{A:XW}{E:Value->U2->Prop}{Q:Value->U2->Prop}{c:Value}{b:Bool}
inductive TyOf (K:FrG)(H:Hp):V->Value->Prop where
 | non:TyOf K H .non (.type "NoneType")
 | bl (x:Bool):TyOf K H (.bl x) (.type "bool")
 | int (i:Int):TyOf K H (.int i) (.type "int")
 | str (x:Str):TyOf K H (.str x) (.type "str")
 | flt (x:UInt64):TyOf K H (.flt x) (.type "float")
 | lst {a:Addr} {xs:List V} (e:H a=some (.lst xs)):TyOf K H (.ref a) (.type "list")
 | frz {a:Addr} {o:Obj} {xs:List V} (e:H a=some (.frz o (.lst xs))):TyOf K H (.ref a) (.type "list")
 | tup {a:Addr} {xs:List V} (e:H a=some (.tup xs)):TyOf K H (.ref a) (.type "tuple")
 | dK {a:Addr} {kvs:List (Key×V)} (e:H a=some (.dK kvs)):TyOf K H (.ref a) (.type "dict")
 | dT {a:Addr} {kvs:List (List Key×V)} (e:H a=some (.dT kvs)):TyOf K H (.ref a) (.type "dict")
 | ins {a C dx:Addr} {fs:List (Str×V)} (e:H a=some (.ins C dx fs)) (cl:Cls K C) (ha:ZU K (.ref C) "__class__"=some (some (.builtin "object.__class__")))
   (hn:PySem.W.specialIn K (.builtin "object.__class__") "__get__"=some (some (.builtin "getset_descriptor.__get__"))) (htk:PySem.W.takesIn K (.builtin "object.__class__")=some true)
   (hm:PySem.W.mroIn K C (.type "object")=some true):TyOf K H (.ref a) (.ref C)
theorem Ln {x:V}{u t:Value}(j:Inv X pins σ H s)(d:RelV x u)(r:TyOf X.K H x t)(e:PySem.W.kitOne X.K t c=some b)(h:∀tk,Q (.bool b) { s with toks:=tk }):
  wpAny (model X.prog X.w) A (call (.builtin "isinstance") [u,c]) Q E s:=by
 cases r with
 | non=>cases (show u=FH from d);exact WB PySem.W.kitx_none j.kIn zh e (λ z=>nomatch z) h
 | bl y=>cases (show u=MG y from d);exact WB PySem.W.kitx_bool j.kIn zh e (λ z=>nomatch z) h
 | int i=>obtain ⟨t,q⟩:=(show ∃t,u=jI i t from d);cases q;exact WB PySem.W.kitx_int j.kIn zh e (λ z=>nomatch z) h
 | str y=>obtain ⟨t,q⟩:=(show ∃t,u=Md y t from d);cases q;exact WB PySem.W.kitx_str j.kIn zh e (λ z=>nomatch z) h
 | flt y=>obtain ⟨t,q⟩:=(show ∃t,u=Bz y t from d);cases q;exact WB PySem.W.kitx_float j.kIn zh e (λ z=>nomatch z) h
 | @lst a xs f=>
  cases (show u=XP a from d)
  obtain ⟨_,_,n,_,g⟩:=(show ObjOk X.prog X.w H s.heap a (.lst xs) from j.hok a _ f)
  exact WB GB j.kIn ⟨_,g,rfl⟩ e (λ z=>nomatch z) h
 | @frz a v xs f=>
  cases (show u=XP a from d)
  obtain ⟨_,_,_,n,_,g⟩:=(show ObjOk X.prog X.w H s.heap a (.frz v (.lst xs)) from j.hok a _ f)
  exact WB GB j.kIn ⟨_,g,rfl⟩ e (λ z=>nomatch z) h
 | @tup a xs f=>
  cases (show u=XP a from d)
  obtain ⟨_,_,_,p⟩:=(show ObjOk X.prog X.w H s.heap a (.tup xs) from j.hok a _ f)
  obtain ⟨o,g,k,_⟩:=p;exact WB MH j.kIn ⟨o,g,k⟩ e (λ z=>nomatch z) h
 | @dK a l f=>
  cases (show u=XP a from d)
  obtain ⟨_,_,vs,_,p⟩:=(show ObjOk X.prog X.w H s.heap a (.dK l) from j.hok a _ f)
  obtain ⟨o,es,B,g,k,_⟩:=p;exact WB MR j.kIn ⟨o,g,k.1⟩ e (λ z=>nomatch z) h
 | @dT a l f=>
  cases (show u=XP a from d)
  obtain ⟨_,_,xs,_,o,es,B,g,k,_⟩:=(show ObjOk X.prog X.w H s.heap a (.dT l) from j.hok a _ f)
  exact WB MR j.kIn ⟨o,g,k.1⟩ e (λ z=>nomatch z) h
 | @ins a C G fs f cl ha D m F=>
  cases (show u=XP a from d)
  obtain ⟨I,J,_⟩:=Oj j.hok f;obtain ⟨L,M,_⟩:=J.look;exact WB (PySem.W.kitx_own (cl.get _) cl.hd ha D m F) j.kIn M e (λ z=>nomatch z) h
end
structure Room (k:Nat)(A:XW):Prop where
 hd:A.handled=none
 dp:A.depth+3 * k+5 < NX
 un:A.units+16 * k+200 < cLine
theorem tK {A:XW}{C:Addr}{us:List Value}{a:List (Str×Value)}:(A.under (.builtin "type.__call__" ⟨.ref C::us,a⟩)).depth=A.depth+1:=by
 first | rfl | simp [MS,Code.weight,Code.isCreation,Code.isGuard,Code.isCaller,Code.frames,MU,guardIds]
theorem Ai1 {A:XW}{C:Addr}{us:List Value}{a:List (Str×Value)}:(A.under (.builtin "type.__call__" ⟨.ref C::us,a⟩)).units=A.units+1:=by
 first | rfl | simp [MS,Code.cUnits,Code.frames,MU]
theorem Room.make {k:Nat}{A:XW}(r:Room (k+1) A)(C:Addr)(us:List Value)(a:List (Str×Value)):Room k (A.under (.builtin "type.__call__" ⟨.ref C::us,a⟩)):=
 ⟨r.hd,by have:=r.dp;rw [tK];omega,by have:=r.un;rw [Ai1];omega⟩
def tNil:TA:=λ _ H Q=>Q [] H
def tCons (b:TE)(c:TA):TA:=λ a H Q=>b a H λ x d=>c a d λ xs e=>Q (x::xs) e
section
variable {X:Cx}{e:Expr}{es:List Expr}{te:TE}{t:TA}{pos:Pos}
theorem Aa:PA X [] tNil:=λ _ _ _ _ H Q a h=>Calls.spliced_nil ⟨[],H,a,.nil,h⟩
theorem DY (ha:PE X e te)(c:PA X es t)(d:XE (e::es) X.env=(false,eval e X.env)::XE es X.env:=by rfl):PA X (e::es) (tCons te t):=by
 intro pos a s b H Q p h;rw [d];show wpAny _ _ (spliced ((false,eval e X.env)::yT pos (XE es X.env))) _ _ s;refine Calls.spliced_cons (thn (ha a s b H _ p h) λ u f ⟨x,g,i,j,k⟩=>?_)
 exact thn (c pos a f b g _ i k) λ us q ⟨xs,l,m,n,o⟩=>⟨x::xs,l,m,.cons j n,o⟩
def tTup (t:TA):TE:=λ b H Q=>t b H λ xs a=>xs.length<=Y3/\∀p,a p=none->Q (.ref p) (upd a p (.tup xs))
def tLst (t:TA):TE:=λ b H Q=>t b H λ xs a=>xs.length<=Y3/\∀p,a p=none->Q (.ref p) (upd a p (.lst xs))
theorem Bh {x1}(h:PA X es t):PE X (.Tuple es x1 pos) (tTup t):=by
 intro c s g H Q j i;refine wpAny_Tuple_spliced (thn (h pos c s g H _ j i) λ us a ⟨xs,d,f,r,z,q⟩=>⟨by rw [<- r.length];exact z,?_⟩)
 have hf:d a.heap.objs.size=none:=f.hok.fresh (ZY _);refine ⟨.ref a.heap.objs.size,upd d a.heap.objs.size (.tup xs),f.laid (t':=a.toks) (λ b u e=>ZO _ e) (ZY _) ?_,rfl,q _ hf⟩
 exact ⟨z,us,r,⟨_,XM _ rfl,rfl,_,rfl⟩⟩
theorem CW (h:PA X es t):PE X (.List es pos) (tLst t):=by
 intro c s g H Q j i;refine wpAny_List_spliced (thn (h pos c s g H _ j i) λ us a ⟨xs,d,f,r,z,q⟩=>⟨by rw [<- r.length];exact z,?_⟩)
 have hf:d a.heap.objs.size=none:=f.hok.fresh (ZY _);refine ⟨.ref a.heap.objs.size,upd d a.heap.objs.size (.lst xs),f.laid (t':=a.toks) (λ b u e=>ZO _ e) (ZY _) ?_,rfl,q _ hf⟩
 exact ⟨z,us,0,r,XM _ rfl⟩
end
abbrev Sp:=List V->Hp->VK->XK->Prop
abbrev CXT:=List Env->Hp->U2->XK->Value->U2->Prop
structure Env0 (P:YA)(w:World)(K:FrG)(mg:Str->Option Value)(base:Heap)(A:XW)(outer:List Env)(s:U2)(H:Hp):Prop where
 frames:A.frames=some outer
 mod:Mod K mg base
 bs:∀b o,base.get? b=some o->s.heap.get? b=some o/\H b=none
 bsz:base.objs.size<=s.heap.objs.size
 funs:s.heap.FunFrames base outer
 frf:∀b∈frs outer,H b=none
 hok:HOk P w H s.heap
 bare:wo s.gens
def CE (outer:List Env)(P:YA)(w:World)(H:Hp)(s:U2)(Q:VK)(u:Value)(s':U2):Prop:=
 ∃v a,s'.os=s.os/\wo s'.gens/\Un (frs outer) [] H a s.heap s'.heap/\HOk P w a s'.heap/\RelV v u/\Q v a
def CR (CX:CXT)(outer:List Env)(P:YA)(w:World)(H:Hp)(s:U2)(Q:VK)(E:XK)(r:Result)(s':U2):Prop:=
 match r with
 | .ok (.ret u)=>CE outer P w H s Q u s'
 | .ok _=>False
 | .error e=>CX outer H s E e s'
structure FnOk (P:YA)(w:World)(K:FrG)(mg:Str->Option Value)(base:Heap)(CX:CXT)(k:Nat)(f:Addr)(fd:UH)(ps:List Str)(sp:Sp):Prop where
 len:∀vs H Q E,sp vs H Q E->vs.length=ps.length
 run:∀(A:XW) (outer:List Env) (s:U2) (H:Hp) (args:Args) (us:List Value) (vs:List V) (Q:VK) (E:XK),Room k A->Env0 P w K mg base A outer s H->Mn s fd args (ps.zip us)->Vals vs us->sp vs H Q E->
  GS (model P w) A (.call (.ref f) args) (CR CX outer P w H s Q E) s
theorem Env0.make {P:YA}{w:World}{K:FrG}{mg:Str->Option Value}{base:Heap}{A:XW}{outer:List Env}{s:U2}{H:Hp}(e:Env0 P w K mg base A outer s H)(C:Addr)(us:List Value)(a:List (Str×Value)):
  Env0 P w K mg base (A.under (.builtin "type.__call__" ⟨.ref C::us,a⟩)) outer s H:=⟨by first | exact e.frames | (simpa [MS,Code.envs,MU,pushEnvs] using e.frames),e.mod,e.bs,e.bsz,e.funs,e.frf,e.hok,e.bare⟩
section
variable {X:Cx}{pins:List (Addr×Obj)}{σ:St}{H:Hp}{s s':U2}
theorem Inv.env0 (a:Inv X pins σ H s):Env0 X.prog X.w X.K X.mg X.base X.A X.stack s H:=
 ⟨a.ok.frames,a.ok.mod,a.bs,ZE a.ok.bsz a.sz,a.stack,a.stkFree,a.hok,a.bare⟩
theorem Inv.after {Q:VK}{u:Value}(f:Inv X pins σ H s)(h:CE X.stack X.prog X.w H s Q u s'):EP X pins σ Q u s':=by
 obtain ⟨v,c,os,bare,un,hok,r,q⟩:=h;obtain ⟨e,g,d,t,a⟩:=s';obtain rfl:a=s.os:=os;exact ⟨v,c,f.call (h':=e) (g':=g) (d':=d) (t':=t) (ch:=[]) un hok bare (λ b z=>absurd z (by simp)),r,q⟩
end
def tCall (sp:Sp)(dvs:List V)(E:XK)(t:TA):TE:=λ a H Q=>t a H λ vs b=>sp (vs++dvs) b Q E
def tMake (C:Addr)(sp:Sp)(dvs:List V)(E:XK)(t:TA):TE:=λ c H Q=>t c H λ vs b=>∀x a,b x=none->b a=none->a≠x->
 sp (.ref x::(vs++dvs)) (upd (upd b a (.own x)) x (.ins C a [])) (λ v d=>v=.non/\Q (.ref x) d) E
def Binds (K:FrG)(fd:UH)(ps:List Str)(ds:List Value):Prop:=
 ∀(s:U2) (us:List Value),K.In s.heap->(us++ds).length=ps.length->Mn s fd ⟨us,[]⟩ (ps.zip (us++ds))
theorem Binds.all {K:FrG}{fd:UH}{ps:List Str}(h:∀us:List Value,us.length=ps.length->ut fd ⟨us,[]⟩=pure (ps.zip us)):Binds K fd ps []:=λ s us _ hl=>by
 rw [Xg] at hl ⊢;exact .of_eq (h us hl)
def Passes (CX:CXT)(X:Cx)(E:XK):Prop:=∀(a:List (Addr×Obj)) (b:St) (H:Hp) (s:U2) (e:Value) (s':U2),Inv X a b H s->CX X.stack H s E e s'->X.xe e s'
section
variable {X:Cx}{CX:CXT}{k:Nat}{f C:Addr}{fd:UH}{ps:List Str}{sp:Sp}{dvs:List V}{ds:List Value}{E:XK}{x m:Str}{p pos apos:Pos}{e o:Expr}{es:List Expr}{ta:TE}{t:TA}
theorem dW {a:List (Addr×Obj)}{c:St}{H:Hp}{s:U2}{Q:VK}{us:List Value}{vs:List V}(n:FnOk X.prog X.w X.K X.mg X.base CX k f fd ps sp)(i:Room k X.A)(hb:Binds X.K fd ps ds)(hd:Vals dvs ds)(j:Passes CX X E)
  (g:Inv X a c H s) (r:Vals vs us) (h:sp (vs++dvs) H Q E):wpAny (model X.prog X.w) X.A (call (.ref f) us) (EP X a c Q) X.xe s:=by
 have d:Vals (vs++dvs) (us++ds):=r.append hd;have hl:(us++ds).length=ps.length:=by rw [<- d.length];exact n.len _ _ _ _ h
 refine wpAny_call (jF (n.run X.A X.stack s H ⟨us,[]⟩ (us++ds) (vs++dvs) Q E i g.env0 (hb s us g.kIn hl) d h) λ r s' b=>?_)
 cases r with
 | error e=>exact j a c H s e s' g b
 | ok l=>
  cases l with
  | ret u=>exact g.after b
  | next=>exact UI b
  | brk=>exact UI b
  | cont=>exact UI b
structure Mk (K:FrG)(C f:Addr):Prop where
 makes:QP K C=true
 init:ZU K (.ref C) "__init__"=some (some (.ref f))
 fn:XT K (.ref f)=true
 kp:YE K (.ref C)=true
theorem du {b:List (Addr×Obj)}{g:St}{H:Hp}{s:U2}{Q:VK}{us:List Value}{vs:List V}(M:Mk X.K C f)(J:FnOk X.prog X.w X.K X.mg X.base CX k f fd ps sp)(n:Room (k+1) X.A)(hb:Binds X.K fd ps ds)(hd:Vals dvs ds)
  (q:Passes CX X E) (l:Inv X b g H s) (r:Vals vs us)
  (h:∀x c,H x=none->H c=none->c≠x->sp (.ref x::(vs++dvs)) (upd (upd H c (.own x)) x (.ins C c [])) (λ v y=>v=.non/\Q (.ref x) y) E):
  wpAny (model X.prog X.w) X.A (call (.ref C) us) (EP X b g Q) X.xe s:=by
 have i:=h (s.heap.objs.size+1) s.heap.objs.size (l.hok.fresh (NH _)) (l.hok.fresh (ZY _)) (XO (wx _));have d:=Inv.made (C:=C) l;have j:Vals (V.ref (s.heap.objs.size+1)::(vs++dvs)) (XP (s.heap.objs.size+1)::(us++ds)):=.cons rfl (r.append hd);have hl:(XP (s.heap.objs.size+1)::us++ds).length=ps.length:=by
  have e:=j.length;rw [J.len _ _ _ _ i] at e;exact e.symm
 refine wpAny_call (rG (f:=f) l.kIn M.makes M.init (beq_iff_eq.mp M.fn) (jF (J.run _ X.stack _ _ ⟨XP (s.heap.objs.size+1)::us,[]⟩ (XP (s.heap.objs.size+1)::(us++ds)) _ _ E (n.make C us [])
  (d.env0.make C us []) (hb _ (XP (s.heap.objs.size+1)::us) d.kIn hl) j i) λ r s' a=>?_))
 cases r with
 | error e=>exact q b g _ _ e s' d a
 | ok z=>
  cases z with
  | ret u=>
   obtain ⟨v,B,D,F,G,I⟩:=d.after a;subst G;exact ⟨F,⟨V.ref (s.heap.objs.size+1),B,D,rfl,I⟩⟩
  | next=>exact UI a
  | brk=>exact UI a
  | cont=>exact UI a
theorem xV (M:Mk X.K C f)(v:FnOk X.prog X.w X.K X.mg X.base CX k f fd ps sp)(g:Room (k+1) X.A)(i:Gl X x)(j:X.mg x=some (.ref C))(hb:Binds X.K fd ps ds)(hd:Vals dvs ds)(l:Passes CX X E)
  (ha:PA X (e::es) t) (b:(x == ("__debug__":Str))=false:=by decide) (he:XE (e::es) X.env=(false,eval e X.env)::XE es X.env:=by rfl) (c:(yT pos (XE es X.env)).any (·.1)=false:=by rfl):
  PE X (.Call (.Name x p) (e::es) [] pos) (tMake C sp dvs E t):=by
 intro a s n H Q u h;refine QI (Kc u i j ?_ b);refine ya (h₀:=X.base) u.ok.mod.kin M.kp (thn (ha pos a s n H _ u h) λ us y ⟨vs,z,d,r,q⟩=>⟨d.kIn,?_⟩) he c
 exact du M v g hb hd l d r q
theorem zW (M:Mk X.K C f)(l:FnOk X.prog X.w X.K X.mg X.base CX k f fd ps sp)(b:Room (k+1) X.A)(c:Gl X x)(d:X.mg x=some (.ref C))(hb:Binds X.K fd ps ds)(hd:Vals dvs ds)(g:Passes CX X E)
  (a:(x == ("__debug__":Str))=false:=by decide):PE X (.Call (.Name x p) [] [] pos) (tMake C sp dvs E tNil):=by
 intro i s n H Q j h;refine QI (Kc j c d ?_ a);exact Mv j.kIn M.kp (du (us:=[]) M l b hb hd g j .nil h)
end
structure FnScope (N P:List Str)(sc:Scope):Prop where
 kind:sc.kind=.function
 co:sc.isCoroutine=false
 gen:sc.isGenerator=false
 nd:N.Nodup
 pre:N.take P.length=P
 par:∀x∈P,sc.names.lookup x=some .local\/sc.names.lookup x=some .cell
 nofree:∀y∈sc.names,y.2≠.free
theorem cO {kindOf:Str->Option JJ}{x:Str}:∀{binds:List (Str×Value)} {m:Str->Option Value},(∀v,(x,v)∉binds)->bindL kindOf binds m x=m x
 | [],_,_=>rfl
 | (n,v)::r,m,h=>by
  unfold bindL;rw [cO λ w a=>h w (W1 _ a)]
  split
  ·have:x≠n:=by rintro rfl;exact h v ZA
   simp [this]
  ·rfl
theorem nM {kindOf:Str->Option JJ}{x:Str}:∀{binds:List (Str×Value)} {m:Str->Option Value},(∀v,(x,v)∉binds)->bindC kindOf binds m x=m x
 | [],_,_=>rfl
 | (n,v)::r,m,h=>by
  unfold bindC;rw [nM λ w a=>h w (W1 _ a)]
  split
  ·rfl
  ·have:x≠n:=by rintro rfl;exact h v ZA
   simp [this]
theorem j7 {kindOf:Str->Option JJ}{x:Str}{v:Value}:∀{P:List Str} {vs:List Value} {i:Nat} {m:Str->Option Value},P.Nodup->P[i]?=some x->vs[i]?=some v->kindOf x=some .local->
  bindL kindOf (P.zip vs) m x=some v
 | [],_,_,_,_,h,_,_=>by simp at h
 | _::_,[],_,_,_,_,h,_=>by simp at h
 | p::P,w::vs,0,m,nd,a,b,c=>by
  simp at a b;subst a;subst b
  show bindL kindOf ((p,w)::P.zip vs) m p=_;unfold bindL;rw [cO λ v hv=>(XJ.mp nd).1 (Nq hv).1,if_pos c]
  simp
 | p::P,w::vs,i+1,m,nd,a,b,c=>by
  show bindL kindOf ((p,w)::P.zip vs) m x=_;unfold bindL;exact j7 (i:=i) (XJ.mp nd).2 (by simpa using a) (by simpa using b) c
theorem fY {kindOf:Str->Option JJ}{x:Str}{v:Value}:∀{P:List Str} {vs:List Value} {i:Nat} {m:Str->Option Value},P.Nodup->P[i]?=some x->vs[i]?=some v->kindOf x≠some .local->
  bindC kindOf (P.zip vs) m x=some v
 | [],_,_,_,_,h,_,_=>by simp at h
 | _::_,[],_,_,_,_,h,_=>by simp at h
 | p::P,w::vs,0,m,nd,a,b,c=>by
  simp at a b;subst a;subst b
  show bindC kindOf ((p,w)::P.zip vs) m p=_;unfold bindC;rw [nM λ v hv=>(XJ.mp nd).1 (Nq hv).1,if_neg c]
  simp
 | p::P,w::vs,i+1,m,nd,a,b,c=>by
  show bindC kindOf ((p,w)::P.zip vs) m x=_;unfold bindC;exact fY (i:=i) (XJ.mp nd).2 (by simpa using a) (by simpa using b) c
def start (N:List Str)(vs:List V):St:=vs.map some++Xz (N.length - vs.length) none
def cxOf (CX:CXT)(P:YA)(w:World)(K:FrG)(mg:Str->Option Value)(base:Heap)(N:List Str)(b:Str)(a:Scope)(f:Addr)(cd:Value)(A:XW)(outer:List Env)(s:U2)(H:Hp)(E:XK):Cx where
 prog:=P
 w:=w
 K:=K
 mg:=mg
 base:=base
 A:=A.deeper (wq b a s.heap.objs.size f cd)
 N:=N
 s₀:=s
 H₀:=H
 env:=wq b a s.heap.objs.size f cd
 outer:=outer
 stack:=wq b a s.heap.objs.size f cd::outer
 ex:=[]
 calm:=true
 fn:=λ _=>true
 pn:=[]
 xe:=λ e s'=>wpAny (model P w) (A.deeper (wq b a s.heap.objs.size f cd)) (leaving (wq b a s.heap.objs.size f cd) e) (λ _ c=>CX outer H s E e c) (λ d c=>CX outer H s E d c) s'
theorem aM {a:Scope}{n:Nat}{x:Str}(h:a.names.lookup x=some .cell):∃c,(cellsFrom n a.names []).lookup x=some c:=by
 have q:=FK a.names n [] (.inl h);exact GU.mp q
section
variable {X:Cx}{x:Str}{p pos:Pos}{e:Expr}{es:List Expr}{t:TA}{id T:String}{r:List V->Hp->VK->Prop}
def tCB (r:List V->Hp->VK->Prop)(t:TA):TE:=λ a H Q=>t a H λ vs b=>r vs b Q
theorem Br (hc:CallR X (.builtin id) r)(f:Gl X x)(g:X.mg x=none)(hv:Uf x=some (.builtin id))(ha:PA X (e::es) t)(i:x≠"__name__":=by decide)(b:(x == ("__debug__":Str))=false:=by decide)
  (he:XE (e::es) X.env=(false,eval e X.env)::XE es X.env:=by rfl) (c:(yT pos (XE es X.env)).any (·.1)=false:=by rfl):PE X (.Call (.Name x p) (e::es) [] pos) (tCB r t):=by
 intro a s d H Q o h;refine QI (Il o f g hv ?_ i b);exact PyProof.Rows.callWith_builtin1 (thn (ha pos a s d H _ o h) λ us j ⟨vs,k,l,m,n⟩=>hc a j d k vs us Q l m n) he c
theorem Ga (hc:CallR X (.type T) r)(f:Gl X x)(g:X.mg x=none)(hv:Uf x=some (.type T))(ha:PA X (e::es) t)(i:x≠"__name__":=by decide)(b:(x == ("__debug__":Str))=false:=by decide)
  (he:XE (e::es) X.env=(false,eval e X.env)::XE es X.env:=by rfl) (c:(yT pos (XE es X.env)).any (·.1)=false:=by rfl):PE X (.Call (.Name x p) (e::es) [] pos) (tCB r t):=by
 intro a s d H Q o h;refine QI (Il o f g hv ?_ i b);exact UP (thn (ha pos a s d H _ o h) λ us j ⟨vs,k,l,m,n⟩=>hc a j d k vs us Q l m n) he c
end
end L2
namespace HT
open PySem PyProof.Rows
section
variable {prog:YA}{w:World}{A:XW}{E:Value->U2->Prop}{s:U2}
def sIx (n d:Nat):Option Int->Nat
 | none=>d
 | some v=>if v < 0 then (v+(n:Int)).toNat else min v.toNat n
theorem M3 (n d:Nat):sIx n d none=d:=rfl
theorem Gx (n d k:Nat):sIx n d (some (k:Int))=min k n:=by
 show (if (k:Int) < 0 then ((k:Int)+(n:Int)).toNat else min (k:Int).toNat n)=min k n
 rw [if_neg ∅,Qb]
theorem AM9 (n d:Nat)(hd:d<=n)(o:Option Int):sIx n d o<=n:=by
 cases o with
 | none=>exact hd
 | some v=>
  show (if v < 0 then (v+(n:Int)).toNat else min v.toNat n)<=n
  by_cases hv:v < 0
  ·rw [if_pos hv];omega
  ·rw [if_neg hv];exact Nat.min_le_right _ _
theorem jn (v:Int)(n d:Nat):(if v < 0 then max (v+(n:Int)) 0 else min v (n:Int))=((sIx n d (some v):Nat):Int):=by
 show (if v < 0 then max (v+(n:Int)) 0 else min v (n:Int))=(((if v < 0 then (v+(n:Int)).toNat else min v.toNat n):Nat):Int)
 by_cases hv:v < 0
 ·simp only [if_pos hv];omega
 ·simp only [if_neg hv];omega
theorem xK (lo hi:Option Int)(n:Nat):xk lo hi 1 (n:Int)=(((sIx n 0 lo:Nat):Int),((sIx n n hi:Nat):Int)):=by
 have a:¬ ((1:Int) < 0):=by omega
 unfold xk;simp only [a,if_false];refine WT ?_ ?_
 ·cases lo with
  | none=>rfl
  | some v=>exact jn v n 0
 ·cases hi with
  | none=>rfl
  | some v=>exact jn v n n
theorem qx (i j:Nat):QN (i:Int) (j:Int) 1=j - i:=by
 unfold QN;have a:(1:Int) > 0:=by omega
 simp only [a,if_true,Int.ediv_one]
 split<;>omega
theorem jR {v:Value}{o:Option Int}{Q:Option Int->U2->Prop}(p:Nd v o)(h:Q o s):wpAny (model prog w) A (WA.Slice.slicePartIndex v) Q E s:=by
 cases p with
 | none=>exact slicePart_none h
 | int i t=>exact slicePart_int h
theorem pR {e:Addr}{c d:Value}{lo hi:Option Int}{n:Nat}{Q:Int×Int×Nat->U2->Prop}(f:s.heap.IsSliceOf e c d .none)(pl:Nd c lo)(g:Nd d hi)
  (h:Q (((sIx n 0 lo:Nat):Int),1,sIx n n hi - sIx n 0 lo) s):wpAny (model prog w) A (qc (.ref e) (pure (n:Int))) Q E s:=by
 obtain ⟨os,a,i,b⟩:=id f;unfold qc WA.Slice.sliceFields;refine U1 (U1 (uu a b (x:=c) rfl (U1 (uu a b (x:=d) rfl (U1 (uu a b (x:=.none) rfl (Ya ?_)))))));refine U1 (slicePart_none ?_);show wpAny _ _ (if ((1:Int) == 0)=true then _ else _) _ _ s
 rw [if_neg ⋯]
 refine U1 (jR pl (U1 (jR g (U1 (Ya ?_)))));show wpAny _ _ (match xk lo hi 1 (n:Int) with | (lo,hi)=>pure (lo,(1:Int),QN lo hi 1)) _ _ s
 rw [xK lo hi n];show wpAny _ _ (pure (((sIx n 0 lo:Nat):Int),(1:Int),QN ((sIx n 0 lo:Nat):Int) ((sIx n n hi:Nat):Int) 1)) _ _ s;rw [qx];exact Ya h
theorem rD (xs:Array Value)(i k:Nat):((WC k).filterMap λ (m:Nat)=>xs[((i:Int)+(m:Int) * 1).toNat]?).toArray=((xs.toList.drop i).take k).toArray:=by
 have e:(λ (m:Nat)=>xs[((i:Int)+(m:Int) * 1).toNat]?)=λ m=>xs[i+m]?:=by
  funext m
  have:((i:Int)+(m:Int) * 1).toNat=i+m:=by omega
  rw [this]
 rw [e];have:=pick_run xs i k;rw [qf] at this;have e2:((λ x=>xs[x]?) ∘ λ x=>i+x)=λ m=>xs[i+m]?:=rfl
 rw [e2] at this;rw [this]
theorem AT8 {t c:Addr}{items:Array Value}{d e:Value}{lo hi:Option Int}{Q:Value->U2->Prop}(b:IsTup s.heap t items)(f:s.heap.IsSliceOf c d e .none)(pl:Nd d lo)(l:Nd e hi)
  (n:¬ (sIx items.size 0 lo=0/\sIx items.size items.size hi=items.size))
  (h:Q (.ref s.heap.objs.size) { s with heap:=s.heap.push { cls:=.type "tuple",data:=.seq ((items.toList.drop (sIx items.size 0 lo)).take (sIx items.size items.size hi - sIx items.size 0 lo)).toArray } })
  (hsz:items.size<=Y3):wpAny (model prog w) A (GP (.ref t) (.ref c)) Q E s:=by
 have a:sizeOk (.seq ((items.toList.drop (sIx items.size 0 lo)).take (sIx items.size items.size hi - sIx items.size 0 lo)).toArray):=by
  show ((items.toList.drop (sIx items.size 0 lo)).take (sIx items.size items.size hi - sIx items.size 0 lo)).toArray.size<=Y3;rw [Yg,YG,JO,UF];omega
 have p:sIx items.size items.size hi<=items.size:=AM9 _ _ (ZY _) hi;obtain ⟨os,g,i,o⟩:=id f;have j:s.TypeIs (.ref c) "slice":=⟨os,g,i⟩;unfold GP
 try with_reducible refine UA ?_
 first | refine U1 (Ya ?_) | skip
 refine U1 (wpAny_sequenceKey b.typeIs ⋯ ?_)
 refine U1 (wpAny_callSpecial?_slot (name:=Z7 "__getitem__") b.typeIs zn
  (wpAny_call_entry zn b.typeIs entry_tuple_getitem ?_ (args_tuple_getitem _ _)))
 show wpAny _ _ (WA.Tuple.tupleItemsOf (.ref t) >>= _) _ _ s;refine U1 (tupleItemsOf_ b ?_);refine U1 (wpAny_typeOf j ?_);rw [if_pos ⋯]
 refine U1 (pR f pl l ?_);have k:¬ ((((sIx items.size 0 lo:Nat):Int) == 0 && (1:Int) == 1 && (sIx items.size items.size hi - sIx items.size 0 lo) == items.size)=true):=by
  intro q;rw [zC,zC] at q;have r:((sIx items.size 0 lo:Nat):Int)=0:=eq_of_beq q.1.1;have u:sIx items.size items.size hi - sIx items.size 0 lo=items.size:=eq_of_beq q.2;exact n ⟨by omega,by omega⟩
 show wpAny _ _ (if (((sIx items.size 0 lo:Nat):Int) == 0 && (1:Int) == 1 && (sIx items.size items.size hi - sIx items.size 0 lo) == items.size)=true then _ else _) _ _ s
 rw [if_neg k,rD]
 first
  | exact U1 (m:=zi _) (zd (Ya ⟨_,rfl,Ya h⟩) a)
  | exact U1 (m:=zi _) (zd (U1 (Ya (Ya ⟨_,rfl,Ya h⟩))) a)
  | exact U1 (U1 (m:=zi _) (zd (Ya (Ya ⟨_,rfl,Ya h⟩)) a))
  | exact U1 (U1 (m:=zi _) (zd (Ya ⟨_,rfl,Ya h⟩) a))
end
end HT
namespace L2
open PySem PySem.Spec PyProof.Rows
abbrev TO:=St->Hp->(Option Int->Hp->Prop)->Prop
def PO (X:Cx)(e:Option Expr)(t:TO):Prop:=
 ∀(a:List (Addr×Obj)) (s:U2) (b:St) (H:Hp) (Q:Option Int->Hp->Prop),Inv X a b H s->t b H Q->
  wpAny (model X.prog X.w) X.A (evalPart e X.env) (λ u s'=>∃o c,Inv X a b c s'/\Nd u o/\Q o c) X.xe s
def tNoPart:TO:=λ _ H Q=>Q none H
def tPart (t:TE):TO:=λ a H Q=>t a H λ x b=>∃i,x=.int i/\Q (some i) b
section
variable {X:Cx}{e:Expr}{te:TE}{lo hi:Option Expr}{tl th:TO}{pos p2:Pos}
theorem FJ:PO X none tNoPart:=by
 intro a s b H Q c h;rw [evalPart_none];exact Ya ⟨none,H,c,.none,h⟩
theorem Cu (h:PE X e te):PO X (some e) (tPart te):=by
 intro a s b H Q k c;rw [evalPart_some];refine thn (h a s b H _ k c) λ u l ⟨x,d,f,g,j⟩=>?_
 obtain ⟨i,rfl,q⟩:=j;obtain ⟨t,rfl⟩:=g;exact ⟨some i,d,f,.int i t,q⟩
def SlR (X:Cx)(r:V->Option Int->Option Int->Hp->VK->Prop):Prop:=
 ∀(a:List (Addr×Obj)) (s:U2) (b:St) (H:Hp) (x:V) (v c d:Value) (lo hi:Option Int) (f:Addr) (Q:VK),Inv X a b H s->RelV x v->s.heap.IsSliceOf f c d .none->Nd c lo->Nd d hi->r x lo hi H Q->
  ∃T id,typeLookup (.type T) "__getitem__"=pure (some (.builtin id))/\s.TypeIs v T/\wpAny (model X.prog X.w) X.A (GP v (.ref f)) (EP X a b Q) X.xe s
def tSl (r:V->Option Int->Option Int->Hp->VK->Prop)(te:TE)(tl th:TO):TE:=λ a H Q=>te a H λ x b=>tl a b λ l c=>th a c λ u d=>r x l u d Q
theorem Ea {r:V->Option Int->Option Int->Hp->VK->Prop}(j:SlR X r)(he:PE X e te)(hl:PO X lo tl)(k:PO X hi th):PE X (.Subscript e (.Slice lo hi none p2) pos) (tSl r te tl th):=by
 intro a s d H Q L h;refine Subscript_ (thn (he a s d H _ L h) λ v m ⟨x,n,o,p,t⟩=>?_)
 refine wpAny_Slice (thn (hl a m d n _ o t) λ f y ⟨l,z,B,pl,C⟩=>thn (k a y d z _ B C) λ g c ⟨u,i,D,E,F⟩=>?_)
 rw [evalPart_none];refine Ya ?_;have G:Inv X a d i { c with heap:=c.heap.push { cls:=.type "slice",data:=.fields #[f,g,.none] } }:=D.kept (t':=c.toks) λ b M q=>ZO _ q
 obtain ⟨T,id,I,J,K⟩:=j a { c with heap:=c.heap.push { cls:=.type "slice",data:=.fields #[f,g,.none] } } d i x v f g l u c.heap.objs.size Q G p (MI ..) pl E F
 show wpAny (model X.prog X.w) X.A (subscriptTail e (.Slice lo hi none p2) v (.ref c.heap.objs.size)) (EP X a d Q) X.xe { c with heap:=c.heap.push { cls:=.type "slice",data:=.fields #[f,g,.none] } }
 exact tail_any (ops:=[.ref c.heap.objs.size,v]) J I K (by with_unfolding_all rfl)
def cutV (xs:List V)(lo hi:Option Int):List V:=(xs.drop (HT.sIx xs.length 0 lo)).take (HT.sIx xs.length xs.length hi - HT.sIx xs.length 0 lo)
theorem pI (xs:List V)(lo hi:Option Int):(cutV xs lo hi).length<=xs.length:=by
 unfold cutV;rw [YG,JO];omega
inductive rSlT (K:FrG)(x:V)(lo:Option Int)(hi:Option Int)(H:Hp)(Q:VK):Prop | mk (a xs:_) (_:x=.ref a) (_:SqT K H a xs) (_:¬ (HT.sIx xs.length 0 lo=0/\HT.sIx xs.length xs.length hi=xs.length)) (_:∀p,H p=none->Q (.ref p) (upd H p (.tup (cutV xs lo hi))))
theorem LR:SlR X (rSlT X.K):=by
 intro f s n H x v p t lo hi u Q g i j pl k h;obtain ⟨a,xs,rfl,l,m,q⟩:=h;cases i
 obtain ⟨its,r,d,hz⟩:=g.tuple l;have c:its.toArray.size=xs.length:=by rw [Yg];exact r.length.symm
 refine ⟨"tuple",_,zn.lookup,d.typeIs,?_⟩;refine HT.AT8 d j pl k (by rw [c];exact m) ?_ (by rw [c];exact hz)
 rw [c];refine ⟨.ref s.heap.objs.size,_,g.laid (t':=s.toks) (o:=.tup (cutV xs lo hi)) (λ b w q=>ZO _ q) (ZY _) ?_,rfl,q _ (g.hok.fresh (ZY _))⟩
 exact ⟨ZE (pI xs lo hi) hz,_,(r.drop (HT.sIx xs.length 0 lo)).take (HT.sIx xs.length xs.length hi - HT.sIx xs.length 0 lo),IsTup.new _ _⟩
end
def ixN (n:Nat)(i:Int):Option Nat:=if 0<=i then (if i < n then some i.toNat else none) else if -(n:Int)<=i then some (i+n).toNat else none
def atI {a:Type}(xs:List a)(i:Int):Option a:=(ixN xs.length i).bind λ j=>xs[j]?
theorem iG {n:Nat}{i:Int}{j:Nat}(h:ixN n i=some j):seqIndex? i n=some j/\j < n/\-(n:Int)<=i/\i < n:=by
 unfold ixN at h;by_cases b:0<=i
 ·rw [if_pos b] at h;by_cases a:i < n
  ·rw [if_pos a] at h;have e:i.toNat=j:=XU h;exact ⟨by rw [seqIndex_of b a,e],by omega,by omega,a⟩
  ·rw [if_neg a] at h;cases h
 ·rw [if_neg b] at h;by_cases a:-(n:Int)<=i
  ·rw [if_pos a] at h;have e:(i+n).toNat=j:=XU h;exact ⟨by rw [seqIndex_neg ∅ a,e],by omega,a,by omega⟩
  ·rw [if_neg a] at h;cases h
theorem gA {a:Type}{xs:List a}{i:Int}{v:a}(h:atI xs i=some v):∃j,seqIndex? i xs.length=some j/\xs[j]?=some v/\j < xs.length/\-(xs.length:Int)<=i/\i < xs.length:=by
 unfold atI at h;cases e:ixN xs.length i with
 | none=>rw [e] at h;cases h
 | some j=>
  rw [e] at h;obtain ⟨b,c,d,f⟩:=iG e;exact ⟨j,b,h,c,d,f⟩
theorem Bu {a:Type}{xs:List a}{j:Nat}{v:a}(h:xs[j]?=some v):atI xs (j:Int)=some v:=by
 have b:j < xs.length:=(YL.mp h).1;have e:ixN xs.length (j:Int)=some j:=by
  unfold ixN;rw [if_pos ∅,if_pos ∅];simp
 unfold atI;rw [e];exact h
theorem ph {a:Type}(xs:List a)(v:a):atI (xs++[v]) (-1)=some v:=by
 have hl:(xs++[v]).length=xs.length+1:=by simp
 have e:ixN (xs++[v]).length (-1)=some xs.length:=by
  unfold ixN;rw [hl,if_neg ⋯,if_pos ∅]
  congr 1
  omega
 unfold atI;rw [e];show (xs++[v])[xs.length]?=some v;simp
def PlainIx (b:Expr):Prop:=∀o i,GO b false o i=operate [o,i] (GP o i)
def IxR (X:Cx)(r:R2):Prop:=
 ∀(c a:Expr) (b:List (Addr×Obj)) (s:U2) (d:St) (H:Hp) (x y:V) (v u:Value) (Q:VK),Inv X b d H s->RelV x v->RelV y u->r x y H Q->
  GO a false v u=operate [v,u] (GP v u)->wpAny (model X.prog X.w) X.A (subscriptTail c a v u) (EP X b d Q) X.xe s
def MtR (X:Cx)(id:String)(r:V->List V->Hp->VK->Prop):Prop:=
 ∀(a:List (Addr×Obj)) (s:U2) (b:St) (H:Hp) (x:V) (xs:List V) (v:Value) (us:List Value) (Q:VK),Inv X a b H s->RelV x v->Vals xs us->r x xs H Q->
  wpAny (model X.prog X.w) X.A (call (.builtin id) (v::us)) (EP X a b Q) X.xe s
section
variable {X:Cx}{a b:Expr}{ta tb:TE}{pos:Pos}
theorem Ae {r:R2}(d:IxR X r)(ha:PE X a ta)(hb:PE X b tb)(e:PlainIx b:=by exact λ _ _=>rfl):PE X (.Subscript a b pos) (tOp r ta tb):=by
 intro c s f H Q l h;exact Subscript_ (binT ha hb l h λ v u g x y i j k ry q=>d a b c g f i x y v u Q j k ry q (e _ _))
inductive rIxL (K:FrG)(x:V)(y:V)(H:Hp)(Q:VK):Prop | mk (p xs i v:_) (_:x=.ref p) (_:y=.int i) (_:SqL K H p xs) (_:atI xs i=some v) (_:Q v H)
inductive rIxT (K:FrG)(x:V)(y:V)(H:Hp)(Q:VK):Prop | mk (p xs i v:_) (_:x=.ref p) (_:y=.int i) (_:SqT K H p xs) (_:atI xs i=some v) (_:Q v H)
theorem BK:IxR X (rIxL X.K):=by
 intro o A c s g H x y v u Q G B ry h k;obtain ⟨p,xs,i,z,rfl,rfl,C,he,q⟩:=h;cases B
 obtain ⟨t,rfl⟩:=ry;obtain ⟨its,r,pl,hz⟩:=G.list C;obtain ⟨j,d,D,I,E,F⟩:=gA he;obtain ⟨w,l,m⟩:=r.get D;have hl:=r.length;have J:=line63;have e:EP X c g Q w s:=⟨z,H,G,m,q⟩;by_cases n:0<=i
 ·have f:i.toNat=j:=by
   rw [seqIndex_of n F] at d;exact XU d
  exact item_listR pl.isList n ∅ (by rw [f];simpa using l) e k
 ·have f:(i+(its.toArray.size:Int)).toNat=j:=by
   rw [seqIndex_neg ∅ E] at d
   rw [Yg,<- hl];exact XU d
  exact subscriptTail_builtinR (x:=w) pl.isList.typeIs slot_list_getitem.lookup
   (wpAny_getItem_list_neg (Q:=λ r s'=>r=w/\EP X c g Q r s') pl.isList ∅ (by rw [Yg]<;>omega) ∅ (by rw [f];simpa using l) ⟨rfl,e⟩) k
theorem Al:IxR X (rIxT X.K):=by
 intro g k c s d H x y v u Q C l ry h m;obtain ⟨p,xs,i,z,rfl,rfl,n,he,q⟩:=h;cases l
 obtain ⟨t,rfl⟩:=ry;obtain ⟨its,r,pl,hz⟩:=C.tuple n;obtain ⟨j,o,A,D,E,F⟩:=gA he;obtain ⟨w,B,e⟩:=r.get A;have hl:=r.length;have G:=line63;have f:EP X c d Q w s:=⟨z,H,C,e,q⟩;exact subscriptTail_builtinR (x:=w) pl.typeIs slot_tuple_getitem.lookup
  (getItem_tuple (j:=j) (Q:=λ r s'=>r=w/\EP X c d Q r s') pl ∅ ∅ (by rw [Yg,<- hl];exact o) (by simpa using B) ⟨rfl,f⟩) m
theorem Af0 (its:List Value)(n j:Nat)(u:Value):qh (·.setIfInBounds j u) { cls:=.type "list",data:=.seq its.toArray n }={ cls:=.type "list",data:=.seq (its.set j u).toArray n }:=by
 simp [qh]
theorem Inv.lst {c:List (Addr×Obj)}{d:St}{H:Hp}{s:U2}{p:Addr}{xs:List V}(f:Inv X c d H s)(h:H p=some (.lst xs)):
  ∃(its:List Value) (n:Nat),Vals xs its/\s.heap.get? p=some { cls:=.type "list",data:=.seq its.toArray n }/\xs.length<=Y3:=by
 obtain ⟨z,its,n,r,e⟩:=f.hok p _ h;exact ⟨its,n,r,e,z⟩
theorem Inv.lstUpd {c:List (Addr×Obj)}{i:St}{H:Hp}{s:U2}{p:Addr}{xs d:List V}{its its':List Value}{n g:Nat}{f:Obj->Obj}(k:Inv X c i H s)(h:H p=some (.lst xs))
  (j:s.heap.get? p=some { cls:=.type "list",data:=.seq its.toArray n }) (hf:f { cls:=.type "list",data:=.seq its.toArray n }={ cls:=.type "list",data:=.seq its'.toArray g }) (r:Vals d its') (hz:d.length<=Y3) (t:Nat):
  Inv X c i (upd H p (.lst d)) { s with heap:=s.heap.update p f,toks:=t }:=by
 have e:(s.heap.update p f).get? p=some { cls:=.type "list",data:=.seq its'.toArray g }:=by
  rw [Heap.get?_update_self f j (by rw [hf]<;>rfl),hf]
 refine k.write (x:=p) (e:=p) (by rw [h];trivial) (.inl rfl) (λ b u hb q=>(FM _ _ (JE hb)).trans q) ⟨_,e⟩ ?_
 exact ⟨hz,its',g,r,e⟩
inductive rSetL (o:V)(i:V)(v:V)(H:Hp)(Q:(Hp->Prop)):Prop | mk (p xs k j:_) (_:o=.ref p) (_:i=.int k) (_:H p=some (.lst xs)) (_:ixN xs.length k=some j) (_:Q (upd H p (.lst (xs.set j v))))
theorem Li:PSet X rSetL:=by
 intro d s y H o i v E F u Q D z A B h;obtain ⟨p,xs,k,j,rfl,rfl,g,C,q⟩:=h;cases z
 obtain ⟨t,rfl⟩:=A;obtain ⟨its,n,r,e,hz⟩:=D.lst g;obtain ⟨c,G,l,m⟩:=iG C;have hl:=r.length;have I:=line63;have w:Inv X d y (upd H p (.lst (xs.set j v))) { s with heap:=s.heap.update p (qh (·.setIfInBounds j u)) }:=
  D.lstUpd g e (Af0 its n j u) (r.set B j) (by rw [QU];exact hz) s.toks
 by_cases x:0<=k
 ·have f:k.toNat=j:=by
   rw [seqIndex_of x m] at c;exact XU c
  exact PySem.W.ki_setAt e x ∅ (by rw [Yg,<- hl];exact m) (by rw [f];exact ⟨_,w,q⟩)
 ·have f:(k+(its.toArray.size:Int)).toNat=j:=by
   rw [seqIndex_neg ∅ l] at c
   rw [Yg,<- hl];exact XU c
  exact PySem.W.ki_setBack e ∅ (by rw [Yg,<- hl];exact l) ∅ (by rw [f];exact ⟨_,w,q⟩)
theorem wQ (lo hi:Option Int)(n:Nat):(zI lo hi none n).1=((HT.sIx n 0 lo:Nat):Int)/\(zI lo hi none n).2.1=((HT.sIx n n hi:Nat):Int)/\(zI lo hi none n).2.2=1:=by
 refine ⟨?_,?_,rfl⟩
 ·cases lo with
  | none=>simp [zI,HT.sIx]
  | some i=>
   simp only [zI,HT.sIx,Fn,show (1:Int) > 0 by decide,if_true]
   by_cases h:i < 0
   ·simp only [h,if_true]<;>omega
   ·simp only [h,if_false]<;>omega
 ·cases hi with
  | none=>simp [zI,HT.sIx]
  | some i=>
   simp only [zI,HT.sIx,Fn,show (1:Int) > 0 by decide,if_true]
   by_cases h:i < 0
   ·simp only [h,if_true]<;>omega
   ·simp only [h,if_false]<;>omega
theorem zy (its:List Value)(lo hi:Option Int):slicePick its.toArray lo hi none=((its.drop (HT.sIx its.length 0 lo)).take (HT.sIx its.length its.length hi - HT.sIx its.length 0 lo)).toArray:=by
 obtain ⟨c,d,e⟩:=wQ lo hi its.toArray.size;unfold slicePick;rw [c,d,e];simp only [sliceRange_one,pick_run,Yg]<;>rfl
inductive rSlL (K:FrG)(x:V)(lo:Option Int)(hi:Option Int)(H:Hp)(Q:VK):Prop | mk (a xs:_) (_:x=.ref a) (_:SqL K H a xs) (_:∀p,H p=none->Q (.ref p) (upd H p (.lst (cutV xs lo hi))))
theorem Gg:SlR X (rSlL X.K):=by
 intro e s l H x v m n lo hi p Q f g i pl j h;obtain ⟨a,xs,rfl,k,q⟩:=h;cases g
 obtain ⟨its,r,d,hz⟩:=f.list k;have c:=r.length;refine ⟨"list",_,slot_list_getitem.lookup,d.isList.typeIs,?_⟩;refine wpAny_getItem_list_slice d.isList i pl j .none (by simp) ?_ (by rw [Yg]<;>omega)
 rw [zy,<- c];refine ⟨.ref s.heap.objs.size,_,f.laid (t':=s.toks) (o:=.lst (cutV xs lo hi)) (λ b t q=>ZO _ q) (ZY _) ?_,rfl,q _ (f.hok.fresh (ZY _))⟩
 exact ⟨ZE (pI xs lo hi) hz,_,0,(r.drop (HT.sIx xs.length 0 lo)).take (HT.sIx xs.length xs.length hi - HT.sIx xs.length 0 lo),XM _ rfl⟩
def flatV:V->Bool
 | .non=>true
 | .bl _=>true
 | .int _=>true
 | .str _=>true
 | _=>false
def eqV:V->V->Bool
 | .non,.non=>true
 | .bl a,.bl b=>a == b
 | .bl a,.int b=>(if a then 1 else 0) == b
 | .int a,.bl b=>a == (if b then 1 else 0)
 | .int a,.int b=>a == b
 | .str a,.str b=>a == b
 | _,_=>false
theorem AQ7 {A:XW}{s:U2}{y x:V}{u v:Value}(ry:RelV y u)(c:RelV x v)(e:flatV y=true)(d:flatV x=true):WS A s u v (eqV y x):=by
 cases y with
 | non=>
  cases ry
  cases x with
  | non=>cases c;exact WS.same _
  | bl b=>cases c;exact WS.none_bool b
  | int b=>obtain ⟨t,rfl⟩:=c;exact WS.none_int b t
  | str b=>obtain ⟨t,rfl⟩:=c;exact WS.none_str b t
  | _=>exact absurd (show false=true from d) ZM
 | bl a=>
  cases ry
  cases x with
  | non=>cases c;exact WS.bool_none a
  | bl b=>cases c;exact WS.bool_bool a b
  | int b=>obtain ⟨t,rfl⟩:=c;exact WS.bool_int a b t
  | str b=>obtain ⟨t,rfl⟩:=c;exact WS.bool_str a b t
  | _=>exact absurd (show false=true from d) ZM
 | int a=>
  obtain ⟨t',rfl⟩:=ry;cases x with
  | non=>cases c;exact WS.int_none a t'
  | bl b=>cases c;exact WS.int_bool a t' b
  | int b=>obtain ⟨t,rfl⟩:=c;exact WS.int_int a t' b t
  | str b=>obtain ⟨t,rfl⟩:=c;exact MD a t' b t
  | _=>exact absurd (show false=true from d) ZM
 | str a=>
  obtain ⟨t',rfl⟩:=ry;cases x with
  | non=>cases c;exact WS.str_none a t'
  | bl b=>cases c;exact WS.str_bool a t' b
  | int b=>obtain ⟨t,rfl⟩:=c;exact ME a t' b t
  | str b=>obtain ⟨t,rfl⟩:=c;exact WS.str_str a t' b t
  | _=>exact absurd (show false=true from d) ZM
 | _=>exact absurd (show false=true from e) ZM
def eqU (x:V)(u:Value):Bool:=match u with
 | .none=>eqV .non x
 | .bool b=>eqV (.bl b) x
 | .int i _=>eqV (.int i) x
 | .str z _=>eqV (.str z) x
 | _=>false
theorem bM {x y:V}{u:Value}(r:RelV y u)(f:flatV y=true):eqU x u=eqV y x:=by
 cases y with
 | non=>cases r;rfl
 | bl b=>cases r;rfl
 | int i=>obtain ⟨t,rfl⟩:=r;rfl
 | str z=>obtain ⟨t,rfl⟩:=r;rfl
 | _=>exact absurd (show false=true from f) ZM
theorem Lq {x:V}:∀{xs:List V} {us:List Value},Vals xs us->xs.all flatV=true->us.any (eqU x)=xs.any λ y=>eqV y x
 | _,_,.nil,_=>rfl
 | y::xs,u::us,.cons r t,f=>by
  rw [GV,zC] at f;rw [JR,JR,bM r f.1,Lq t f.2]
theorem Ko {A:XW}{s:U2}{x:V}{v:Value}(d:RelV x v)(e:flatV x=true):∀{xs:List V} {us:List Value},Vals xs us->xs.all flatV=true->∀u∈us,WS A s u v (eqU x u)
 | _,_,.nil,_=>λ u c=>by cases c
 | y::xs,u::us,.cons r t,f=>λ g c=>by
  rw [GV,zC] at f;rcases X1.mp c with rfl | c
  ·rw [bM r f.1];exact AQ7 r d f.1 e
  ·exact Ko d e t f.2 g c
def inV (x:V)(xs:List V):Bool:=xs.any λ y=>eqV y x
inductive rIn (K:FrG)(neg:Bool)(x:V)(y:V)(H:Hp)(Q:VK):Prop | mk (p xs:_) (_:y=.ref p) (_:(SqL K H p xs\/SqT K H p xs)) (_:flatV x=true) (_:xs.all flatV=true) (_:Q (.bl (if neg then !inV x xs else inV x xs)) H)
theorem AT2:OpR X (Uh .In) (rIn X.K false):=by
 intro i s j H x y v u Q g e ry h;obtain ⟨p,xs,rfl,c,f,fs,q⟩:=h;cases ry
 rcases c with c | c
 ·obtain ⟨its,r,pl,hz⟩:=g.list c;refine SeqAt.in_listAt (eqU x) pl.isList (λ w d=>Ko e f r fs w (by simpa using d)) ⟨.bl _,H,g,rfl,?_⟩
  rw [show its.toArray.any (eqU x)=its.any (eqU x) by simp,Lq r fs]
  exact q
 ·obtain ⟨its,r,pl,hz⟩:=g.tuple c;refine SeqAt.in_tupleAt (eqU x) pl (λ w d=>Ko e f r fs w (by simpa using d)) ⟨.bl _,H,g,rfl,?_⟩
  rw [show its.toArray.any (eqU x)=its.any (eqU x) by simp,Lq r fs]
  exact q
theorem AU1:OpR X (Uh .NotIn) (rIn X.K true):=by
 intro i s j H x y v u Q g e ry h;obtain ⟨p,xs,rfl,c,f,fs,q⟩:=h;cases ry
 rcases c with c | c
 ·obtain ⟨its,r,pl,hz⟩:=g.list c;refine SeqAt.notIn_listAt (eqU x) pl.isList (λ w d=>Ko e f r fs w (by simpa using d)) ⟨.bl _,H,g,rfl,?_⟩
  rw [show its.toArray.any (eqU x)=its.any (eqU x) by simp,Lq r fs]
  exact q
 ·obtain ⟨its,r,pl,hz⟩:=g.tuple c;refine SeqAt.notIn_tupleAt (eqU x) pl (λ w d=>Ko e f r fs w (by simpa using d)) ⟨.bl _,H,g,rfl,?_⟩
  rw [show its.toArray.any (eqU x)=its.any (eqU x) by simp,Lq r fs]
  exact q
inductive uP (K:FrG)(xs:List V)(H:Hp)(Q:VK):Prop | mk (p ys:_) (_:xs=[.ref p]) (_:(SqL K H p ys\/SqT K H p ys)) (_:Q (.int ys.length) H)
theorem Do:CallR X (.builtin "len") (uP X.K):=by
 intro i s k H xs us Q g r h;obtain ⟨p,f,rfl,d,q⟩:=h;obtain ⟨u,rfl,j⟩:=vals1 r;cases j
 have l:=line63;rcases d with d | d
 ·obtain ⟨its,e,pl,hz⟩:=g.list d;have c:=e.length;exact Calls.call_len_list pl.isList (by simp only [Yg]<;>omega) ⟨.int f.length,H,g.tok _,⟨s.toks+1,by rw [Yg,c]⟩,q⟩
 ·obtain ⟨its,e,pl,hz⟩:=g.tuple d;have c:=e.length;exact len_tuple pl (by simp only [Yg]<;>omega) ⟨.int f.length,H,g.tok _,⟨s.toks+1,by rw [Yg,c]⟩,q⟩
inductive Ac5 (xs:List V)(H:Hp)(Q:VK):Prop | mk (z:_) (_:xs=[.str z]) (_:z.length<=Y3) (_:Q (.int z.length) H)
theorem lN:CallR X (.builtin "len") Ac5:=by
 intro c s d H xs us Q e r h;obtain ⟨z,rfl,hz,q⟩:=h;obtain ⟨u,rfl,t,rfl⟩:=vals1 r;have f:=line63;exact len_str ∅ ⟨.int z.length,H,e.tok _,⟨_,rfl⟩,q⟩
theorem xZ:CallR X (.type "tuple") (λ xs H Q=>∃p c,xs=[.ref p]/\((SqL X.K H p c/\∀l,H l=none->Q (.ref l) (upd H l (.tup c)))\/(SqT X.K H p c/\Q (.ref p) H))):=by
 intro d s i H xs us Q k r h;obtain ⟨p,c,rfl,h⟩:=h;obtain ⟨u,rfl,m⟩:=vals1 r;cases m
 rcases h with ⟨f,q⟩ | ⟨f,q⟩
 ·obtain ⟨its,g,pl,hz⟩:=k.list f;have n:=g.length;refine call_tuple_list pl.isList (λ h' kp=>?_) (by simp only [Yg]<;>omega)
  have j:Inv X d i H { s with heap:=h' }:=k.kept (t':=s.toks) kp
  have t:Inv X d i (upd H h'.objs.size (.tup c)) { s with heap:=h'.push { cls:=.type "tuple",data:=.seq its.toArray } }:=
   j.laid (t':=s.toks) (λ b o e=>ZO _ e) (ZY _) (show ObjOk X.prog X.w _ _ _ (.tup c) from ⟨hz,its,g,IsTup.new _ _⟩)
  exact ⟨.ref h'.objs.size,_,t,rfl,q _ (j.hok.fresh (ZY _))⟩
 ·obtain ⟨its,g,pl,hz⟩:=k.tuple f;exact call_tuple_same pl ⟨.ref p,H,k,rfl,q⟩
def tyV (K:FrG)(T:String)(x:V)(H:Hp):Prop:=match x with
 | .str _=>T="str"
 | .int _=>T="int"
 | .ref p=>(T="list"/\∃xs,SqL K H p xs)\/(T="tuple"/\∃o,K.lookup p=some o/\o.cls=.type "tuple"/\o.dict=none)\/
   (T="dict"/\((∃c,H p=some (.dK c))\/∃c,H p=some (.dT c)))\/(T="set"/\∃d n,H p=some (.set d n))
 | _=>False
theorem AU5 {g:List (Addr×Obj)}{l:St}{H:Hp}{s:U2}{T:String}{x:V}{v:Value}(h:Inv X g l H s)(r:RelV x v)(f:tyV X.K T x H):
  s.TypeIs v T/\∀a,v=.ref a->∃j,s.heap.get? a=some j/\j.dict=none:=by
 cases x with
 | str z=>
  obtain ⟨t,rfl⟩:=r;cases (show T="str" from f)
  exact ⟨wR s z t,λ _ e=>nomatch e⟩
 | int i=>
  obtain ⟨t,rfl⟩:=r;cases (show T="int" from f)
  exact ⟨typeIs_int s i t,λ _ e=>nomatch e⟩
 | ref p=>
  cases r
  rcases f with ⟨rfl,xs,m⟩ | ⟨rfl,o,d,hc,hd⟩ | ⟨rfl,d⟩ | ⟨rfl,q,n,d⟩
  ·obtain ⟨its,_,pl,_⟩:=h.list m;refine ⟨pl.isList.typeIs,λ a e=>?_⟩
   cases e
   obtain ⟨o,n,e,c,hd,_⟩:=pl;exact ⟨o,e,hd⟩
  ·refine ⟨⟨o,h.kIn p o d,hc⟩,λ a e=>?_⟩
   cases e
   exact ⟨o,h.kIn _ o d,hd⟩
  ·have z:∃o,s.heap.get? p=some o/\o.ExactDict:=by
    rcases d with ⟨k,d⟩ | ⟨k,d⟩
    ·obtain ⟨_,_,_,_,o,_,_,e,ex,_⟩:=h.hok p _ d;exact ⟨o,e,ex⟩
    ·obtain ⟨_,_,_,_,o,_,_,e,ex,_⟩:=h.hok p _ d;exact ⟨o,e,ex⟩
   obtain ⟨o,e,ex⟩:=z;refine ⟨⟨o,e,ex.1⟩,λ a e2=>?_⟩
   cases e2
   exact ⟨o,e,ex.2.1⟩
  ·obtain ⟨o,_,_,_,e,ex,_⟩:=h.hok p _ d;refine ⟨⟨o,e,ex.1⟩,λ a e2=>?_⟩
   cases e2
   exact ⟨o,e,ex.2.1⟩
 | _=>exact UI f
def tBM (K:FrG)(T:String)(r:V->List V->Hp->VK->Prop)(e:TE)(t:TA):TE:=λ c H Q=>e c H λ x d=>tyV K T x d/\t c d λ xs f=>r x xs f Q
variable {o e:Expr}{es:List Expr}{to:TE}{t:TA}{name:Str}{apos cpos:Pos}{T id:String}{r:V->List V->Hp->VK->Prop}
theorem Ca (p:PlainAttrs T)(slot:Slot T name id)(k:typeOf (.builtin id)=pure (.type "method_descriptor"))(q:MtR X id r)(u:PE X o to)(ha:PA X (e::es) t)
  (f:wW o name X.env (eval o X.env)=eval o X.env:=by rfl)
  (i:((yT cpos (XE (e::es) X.env)).all (λ x=>!x.1) && (backToKw cpos (GT [] X.env)).all (λ x=>x.1.isSome)
   && decide ((e::es).length+([]:List Keyword).length+(if ([]:List Keyword).isEmpty then 0 else 1) < 30))=true:=by rfl)
  (g:(apos.endLine == cpos.line)=true:=by rfl) (w:XE (e::es) X.env=(false,eval e X.env)::XE es X.env:=by rfl) (d:(yT cpos (XE es X.env)).any (·.1)=false:=by rfl):
  PE X (.Call (.Attribute o name apos) (e::es) [] cpos) (tBM X.K T r to t):=by
 intro c s j H Q L h;refine wpAny_Call_method_late f i g rfl (thn (u c s j H _ L h) λ v y ⟨x,z,l,m,A,B⟩=>?_)
 obtain ⟨C,D⟩:=AU5 l m A;refine ⟨T,id,p,slot,k,C,D,?_⟩;have n:=ha cpos c y j z _ l B;rw [w] at n ⊢;refine FO (by show (false || (yT cpos (XE es X.env)).any (·.1))=false;rw [d]<;>rfl) (NI ?_)
 exact thn n λ us E ⟨vs,F,G,I,J⟩=>q c E j F x vs v us Q G m I J
end
def MtM (X:Cx)(id:String)(r:V->List V->Hp->VK->Prop):Prop:=
 ∀(a:List (Addr×Obj)) (s:U2) (b:St) (H:Hp) (x:V) (xs:List V) (v:Value) (us:List Value) (Q:VK),Inv X a b H s->RelV x v->Vals xs us->r x xs H Q->
  wpAny (model X.prog X.w) X.A (call (.builtin id) (v::us)) (EP X a b Q) X.xe s
theorem Vals.one:∀{x:V} {us:List Value},Vals [x] us->∃u,us=[u]/\RelV x u
 | _,_,.cons r .nil=>⟨_,rfl,r⟩
theorem Vals.rep {xs:List V}{us:List Value}(h:Vals xs us):∀k:Nat,Vals (Xz k xs).flatten (Xz k us).flatten
 | 0=>.nil
 | k+1=>by
  rw [zt,zt,QY,QY];exact Vals.append h (Vals.rep h k)
theorem nY (its:List Value):∀(k:Nat) (a:List Value),
  List.foldl (λ b c=>b++c) a.toArray (Xz k its.toArray)=(a++(Xz k its).flatten).toArray
 | 0,a=>by simp
 | k+1,a=>by
  have e:a.toArray++its.toArray=(a++its).toArray:=by simp
  have e2:(a++its)++(Xz k its).flatten=a++(Xz (k+1) its).flatten:=by
   rw [zt,QY,XB]
  rw [<- e2,<- nY its k (a++its),<- e,zt,List.foldl_cons]
section
variable {X:Cx}{pins:List (Addr×Obj)}{σ:St}{H:Hp}{s:U2}{l b:Addr}{xs ys zs:List V}
theorem Inv.lset {its its':List Value}{n:Nat}{f:Array Value->Array Value}{t':Nat}(d:Inv X pins σ H s)(a:H l=some (.lst xs))
  (e:s.heap.get? l=some { cls:=.type "list",data:=.seq its.toArray n }) (hf:f its.toArray=its'.toArray) (hv:Vals ys its') (hz:ys.length<=Y3):
  Inv X pins σ (upd H l (.lst ys)) { s with heap:=s.heap.update l (qh f),toks:=t' }:=by
 have q:=PySem.IsL.update e f;rw [hf] at q;refine d.write (x:=l) (e:=l) (by rw [a];exact trivial) (.inl rfl) (λ g u hb c=>(FM s.heap (qh f) (JE hb)).trans c) ⟨_,q⟩ ?_
 exact ⟨hz,its',_,hv,q⟩
theorem Inv.lnew {its:List Value}{t':Nat}(a:Inv X pins σ H s)(hv:Vals ys its)(hz:ys.length<=Y3):
  Inv X pins σ (upd H s.heap.objs.size (.lst ys)) { s with heap:=s.heap.push { cls:=.type "list",data:=.seq its.toArray },toks:=t' }:=
 a.laid (λ _ _ q=>ZO _ q) (ZY _) ⟨hz,its,0,hv,XM _ rfl⟩
theorem Inv.fresh (a:Inv X pins σ H s):H s.heap.objs.size=none:=a.hok.fresh (ZY _)
theorem Inv.lstM (c:Inv X pins σ H s)(a:H l=some (.lst xs)):xs.length<=Y3/\∃(its:List Value) (n:Nat),Vals xs its/\xs.length=its.length/\s.heap.get? l=some { cls:=.type "list",data:=.seq its.toArray n }:=by
 obtain ⟨z,its,n,r,e⟩:=c.hok l _ a;exact ⟨z,its,n,r,r.length,e⟩
theorem notLongL {n:Nat}(h:n<=Y3):zk n=false:=by
 unfold zk;exact η ∅
end
section
variable {X:Cx}
inductive rAppend (x:V)(vs:List V)(H:Hp)(Q:VK):Prop | mk (l xs y:_) (_:x=.ref l) (_:vs=[y]) (_:H l=some (.lst xs)) (_:xs.length < Y3) (_:Q .non (upd H l (.lst (xs++[y]))))
theorem Fq:MtM X "list.append" rAppend:=by
 intro b s i H x vs v us Q g c d h;obtain ⟨l,xs,y,rfl,rfl,a,hz,q⟩:=h;cases c
 obtain ⟨u,rfl,f⟩:=d.one;obtain ⟨z,its,n,r,hl,e⟩:=g.lstM a;refine xI F.slot_list_append ⟨_,e,rfl⟩ F.entry_list_append (F.args_list_append_2 _ _) (PySem.list_append l its.toArray n u (by rw [Yg];omega)) ⟨e,?_⟩
 refine ⟨.non,_,g.lset (its':=its++[u]) a e (by simp) (r.append (.cons f .nil)) ?_,rfl,q⟩
 rw [X9,List.length_singleton];omega
inductive rExtend (x:V)(vs:List V)(H:Hp)(Q:VK):Prop | mk (l b xs zs:_) (_:x=.ref l) (_:vs=[.ref b]) (_:H l=some (.lst xs)) (_:H b=some (.lst zs)) (_:xs.length+zs.length<=Y3) (_:Q .non (upd H l (.lst (xs++zs))))
theorem AV2:MtM X "list.extend" rExtend:=by
 intro f s w H x vs v us Q g i j h;obtain ⟨l,b,xs,zs,rfl,rfl,d,k,hz,q⟩:=h;cases i
 obtain ⟨u,rfl,m⟩:=j.one;cases m
 obtain ⟨z,its,n,r,hl,e⟩:=g.lstM d;obtain ⟨y,a,o,p,t,e2⟩:=g.lstM k;have hsz:its.toArray.size+a.toArray.size<=Y3:=by rw [Yg,Yg];omega
 have c:¬ (!its.toArray.isEmpty && zk (its.toArray.size+a.toArray.size))=true:=by
  rw [notLongL hsz,Bool.and_false];exact ZM
 refine xI F.slot_list_extend ⟨_,e,rfl⟩ F.entry_list_extend (F.args_list_extend_2 _ _)
  (AutoSeq1.list_extend_list_list_0 l its.toArray n b a.toArray o c (by rw [Yg];omega) ∅) ⟨e,e2,?_⟩
 refine ⟨.non,_,g.lset (its':=its++a) d e (by simp) (r.append p) ?_,rfl,q⟩
 rw [X9];omega
inductive rCat (x:V)(y:V)(H:Hp)(Q:VK):Prop | mk (l b xs zs:_) (_:x=.ref l) (_:y=.ref b) (_:H l=some (.lst xs)) (_:H b=some (.lst zs)) (_:xs.length+zs.length<=Y3) (_:∀p,H p=none->Q (.ref p) (upd H p (.lst (xs++zs))))
theorem Gk:OpR X (yy .Add) rCat:=by
 intro d s o H x y v u Q c f ry h;obtain ⟨l,b,xs,zs,rfl,rfl,g,i,hz,q⟩:=h;cases f
 cases ry
 obtain ⟨z,its,n,r,hl,e⟩:=c.lstM g;obtain ⟨p,a,t,j,m,e2⟩:=c.lstM i;refine PySem.P.add_list e e2 ?_ (by rw [Yg,Yg];omega)
 have k:its.toArray++a.toArray=(its++a).toArray:=by simp
 rw [k];exact ⟨.ref _,_,c.lnew (t':=s.toks) (r.append j) (by rw [X9];omega),rfl,q _ c.fresh⟩
inductive rRep (x:V)(y:V)(H:Hp)(Q:VK):Prop | mk (l k xs:_) (_:x=.ref l) (_:y=.int k) (_:H l=some (.lst xs)) (_:-(2 ^ 63)<=k) (_:k < 2 ^ 63) (_:xs.length * k.toNat<=Y3) (_:∀p,H p=none->Q (.ref p) (upd H p (.lst (Xz k.toNat xs).flatten)))
theorem uw {a:Type}(xs:List a)(k:Nat):(Xz k xs).flatten.length=k * xs.length:=by
 induction k with
 | zero=>simp
 | succ k b=>rw [zt,QY,X9,b,FP,FR]
theorem gK:OpR X (yy .Mult) rRep:=by
 intro o s E H x y v u Q p w ry h;obtain ⟨l,k,xs,rfl,rfl,A,B,C,hz,q⟩:=h;cases w
 obtain ⟨t,rfl⟩:=ry;obtain ⟨z,its,n,r,hl,e⟩:=p.lstM A;have c:its.toArray.size * k.toNat<=Y3:=by rw [Yg,<- hl];exact hz
 have d:¬ its.toArray.size * k.toNat > (2 ^ 63 - 1) / 8:=by
  have:(Y3:Nat)<=(2 ^ 63 - 1) / 8:=by decide
  omega
 have f:¬ (!Builtin.List.listFitsIndex k)=true:=by
  rw [fitsIndex_both B C];exact ZM
 have b:¬ zk (its.toArray.size * k.toNat)=true:=by
  rw [notLongL c];exact ZM
 have g:List.foldl (λ i j=>i++j) #[] (Xz (if its.toArray.isEmpty=true then 0 else k.toNat) its.toArray)=(Xz k.toNat its).flatten.toArray:=by
  have D:∀m:Nat,List.foldl (λ i j=>i++j) #[] (Xz m its.toArray)=(Xz m its).flatten.toArray:=λ m=>by
   have:=nY its m [];rw [Jn] at this;exact this
  rw [D];cases its with
  | nil=>simp
  | cons a G=>rw [if_neg (by simp)]
 refine wpAny_binaryOp_repeat_ref (T:="list") (U:="int") ⋯ ⟨_,e,rfl⟩ (λ s'=>typeIs_int s' k t) noFill_list_mul F.fills_int_mul F.slot_int_rmul repeat_list F.slot_int_index.lookup
  (xI F.slot_int_rmul (typeIs_int s k t) F.entry_int_rmul (F.args_int_rmul_2 _ _) (int___rmul___int_list k t l its.toArray n)
   ⟨e,rfl,⟨_,e,rfl⟩,xI F.slot_list_mul ⟨_,e,rfl⟩ F.entry_list_mul (F.args_list_mul_2 _ _) (AutoListH.list___mul___list_int_3 l its.toArray n k t f d b) ⟨e,?_⟩⟩)
 rw [g];exact ⟨.ref _,_,p.lnew (t':=s.toks) (r.rep k.toNat) (by rw [uw,Nat.mul_comm];exact hz),rfl,q _ p.fresh⟩
end
section
variable {prog:YA}{w:World}{A:XW}{E:Value->U2->Prop}{s:U2}
theorem Ad0 (its b:List Value)(a c:Nat):its.toArray.extract 0 a++b.toArray++its.toArray.extract c its.toArray.size=(its.take a++b++its.drop c).toArray:=by
 apply Array.toList_inj.mp
 first
  | (simp;exact UB (by simp))
  | simp [UB]
  | simp
theorem AS5 {a c n:Nat}(e:a<=c)(hc:c<=n):zI (some (a:Int)) (some (c:Int)) none n=((a:Int),(c:Int),1):=by
 simp only [zI,Fn];have b:¬ ((a:Int) < 0):=by omega
 have d:¬ ((c:Int) < 0):=by omega
 simp only [b,d,if_false,show (1:Int) > 0 by decide,if_true]
 congr 1
 ·omega
 ·congr 1;omega
set_option maxRecDepth 100000 in
theorem AL9 {l b i:Addr}{items d:Array Value}{n z:Nat}{p q:Value}{a c:Nat}{Q:Unit->U2->Prop}
  (e:s.heap.get? l=some { cls:=.type "list",data:=.seq items n }) (e2:s.heap.get? b=some { cls:=.type "list",data:=.seq d z }) (t:l≠b)
  (B:s.heap.IsSliceOf i p q .none) (pl:Nd p (some (a:Int))) (C:Nd q (some (c:Int))) (u:a<=c) (hc:c<=items.size)
  (hsz:items.size+d.size<=Y3) (h:Q () { s with heap:=s.heap.update l (qh λ xs=>xs.extract 0 a++d++xs.extract c xs.size) }):
  wpAny (model prog w) A (setItem (.ref l) (.ref i) (.ref b)) Q E s:=by
 have hl:s.heap.IsList l items:=Bi e;have hb:s.heap.IsList b d:=Bi e2;obtain ⟨os,g,v,j⟩:=id B;have o:s.TypeIs (.ref i) "slice":=⟨os,g,v⟩;have k:¬ ((rawPart none == rawInt 0)=true):=ZM;have f:GW (.ref l) (.ref b)=false:=by
  unfold GW;exact beq_eq_false_iff_ne.mpr t
 have r:(max (a:Int) (c:Int)).toNat=c:=by omega
 have y:((λ xs:Array Value=>xs.extract 0 a++d++xs.extract c xs.size) items).size<=Y3+1:=by
  simp only [Array.size_append,Array.size_extract];omega
 unfold setItem
 try with_reducible refine UA ?_
 first | refine U1 (Ya ?_) | skip
 refine U1 (wpAny_sequenceKey hl.typeIs ⋯ ?_)
 refine U1 (wpAny_callSpecial?_slot (name:=Z7 "__setitem__") hl.typeIs slot_list_setitem
  (wpAny_call_entry slot_list_setitem hl.typeIs entry_list_setitem ?_ (args_list_setitem _ _ _)))
 show wpAny _ _ (jv (.ref i) >>= _) _ _ s;refine U1 ?_;unfold jv;refine U1 (Nt o slice_no_index ?_);simp only [Option.isNone_none,if_true];refine Ya ?_;show wpAny _ _ (typeOf (.ref i) >>= _) _ _ s;refine U1 (wpAny_typeOf o ?_)
 first
  | rw [if_neg ⋯]
  | refine qk ⋯ ?_
 rw [listSliceParts_eq];refine U1 (U1 (uu g j (x:=.none) rfl (U1 (NY .none ?_))));rw [if_neg k];refine U1 (uu g j (x:=p) rfl (U1 (NY pl ?_)));refine U1 (uu g j (x:=q) rfl (U1 (NY C (Ya ?_))))
 first
  | simp only [f,yb,if_false]
  | refine qk f ?_
  | (dsimp only;rw [if_neg (by rw [f];exact ZM)])
 refine U1 (m:=Gc (.ref b) "must assign iterable to extended slice") ?_;unfold Gc;refine U1 (wpAny_typeOf hb.typeIs ?_)
 first
  | refine PySem.W.KFB.if_so ⋯ ?_
  | rw [if_pos ⋯]
  | simp only [beq_self_eq_true,Bool.true_or,if_true]
 unfold WA.List.listItems;refine U1 (wpAny_seqItems e2 rfl (Ya ?_));refine U1 (U1 (wpAny_seqItems e rfl (Ya ?_)));refine U1 (wpAny_of_eq ((sliceIndices_raw (some (a:Int)) (some (c:Int)) none items.size (by simp)).trans (congrArg (pure:Int×Int×Int->Sem (Int×Int×Int)) (AS5 u hc))) ?_)
 show wpAny _ _ (if ((1:Int) == 1)=true then _ else _) _ _ s
 rw [if_pos ⋯]
 refine U1 (wpAny_rule ?_)
 first
  | simp only [notLongL hsz,yb,if_false]
  | refine qk (notLongL hsz) ?_
 first | refine U1 (Ya ?_) | skip
 show wpAny _ _ (updateSeq l (λ xs=>xs.extract 0 ((a:Int)).toNat++d++xs.extract (max (a:Int) (c:Int)).toNat xs.size) >>= _) _ _ s
 rw [r,Qb];refine U1 (wpAny_updateSeq (hz:=ZE (Nat.le_add_right _ _) hsz) (_hz':=y) e rfl ?_);refine U1 (wpAny_letGo ?_)
 first
  | exact U1 (Ya (Ya ⟨.none,rfl,Ya h⟩))
  | exact Ya ⟨.none,rfl,Ya h⟩
end
end L2
namespace Att
open PySem PySem.W PySem.Calls PyProof.Rows
theorem Ah1 {P:Fk}{h:Heap}:∀(ns:List Int) (vs:List Value),WellAll P h vs (ns.map WData.int)->IntsAre vs ns:=by
 intro ns
 induction ns with
 | nil=>
  intro vs w;rw [jx] at w;cases w
  exact .nil
 | cons n ns c=>
  intro vs w;rw [YJ] at w;cases w with
  | cons a b=>
   cases a
   exact .cons _ _ (c _ b)
theorem zR {l:OpenLaw}{n:Nat}(m:l.most=some n){P:Fk}{h:Heap}{args:List WData}{b:List Value}
  (c:l.row.toRowW.claim.pre args=true) (j:WellAll P h b args):
  ∃a vs ns,b=[XP a]/\args=[WData.list (ns.map WData.int)]/\h.get? a=some { cls:=.type "list",data:=.seq vs.toArray }/\IntsAre vs ns/\ns.length<=n:=by
 have k:WShape.hasAll [] args [.list .int]=true:=(pre_splitW c).1;have hc:l.pre.holds [] { args:=args }=true:=(pre_splitW c).2;obtain ⟨d,r,rfl,o,p⟩:=hasAllW_cons k;obtain rfl:=hasAllW_nil p;obtain ⟨xs,rfl,s⟩:=hasW_list o;obtain ⟨ns,rfl⟩:=items_int s;have g:ns.length<=n:=by
  unfold OpenLaw.pre at hc;have e:(WTm.not (.lt (.lit (.int (n:Int))) (.len (.arg 0)))).holds [] { args:=[.list (ns.map .int)] }=true:=by
   have e:=(holds_andW hc).1;rw [m] at e;exact e
  have f:=condW_of e (w_not (w_lt w_lit (w_len_list (w_arg rfl))));rw [Y2] at f;refine Nat.le_of_not_lt λ q=>?_
  have t:(n:Int) < ((ns.length:Nat):Int):=by omega
  first
   | (rw [ζ t] at f;exact absurd f ⋯)
   | (simp at f;omega)
 cases j with
 | cons u v=>
  cases v
  cases u with
  | list w i=>exact ⟨_,_,ns,rfl,rfl,w,Ah1 ns _ i,g⟩
theorem Ai9 (l:OpenLaw)(args:List WData):l.row.toRowW.claim.post args (.bool true) args=true:=
 postW_of (r:=l.row.toRowW) (X:=(true == true))
  (show WShape.has [] (.bool true) .bool=true by first | rfl | decide | simp [WShape.has,WShape.arms,WShape.armsAll])
  (show (WTm.eq .res (.lit (.bool true))).value [] { args:=args,res:=some (.bool true),after:=args }=some (.bool (true == true)) from w_eq_bool (w_res rfl) w_lit) rfl
theorem yO {l:OpenLaw}{n:Nat}{q:YA}{c:List Str}{s:(Str->Option Value)->Heap->Prop}{t:World->Heap->Prop}{d:DefRec}
  (A:l.most=some n) (u:d.params.defaults=[])
  (call:∀(w:World) (s₀ b:U2) (mg i:Str->Option Value) (e:Addr) (o:Obj) (j cd g:Value) (a:Addr) (vs:List Value) (ns:List Int),
   Ground q c [] s w s₀ mg i b.heap->t w b.heap->
   b.heap.get? e=some o->o.data=.func (docDef d.name d.params d.body d.scope j cd g)->b.heap.CodeRec cd d.name->mg d.name=some (.ref e)->
   b.heap.get? a=some { cls:=.type "list",data:=.seq vs.toArray }->IntsAre vs ns->ns.length<=n->b.gens=#[]->
   GS (model l.prog w) Mo (.call (.ref e) ⟨[.ref a],[]⟩) (λ r s'=>r=.ok (.ret (.bool true))/\OldK b.heap s'.heap/\s'.os=b.os/\wo s'.gens) b):
  WalkO q c s t l.row.toRowW d [] (λ f vs=>PySem.call f vs):=by
 intro w s₀ b mg i N O e o j cd g B kV C hd v x y D args E as k F L z M;obtain rfl:B=.none:=Dflts.none x u;obtain rfl:kV=.none:=Dflts.noKw x;obtain ⟨a,vs,ns,rfl,rfl,m,h,p⟩:=zR A k z;refine enter_call (jF (call w s₀ b mg i e o j cd g a vs ns N O C (fd_plain hd) v y m h p D) λ r s' G=>?_)
 obtain ⟨rfl,H,I,J⟩:=G;exact ⟨.inl ⟨.bool true,.bool true,[],rfl,λ _=>rfl,.bool true,Ai9 l _,λ _=>⟨MV,λ _ K=>(nomatch K)⟩⟩,H,I,J⟩
end Att
namespace L2
open PySem PySem.Spec PyProof.Rows
theorem bV:∀{vs:List Value} {ns:List Int},IntsAre vs ns->Vals (ns.map V.int) vs
 | _,_,.nil=>.nil
 | _,_,.cons n t h=>.cons ⟨t,rfl⟩ (bV h)
def Only (H:Hp):Prop:=∀b,H b=none\/∃o xs,H b=some (.frz o (.lst xs))
theorem AL5 {P:YA}{w:World}{K:FrG}{mg y:Str->Option Value}{CX:CXT}{k:Nat}{A a:Addr}{fd:UH}{x:Str}{sp:Sp}{c:U2}{vs:List Value}{ns:List Int}
  (G:K.In c.heap) (p:c.heap.Ns ZL mg) (hb:c.heap.Ns builtinsNs y) (I:∀x:Str,x≠"__name__"->y x=Uf x) (B:c.heap.NoLimit) (R:c.gens=#[])
  (ha:c.heap.get? a=some { cls:=.type "list",data:=.seq vs.toArray }) (hi:IntsAre vs ns) (hl:ns.length<=Y3) (S:Room k Mo)
  (a4:∀base:Heap,K.In base->base.Ns ZL mg->FnOk P w K mg base CX k A fd [x] sp) (l:∀(s:U2) (u:Value),Mn s fd ⟨[u],[]⟩ [(x,u)])
  (J:∀H:Hp,Only H->SqL K H a (ns.map V.int)->sp [.ref a] H (λ v _=>v=.bl true) λ _ _ _=>False)
  (L:∀H e s',CX [] H c (λ _ _ _=>False) e s'->False):
  GS (model P w) Mo (.call (.ref A) ⟨[.ref a],[]⟩) (λ r s'=>r=.ok (.ret (.bool true))/\OldK c.heap s'.heap/\s'.os=c.os/\wo s'.gens) c:=by
 have M:=bV hi;have C:=hi.length;have core:∀H:Hp,Only H->SqL K H a (ns.map V.int)->HOk P w H c.heap->(∀b,H b≠none->b=a)->(H a≠none->K.lookup a=none)->
   GS (model P w) Mo (.call (.ref A) ⟨[.ref a],[]⟩) (λ r s'=>r=.ok (.ret (.bool true))/\OldK c.heap s'.heap/\s'.os=c.os/\wo s'.gens) c:=by
  intro H N T hok O U;have f:∀{b:Addr} {o:Obj},c.heap.get? b=some o->H b=none->(hidT c.heap H).get? b=some o:=λ e n=>yx e n
  have Q:∀{b:Addr} {o:Obj} {es:Array wS} {i:Nat},c.heap.get? b=some o->o.data=.dict es i->H b=none:=λ {b o es i} e d=>by
   cases q:H b with
   | none=>rfl
   | some u=>
    have D:b=a:=O b (by rw [q];simp)
    subst D;rw [ha] at e;cases e;have d':Data.seq vs.toArray _=Data.dict es i:=d;cases d'
  have g:∀{b:Addr} {m:Str->Option Value},c.heap.Ns b m->(hidT c.heap H).Ns b m:=λ {b m} ⟨o,es,i,e,d,r⟩=>⟨o,es,i,f e (Q e d),d,r⟩
  have t:K.In (hidT c.heap H):=λ b o e=>f (G b o e) (by
   cases q:H b with
   | none=>rfl
   | some u=>
    have D:b=a:=O b (by rw [q];simp)
    subst D;rw [U (by rw [q];simp)] at e;cases e)
  have W:Mod K mg (hidT c.heap H):=⟨t,g p,⟨y,g hb,I⟩,let ⟨mc,X,Y⟩:=B;⟨mc,g X,Y⟩⟩
  have e0:Env0 P w K mg (hidT c.heap H) Mo [] c H:=⟨rfl,W,λ b o e=>qj e,MQ (qd _ _),trivial,λ b hb=>absurd (show b∈([]:List Addr) from hb) (by simp),hok,.of_eq R⟩
  refine jF ((a4 _ t (g p)).run Mo [] c H ⟨[.ref a],[]⟩ [.ref a] [.ref a] _ _ S e0 (l c (.ref a)) (.cons rfl .nil) (J H N T)) λ r s' h=>?_
  cases r with
  | error e=>exact (L H e s' h).elim
  | ok Z=>
   cases Z with
   | next=>exact UI h
   | brk=>exact UI h
   | cont=>exact UI h
   | ret u=>
    obtain ⟨v,a5,os,bare,un,E,a0,q⟩:=h;have a1:v=.bl true:=q;subst a1;obtain rfl:u=MG true:=a0;refine ⟨rfl,OldK.of_keep λ b o e=>?_,os,bare⟩
    cases q:H b with
    | none=>exact un.keep b o e q (by intro z;exact absurd (show b∈([]:List Addr) from z) (by simp)) (by simp)
    | some u=>
     rcases N b with z | ⟨a2,xs,z⟩
     ·rw [q] at z;cases z
     ·have a3:=un.frzs b a2 _ z;obtain ⟨e1,_⟩:=hok b _ z;obtain ⟨e2,_⟩:=E b _ a3;rw [e] at e1;cases e1;exact e2
 cases F:K.lookup a with
 | some o=>
  have e:=G a o F;rw [ha] at e;cases e
  refine core (λ _=>none) (λ _=>.inl rfl) (.inr ⟨_,vs.toArray,_,F,rfl,rfl,rfl,by rw [Yg,C];exact hl,by simpa using M⟩) (λ b u z=>by have j:(none:Option HO)=some u:=z;cases j) (λ b z=>absurd rfl z) λ z=>absurd rfl z
 | none=>
  refine core (λ b=>if b=a then some (.frz { cls:=.type "list",data:=.seq vs.toArray } (.lst (ns.map V.int))) else none) (λ b=>?_) (.inl (.inr ⟨{ cls:=.type "list",data:=.seq vs.toArray },if_pos rfl⟩)) (λ b u z=>?_) (λ b z=>?_) λ _=>F
  ·by_cases hb:b=a
   ·exact .inr ⟨_,_,if_pos hb⟩
   ·exact .inl (if_neg hb)
  ·by_cases hb:b=a
   ·have j:=(if_pos hb).symm.trans z;cases j
    subst hb;exact ⟨ha,by rw [Y2];exact hl,vs,_,M,ha⟩
   ·have j:=(if_neg hb).symm.trans z;cases j
  ·by_cases hb:b=a
   ·exact hb
   ·exact absurd (if_neg hb) z
abbrev KOf {K:FrG}{h:Heap}(_:K.In h):FrG:=K
theorem walk_of {l:PySem.W.OpenLaw}{n k:Nat}{q:YA}{i:List Str}{F:(Str->Option Value)->Heap->Prop}{t:World->Heap->Prop}{d:DefRec}{K:Fk->FrG}{CX:World->CXT}{sp:World->Sp}{x:Str}
  (G:l.most=some n) (y:n<=Y3) (z:d.params.defaults=[]) (I:Room k Mo)
  (J:∀(w:World) (h:Heap),t w h->(K w.params).In h)
  (R:∀(w:World) (mg:Str->Option Value) (j:Addr) (h:Heap),(K w.params).In h->h.Ns ZL mg->mg d.name=some (.ref j)->
   ∃fd:UH,(∀(s:U2) (u:Value),Mn s fd ⟨[u],[]⟩ [(x,u)])/\
    ∀base:Heap,(K w.params).In base->base.Ns ZL mg->FnOk l.prog w (K w.params) mg base (CX w) k j fd [x] (sp w))
  (A:∀(w:World) (H:Hp) (a:Addr) (ns:List Int),ns.length<=n->Only H->SqL (K w.params) H a (ns.map V.int)->sp w [.ref a] H (λ v _=>v=.bl true) λ _ _ _=>False)
  (B:∀(w:World) (H:Hp) (s:U2) (e:Value) (s':U2),CX w [] H s (λ _ _ _=>False) e s'->False):
  PySem.W.WalkO q i F t l.row.toRowW d [] (λ f vs=>PySem.call f vs):=by
 refine Att.yO G z λ w s₀ p mg S j o U cd P a vs ns C X Y hd Q D r m c L=>?_
 have E:=J w _ X;obtain ⟨fd,hb,M⟩:=R w mg j _ E C.T.g D;exact AL5 E C.T.g C.T.b C.T.builtins C.T.nolimit L r m (ZE c y) I M hb (λ H N O=>A w H a ns c N O) λ H e s'=>B w H p e s'
def inClass (s:Stmt)(j:Nat):Stmt:=match s with
 | .ClassDef _ _ _ a _ _ _ _ _ _ _=>a.getD j (.Pass ⟨0,0,0,0⟩)
 | _=>.Pass ⟨0,0,0,0⟩
def defArgs (s:Stmt):Arguments:=match s with
 | .FunctionDef _ a _ _ _ _ _ _ _ _=>a
 | _=>{ posonlyargs:=[],args:=[],vararg:=none,kwonlyargs:=[],kw_defaults:=[],kwarg:=none,defaults:=[] }
def defBody (s:Stmt):List Stmt:=match s with
 | .FunctionDef _ _ b _ _ _ _ _ _ _=>b
 | _=>[]
def defScope (s:Stmt):Scope:=match s with
 | .FunctionDef _ _ _ _ _ _ a _ _ _=>a
 | _=>{ kind:=.function,names:=[],isGenerator:=false,isCoroutine:=false }
abbrev E0:XK:=λ _ _ _=>False
structure Fun (K:FrG)(x qual:Str)(st:Stmt)(f:Addr)(fd:UH):Prop where
 ex:∃(oc:Value) (od:Option Addr) (kV doc pm:Value) (an:Option Addr) (cdv ct:Value) (osl:Array (Option Value)),
  fd=YP x qual (defArgs st) (defBody st) (defScope st) .none kV doc pm an cdv ct/\K.lookup f=some ⟨oc,od,.func fd,osl⟩/\XA K cdv qual=true
 kp:YE K (.ref f)=true
section
variable {P:YA}{w:World}{K:FrG}{mg:Str->Option Value}{base:Heap}
theorem Fun.binds {x a:Str}{st:Stmt}{f:Addr}{fd:UH}{ps:List Str}(j:Fun K x a st f fd)
  (h:∀(kV b d:Value) (e:Option Addr) (c ct:Value) (us:List Value),us.length=ps.length->ut (YP x a (defArgs st) (defBody st) (defScope st) .none kV b d e c ct) ⟨us,[]⟩=pure (ps.zip us)):Binds K fd ps []:=by
 obtain ⟨k,l,kV,b,d,e,c,ct,g,rfl,m,i⟩:=j.ex;exact .all (h kV b d e c ct)
theorem Dw {x a:Str}{st:Stmt}{f:Addr}{i:Value}{j g:Option Addr}{e:Array (Option Value)}{kV d h b ct:Value}(l:K.lookup f=some ⟨i,j,.func (YP x a (defArgs st) (defBody st) (defScope st) .none kV d h g b ct),e⟩)
  (c:XA K b a=true) (k:YE K (.ref f)=true):Fun K x a st f (YP x a (defArgs st) (defBody st) (defScope st) .none kV d h g b ct):=⟨⟨i,j,kV,d,h,g,b,ct,e,rfl,l,c⟩,k⟩
end
theorem small1000 {n:Nat}(h:n<=1000):n < Y3:=xB h ⋯
section
variable {X:Cx}
theorem pv (i:Nat){x:Str}{pos:Pos}(b:X.N[i]?=some x:=by rfl)(hv:Vis X.env.scope x:=by first | exact Or.inl rfl | exact Or.inr (Or.inl rfl) | exact Or.inr (Or.inr rfl))(hd:(x == ("__debug__":Str))=false:=by decide)
  (a:(x == ("__classdict__":Str))=false:=by decide):PE X (.Name x pos) (tVar i):=AY5 b hv hd a
end
theorem iteF {A a:Prop}(h:a):if false=true then A else a:=by
 rw [if_neg ZM];exact h
theorem iteT {A a:Prop}(h:A):if true=true then A else a:=by
 rw [if_pos rfl];exact h
theorem ite2 {c A d:Prop}[Decidable c](a:c->A)(b:¬ c->d):if c then A else d:=by
 by_cases h:c
 ·rw [if_pos h];exact a h
 ·rw [if_neg h];exact b h
def Same (H a:Hp):Prop:=∀b o,H b=some o->a b=some o
theorem Same.refl (H:Hp):Same H H:=λ _ _ h=>h
theorem Same.trans {H d e:Hp}(a:Same H d)(b:Same d e):Same H e:=λ c o h=>b c o (a c o h)
theorem Same.free {H a:Hp}(e:Same H a){l:Addr}(h:a l=Option.none):H l=Option.none:=by
 cases q:H l with
 | none=>rfl
 | some o=>
  rw [e l o q] at h;cases h
theorem Same.seq {K:FrG}{H b:Hp}{a:Addr}{xs:List V}(e:Same H b)(h:SqL K H a xs):SqL K b a xs:=by
 rcases h with (h | ⟨o,h⟩) | h
 ·exact .inl (.inl (e _ _ h))
 ·exact .inl (.inr ⟨o,e _ _ h⟩)
 ·exact .inr h
section
variable {X:Cx}
def aF (_ j:Int):Prop:=j≠0/\j.natAbs.log2 < 9000
theorem Qf:OpR X (yy .FloorDiv) (rI aF λ i j=>.int (i.fdiv j)):=opI λ _ _ _ _ _ _ _ hc q=>floordiv_int hc.1 q (.inl (PyProof.noPylong_of_log2 hc.2))
theorem nj {i:Int}{k:Nat}(h:i.natAbs < 2 ^ k):Mw i<=k:=by
 unfold Mw
 split
 ·exact WI _
 ·rename_i z
  have a:i.natAbs≠0:=λ e=>z (beq_iff_eq.mpr (Int.natAbs_eq_zero.mp e))
  exact (Nat.log2_lt a).mpr h
def CMulW (i j:Int):Prop:=i.natAbs < 2 ^ 10000/\j.natAbs < 2 ^ 10000
theorem CMulW.ok {i j:Int}(h:CMulW i j):IntMulOk i j:=.of_bits (ZE (nj h.1) ⋯) (ZE (nj h.2) ⋯)
theorem Ef:OpR X (yy .Mult) (rI CMulW λ i j=>.int (i * j)):=opI λ _ _ _ _ _ _ _ hc q=>mul_int q hc.ok
end
mutual
inductive DV (K:FrG)(H:Hp):V->Zh->Prop
 | non:DV K H .non .none
 | bl (b:Bool):DV K H (.bl b) (.bool b)
 | int (i:Int):DV K H (.int i) (.int i)
 | str (x:Str):DV K H (.str x) (.str x)
 | lst {a:Addr} {xs:List V} {ds:List Zh}:SqL K H a xs->DVs K H xs ds->DV K H (.ref a) (.list ds)
 | tup {a:Addr} {xs:List V} {ds:List Zh}:SqT K H a xs->DVs K H xs ds->DV K H (.ref a) (.tuple ds)
 | dct {a:Addr} {kvs:List (Key×V)}:H a=some (.dK kvs)->DV K H (.ref a) (.dict [])
inductive DVs (K:FrG)(H:Hp):List V->List Zh->Prop
 | nil:DVs K H [] []
 | cons {v:V} {vs:List V} {d:Zh} {ds:List Zh}:DV K H v d->DVs K H vs ds->DVs K H (v::vs) (d::ds)
end
section
variable {X:Cx}{pins:List (Addr×Obj)}{σ:St}{H:Hp}{s:U2}
mutual
theorem DV.reads (g:Inv X pins σ H s):∀{v:V} {d:Zh},DV X.K H v d->d.canLay0=true->∀{u:Value},RelV v u->∃as,Reads s.heap u d as
 | _,_,.non,_,_,r=>by cases r;exact ⟨_,.none⟩
 | _,_,.bl b,_,_,r=>by cases r;exact ⟨_,.bool b⟩
 | _,_,.int i,_,_,r=>by obtain ⟨t,rfl⟩:=r;exact ⟨_,.int i t⟩
 | _,_,.str x,_,_,r=>by obtain ⟨t,rfl⟩:=r;exact ⟨_,.str x t⟩
 | _,_,.lst h q,c,_,r=>by
  cases r
  obtain ⟨its,a,pl,_⟩:=g.list h;obtain ⟨as,e⟩:=DVs.reads g q c a;obtain ⟨o,f,hc,n,hd⟩:=id pl.isList;exact ⟨_,.list f hc hd e⟩
 | _,_,.tup h q,c,_,r=>by
  cases r
  obtain ⟨its,a,pl,_⟩:=g.tuple h;obtain ⟨as,e⟩:=DVs.reads g q c a;obtain ⟨o,f,hc,n,hd⟩:=id pl;exact ⟨_,.tuple f hc hd e⟩
 | _,_,.dct h,c,_,r=>nomatch c
theorem DVs.reads (f:Inv X pins σ H s):∀{vs:List V} {ds:List Zh},DVs X.K H vs ds->WG ds=true->∀{us:List Value},Vals vs us->∃as,ReadsAll s.heap us ds as
 | _,_,.nil,_,_,r=>by cases r;exact ⟨_,.nil⟩
 | _,_,.cons h q,c,_,r=>by
  rw [WG] at c;cases r with
  | cons a b=>
   obtain ⟨g,d⟩:=DV.reads f h (WJ.mp c).1 a;obtain ⟨i,e⟩:=DVs.reads f q (WJ.mp c).2 b;exact ⟨_,.cons d e⟩
end
end
section
variable {X:Cx}
inductive Jp (K:FrG)(x:V)(y:V)(H:Hp)(Q:VK):Prop | mk (d e:_) (_:DV K H x d) (_:DV K H y e) (_:we d=true) (_:we e=true) (_:Q (.bl (Ul d e)) H)
inductive Qi (K:FrG)(x:V)(y:V)(H:Hp)(Q:VK):Prop | mk (d e:_) (_:DV K H x d) (_:DV K H y e) (_:we d=true) (_:we e=true) (_:Q (.bl (!PyData.eqv d e)) H)
theorem Gh (b:X.A.units+64 < cLine):OpR X (Uh .Eq) (Jp X.K):=by
 intro c s k H x y v u Q f g ry h;obtain ⟨d,e,hd,he,sd,a,q⟩:=h;obtain ⟨l,i⟩:=hd.reads f (yg sd) g;obtain ⟨m,j⟩:=he.reads f (yg a) ry;exact eq_dataH i j sd a b ⟨.bl _,H,f,rfl,q⟩
theorem Ke (b:X.A.units+64 < cLine):OpR X (Uh .NotEq) (Qi X.K):=by
 intro c s k H x y v u Q f g ry h;obtain ⟨d,e,hd,he,sd,a,q⟩:=h;obtain ⟨l,i⟩:=hd.reads f (yg sd) g;obtain ⟨m,j⟩:=he.reads f (yg a) ry;exact ne_dataH i j sd a b ⟨.bl _,H,f,rfl,q⟩
end
structure TopFn (K:FrG)(mg:Str->Option Value)(x:Str)(st:Stmt):Prop where
 ex:∃(f:Addr) (fd:UH),Fun K x x st f fd/\mg x=some (.ref f)
theorem Ao {H:Hp}{p:Addr}(h:H p=none)(o:HO):Same H (upd H p o):=λ b u q=>by rw [BP (Bt q h)];exact q
theorem JM:Uf "int"=some (.type "int"):=by decide+kernel
theorem wC:Uf "bool"=some (.type "bool"):=by decide+kernel
theorem N7:Uf "tuple"=some (.type "tuple"):=by decide+kernel
theorem Ai6:Uf "list"=some (.type "list"):=by decide+kernel
theorem HR:Uf "str"=some (.type "str"):=by decide+kernel
theorem Dc:Uf "len"=some (.builtin "len"):=by decide+kernel
theorem Jd:Uf "abs"=some (.builtin "abs"):=by decide+kernel
theorem Qw:Uf "all"=some (.builtin "all"):=by decide+kernel
theorem Fv:Uf "isinstance"=some (.builtin "isinstance"):=by decide+kernel
def Bw (t T:String):Option Bool:=if (jT t == jT T)=true then some true else if PySem.W.kitMeta T=true then (fastBuiltinMro t).map (·.contains (jT T)) else none
theorem Ai8 {K:FrG}{t T:String}{b:Bool}(h:Bw t T=some b):PySem.W.kitOne K (.type t) (.type T)=some b:=h
theorem Az {K:FrG}{h:Heap}{mg:Str->Option Value}{x:Str}{st:Stmt}{f:Addr}{b:Value}{d e:Option Addr}{g:Array (Option Value)}{kV i j cd ct:Value}(X:K.In h)(m:h.Ns ZL mg)
  (a:ZT K ZL x=some (some (.ref f))) (l:K.lookup f=some ⟨b,d,.func (YP x x (defArgs st) (defBody st) (defScope st) .none kV i j e cd ct),g⟩) (c:XA K cd x=true) (k:YE K (.ref f)=true):TopFn K mg x st:=
 ⟨f,_,Dw l c k,ZG X m a⟩
section
variable {X:Cx}{es:List Expr}{te:TE}{t:TA}
theorem Bj {c:Const}{j:Nat}{p:Pos}(ha:PE X (.Constant c j p) te)(a:PA X es t):PA X (.Constant c j p::es) (tCons te t):=DY ha a (by rfl)
theorem Ac {x:Str}{p:Pos}(ha:PE X (.Name x p) te)(a:PA X es t):PA X (.Name x p::es) (tCons te t):=DY ha a (by rfl)
theorem lM {xs:List Expr}{p:Pos}(ha:PE X (.List xs p) te)(a:PA X es t):PA X (.List xs p::es) (tCons te t):=DY ha a (by rfl)
theorem DG {xs:List Expr}{k:Nat}{p:Pos}(ha:PE X (.Tuple xs k p) te)(a:PA X es t):PA X (.Tuple xs k p::es) (tCons te t):=DY ha a (by rfl)
theorem BX {f:Expr}{as:List Expr}{a:List Keyword}{p:Pos}(ha:PE X (.Call f as a p) te)(b:PA X es t):PA X (.Call f as a p::es) (tCons te t):=DY ha b (by rfl)
theorem CJ {a:Expr}{o:NV}{b:Expr}{p:Pos}(ha:PE X (.BinOp a o b p) te)(c:PA X es t):PA X (.BinOp a o b p::es) (tCons te t):=DY ha c (by rfl)
theorem Tp {a:Expr}{os:List CmpOp}{bs:List Expr}{p:Pos}(ha:PE X (.Compare a os bs p) te)(b:PA X es t):PA X (.Compare a os bs p::es) (tCons te t):=DY ha b (by rfl)
theorem Am {a b:Expr}{p:Pos}(ha:PE X (.Subscript a b p) te)(c:PA X es t):PA X (.Subscript a b p::es) (tCons te t):=DY ha c (by rfl)
theorem yt {a b c:Expr}{p:Pos}(ha:PE X (.IfExp a b c p) te)(d:PA X es t):PA X (.IfExp a b c p::es) (tCons te t):=DY ha d (by rfl)
end
inductive ir (h:Heap):Value->Prop
 | none:ir h .none
def Trc (base:Heap)(e:Addr)(c:Value)(d:Option Addr)(g:Value)(h:Heap):Prop:=
 ∃(o a:Obj) (vs b:Array Value) (T:Addr),h.get? e=some o/\o.cls=c/\o.dict=d/\o.data=.fields vs/\vs[1]?=some (.ref T)/\base.get? T=none/\T≠e/\h.get? T=some a/\a.data=.fields b/\b[3]?=some g/\∃f,vs[2]?=some f/\ir h f
def yq (base:Heap)(l:List Env)(e:Addr)(c:Value)(d:Option Addr)(a:Value)(h:Heap):Prop:=
 base.StaysIn h/\base.get? e=none/\h.FunFrames base l/\Trc base e c d a h
theorem ObjOk.some_of {P:YA}{w:World}{H:Hp}{h:Heap}{a:Addr}{o:HO}(x:ObjOk P w H h a o):∃u,h.get? a=some u:=by
 cases o with
 | lst xs=>obtain ⟨_,_,_,_,e⟩:=x;exact ⟨_,e⟩
 | tup xs=>obtain ⟨_,_,_,p⟩:=x;obtain ⟨o,e,_⟩:=p;exact ⟨_,e⟩
 | dK b=>obtain ⟨_,_,_,_,o,_,_,e,_⟩:=x;exact ⟨_,e⟩
 | dT b=>obtain ⟨_,_,_,_,o,_,_,e,_⟩:=x;exact ⟨_,e⟩
 | set i n=>obtain ⟨o,_,_,_,e,_⟩:=x;exact ⟨_,e⟩
 | ins C c fs=>obtain ⟨_,_,_,e,_⟩:=x;exact ⟨_,e⟩
 | own y=>obtain ⟨_,e⟩:=x;exact ⟨_,e⟩
 | xd fs=>obtain ⟨_,⟨_,_,_,e,_⟩,_⟩:=x;exact ⟨_,e⟩
 | rng lo hi=>obtain ⟨_,_,_,e⟩:=x;exact ⟨_,e⟩
 | frz d u=>obtain ⟨e,_⟩:=x;exact ⟨_,e⟩
 | tbl ps=>exact ⟨_,(show h.get? a=some _ from x)⟩
 | met f y=>exact ⟨_,(show h.get? a=some _ from x)⟩
 | ext g=>obtain ⟨_,⟨_,e⟩,_⟩:=x;exact ⟨_,e⟩
theorem HOk.none_of {P:YA}{w:World}{H:Hp}{h:Heap}{a:Addr}(x:HOk P w H h)(e:h.get? a=none):H a=none:=by
 cases q:H a with
 | none=>rfl
 | some o=>
  obtain ⟨u,z⟩:=(x a o q).some_of;rw [e] at z;cases z
def HS (P:YA)(w:World):CXT:=λ outer H s E e s'=>∃(a C:Addr) (d:Option Addr) (c:Hp) (f:Heap),e=.ref a/\s'.os=s.os/\wo s'.gens/\
 (∀b:Heap,f.StaysIn b->s'.heap.UpToSlots b->Un (frs outer) [] H c s.heap b/\HOk P w c b)/\yq f outer a (.ref C) d .none s'.heap/\c a=none/\s.heap.get? a=none/\E (.ref C) d c
section
variable {X:Cx}{pins:List (Addr×Obj)}{σ:St}{H:Hp}{s:U2}
theorem AY7 {c:Hp}{a:Heap}{s':U2}(f:Inv X pins σ H s)(d:s'.os=s.os)(e:wo s'.gens)(u:Un (frs X.stack) [] H c s.heap a/\HOk X.prog X.w c a):Inv X pins σ c { s' with heap:=a }:=
 f.call' (s':={ s' with heap:=a }) (ch:=[]) d u.1 u.2 e λ b z=>nomatch z
end
structure RoomB (c:Bool)(k:Nat)(A:XW):Prop where
 hd:c=true->A.handled=none
 dp:A.depth+3 * k+5 < NX
 un:A.units+16 * k+200 < cLine
theorem RoomB.mono {c:Bool}{j k:Nat}{A:XW}(r:RoomB c k A)(h:j<=k):RoomB c j A:=⟨r.hd,by have:=r.dp;omega,by have:=r.un;omega⟩
theorem RoomB.m {c:Bool}{j k:Nat}{A:XW}(r:RoomB c k A)(h:j<=k:=by decide):RoomB c j A:=r.mono h
theorem RoomB.deeper {c:Bool}{k:Nat}{A:XW}(r:RoomB c (k+1) A)(env:Env):RoomB c k (A.deeper env):=
 ⟨r.hd,by have:=r.dp;show A.depth+1+3 * k+5 < _;omega,by have:=r.un;show A.units+3+16 * k+200 < _;omega⟩
theorem RoomB.depth {c:Bool}{k:Nat}{A:XW}(r:RoomB c k A):A.depth < NX:=by have:=r.dp;omega
theorem RoomB.units {c:Bool}{k:Nat}{A:XW}(r:RoomB c k A):A.units+64 < cLine:=by have:=r.un;omega
theorem Room.b {k:Nat}{A:XW}(r:Room k A):RoomB true k A:=⟨λ _=>r.hd,r.dp,r.un⟩
structure FnB (P:YA)(w:World)(K:FrG)(mg:Str->Option Value)(base:Heap)(c:Bool)(k:Nat)(f:Addr)(fd:UH)(ps:List Str)(sp:Sp):Prop where
 len:∀vs H Q E,sp vs H Q E->vs.length=ps.length
 run:∀(A:XW) (outer:List Env) (s:U2) (H:Hp) (args:Args) (us:List Value) (vs:List V) (Q:VK) (E:XK),RoomB c k A->Env0 P w K mg base A outer s H->Mn s fd args (ps.zip us)->Vals vs us->sp vs H Q E->
  GS (model P w) A (.call (.ref f) args) (CR (HS P w) outer P w H s Q E) s
theorem FnB.ok {P:YA}{w:World}{K:FrG}{mg:Str->Option Value}{base:Heap}{k:Nat}{f:Addr}{fd:UH}{ps:List Str}{sp:Sp}(c:FnB P w K mg base true k f fd ps sp):FnOk P w K mg base (HS P w) k f fd ps sp:=
 ⟨c.len,λ A outer s H args us vs Q E a=>c.run A outer s H args us vs Q E a.b⟩
def Eu (c:Bool)(P:YA)(w:World)(K:FrG)(mg:Str->Option Value)(base:Heap)(N:List Str)(b:Str)(a:Scope)(f:Addr)(cd:Value)(A:XW)(outer:List Env)(s:U2)(H:Hp)(E:XK):Cx:=
 { cxOf (HS P w) P w K mg base N b a f cd A outer s H E with calm:=c }
theorem pO {c:Bool}{P:YA}{w:World}{K:FrG}{mg:Str->Option Value}{base:Heap}{N ps:List Str}{j:Str}{d:Scope}{f:Addr}{cd:Value}{A:XW}{outer:List Env}{s D:U2}{H:Hp}{E:XK}{us:List Value}{vs:List V}
  (C:FnScope N ps d) (hd:c=true->A.handled=none) (e0:Env0 P w K mg base A outer s H) (hl:vs.length=ps.length) (r:Vals vs us)
  (x:InCallC s s.heap.objs.size (bindL (wq j d s.heap.objs.size f cd).kindOf (ps.zip us) λ _=>none) (cellsFrom (s.heap.objs.size+1) d.names []) (bindC (wq j d s.heap.objs.size f cd).kindOf (ps.zip us) λ _=>none) D):
  Inv (Eu c P w K mg base N j d f cd A outer s H E) [] (start N vs) H D:=by
 have J:ps.length<=N.length:=by have:=congrArg JU C.pre;rw [YG] at this;omega
 obtain ⟨t,tk,rfl,F⟩:=x.done;have m:∀b:Addr,b∉(Eu c P w K mg base N j d f cd A outer s H E).ex:=λ b z=>absurd (show b∈([]:List Addr) from z) (by simp)
 refine ⟨⟨e0.mod,C.kind,rfl,rfl,ZY _,λ y z c t g=>?_,λ y l=>?_,λ y c _ h=>?_,λ z=>hd z,XW.frames_deeper e0.frames,.inr ⟨rfl,rfl⟩,λ b z=>absurd z (m b),e0.bs,e0.bsz,λ b _ _=>m b,λ b z=>absurd z (m b),e0.funs,e0.frf⟩,
  rfl,e0.bare,Un.kept F,⟨_,x.toInCall.ns,λ i y v t g L=>?_⟩,λ y c h=>⟨_,x.cell y c h⟩,e0.hok.fresh (ZY _),λ y c h=>?_,λ p o=>absurd (show p∈([]:List (Addr×Obj)) from o) (by simp),e0.hok.kept F,?_⟩
 ·exact name_of_addr x.apart (WU t) (WU g)
 ·have l:d.names.lookup y=some .cell\/d.names.lookup y=some .free:=l;rcases l with l | l
  ·exact aM l
  ·exact absurd rfl (C.nofree _ (WU l))
 ·exact XG (x.above y c (WU h))
 ·have hi:i < vs.length:=by
   unfold start at g;by_cases hi:i < vs.length
   ·exact hi
   ·rw [Qx (by simpa using hi)] at g
    rw [List.getElem?_replicate] at g
    split at g<;>cases g
  have ha:vs[i]?=some v:=by
   unfold start at g;rw [UD (by simpa using hi),Yf] at g
   cases e:vs[i]? with
   | none=>rw [e] at g;cases g
   | some a=>rw [e] at g;cases g;rfl
  obtain ⟨u,G,I⟩:=r.get ha;have o:ps[i]?=some y:=by
   rw [<- C.pre,GY ∅];exact t
  have B:ps.Nodup:=by rw [<- C.pre];exact C.nd.sublist (List.take_sublist _ _)
  refine ⟨u,I,?_⟩;rcases C.par y (ZI o) with k | k
  ·exact .inl ⟨k,j7 B o G k⟩
  ·obtain ⟨c,e⟩:=aM (n:=s.heap.objs.size+1) k;refine .inr ⟨.inl k,c,e,?_⟩;have q:=x.cell y c e;rw [fY B o G (by show d.names.lookup y≠_;rw [k];decide)] at q
   exact q
 ·exact e0.hok.fresh (XG (x.above y c (WU h)))
 ·unfold start;show _=N.length;rw [X9,Y2,wt];omega
theorem NT {c:Bool}{P:YA}{w:World}{K:FrG}{mg:Str->Option Value}{base:Heap}{k:Nat}{f:Addr}{name d:Str}{h:Arguments}{j:List Stmt}{a:Scope}{J kV B L g ct X:Value}{M Y:Option Addr}
  {O:Array (Option Value)} {N ps:List Str} {sp:Sp} (Z:K.lookup f=some ⟨X,Y,.func (YP name d h j a J kV B L M g ct),O⟩) (R:XA K g d=true) (S:FnScope N ps a)
  (len:∀vs H Q E,sp vs H Q E->vs.length=ps.length)
  (p:∀(A:XW) (outer:List Env) (s:U2) (H:Hp) (vs:List V) (Q:VK) (E:XK),RoomB c k (A.deeper (wq d a s.heap.objs.size f g))->sp vs H Q E->
   ∃t,PSs (Eu c P w K mg base N d a f g A outer s H E) j t/\t { nx:=λ _ i=>Q .non i,rt:=Q } (start N vs) H):
  FnB P w K mg base c (k+1) f (YP name d h j a J kV B L M g ct) ps sp:=by
 refine ⟨len,λ A outer s H args us vs Q E G e0 hb r C=>?_⟩
 have hl:=len _ _ _ _ C;have T:K.In s.heap:=e0.mod.kin.keeps λ b o e=>(e0.bs b o e).1
 have lim:s.heap.NoLimit:=e0.mod.nolimit.keeps λ b o e=>(e0.bs b o e).1
 have z:∀y∈ps.zip us,a.names.lookup y.1=some .local\/(a.names.lookup y.1=some .cell/\((cellsFrom (s.heap.objs.size+1) a.names []).lookup y.1).isSome=true):=λ ⟨n,v⟩ a0=>by
  rcases S.par n (Nq a0).1 with q | q
  ·exact .inl q
  ·exact .inr ⟨q,FK _ _ _ (.inl q)⟩
 refine codeAny_call_function G.depth (T _ _ Z) rfl S.co S.gen rfl (PySem.W.codeRec_of T R) (hb _ _ _ _ ?_);refine wpAny_newFunctionEnv_cells S.kind z λ env he U x=>?_
 subst he;refine ⟨lim.keeps x.toInCall.keep,codeAny_func ?_⟩;obtain ⟨t,a1,a2⟩:=p A outer s H vs Q E (G.deeper _) C;have a4:Inv (Eu c P w K mg base N d a f g A outer s H E) [] (start N vs) H U:=pO S G.hd e0 hl r x;refine UZ (a1 [] U (start N vs) H _ a4 a2) (λ a3 s' m=>?_) λ e s' m=>m
 have D:∀{l:St} {i:Hp} {v:V} {u:Value},Inv (Eu c P w K mg base N d a f g A outer s H E) [] l i s'->RelV v u->Q v i->CE outer P w H s Q u s':=
  λ {l i v u} F I q=>⟨v,i,F.os,F.bare,F.base,F.hok,I,q⟩
 cases a3 with
 | ret u=>
  obtain ⟨v,l,i,F,I,q⟩:=m;exact D F I q
 | next=>
  obtain ⟨l,i,F,q⟩:=m;exact D (v:=V.non) (u:=FH) F rfl q
 | brk=>
  obtain ⟨_,_,_,q⟩:=m;exact UI q
 | cont=>
  obtain ⟨_,_,_,q⟩:=m;exact UI q
structure CalB (P:YA)(w:World)(K:FrG)(mg:Str->Option Value)(base:Heap)(c:Bool)(k:Nat)(x:Str)(ps:List Str)(sp:Sp):Prop where
 ex:∃(f:Addr) (fd:UH),FnB P w K mg base c k f fd ps sp/\mg x=some (.ref f)/\YE K (.ref f)=true/\Binds K fd ps []
theorem TopFn.calB {c:Bool}{P:YA}{w:World}{K:FrG}{mg:Str->Option Value}{base:Heap}{x:Str}{st:Stmt}{N ps:List Str}{k:Nat}{sp:Sp}(T:TopFn K mg x st)(n:FnScope N ps (defScope st))
  (hb:∀(kV d e:Value) (g:Option Addr) (a ct:Value) (us:List Value),us.length=ps.length->ut (YP x x (defArgs st) (defBody st) (defScope st) .none kV d e g a ct) ⟨us,[]⟩=pure (ps.zip us))
  (len:∀vs H Q E,sp vs H Q E->vs.length=ps.length)
  (b:∀(f:Addr) (a:Value) (A:XW) (outer:List Env) (s:U2) (H:Hp) (vs:List V) (Q:VK) (E:XK),RoomB c k (A.deeper (wq x (defScope st) s.heap.objs.size f a))->sp vs H Q E->
   ∃t,PSs (Eu c P w K mg base N x (defScope st) f a A outer s H E) (defBody st) t/\t { nx:=λ _ h=>Q .non h,rt:=Q } (start N vs) H):CalB P w K mg base c (k+1) x ps sp:=by
 obtain ⟨f,fd,i,j⟩:=T.ex;obtain ⟨o,p,kV,d,e,g,a,ct,m,rfl,l,cd⟩:=id i.ex;exact ⟨f,_,NT l cd n len (b f a),j,i.kp,i.binds hb⟩
theorem Af {P:YA}{w:World}{X:Cx}:Passes (HS P w) X E0:=λ _ _ _ _ _ _ _ h=>by
 obtain ⟨_,_,_,_,_,_,_,_,_,_,_,_,q⟩:=h;exact q.elim
section
variable {X:Cx}{c:Bool}{k:Nat}{ps:List Str}{sp:Sp}{x:Str}{p pos:Pos}{e:Expr}{es:List Expr}{t:TA}{E:XK}
theorem TF {a:List (Addr×Obj)}{d:St}{H:Hp}{s:U2}{Q:VK}{us:List Value}{vs:List V}{f:Addr}{fd:UH}{g:Value->U2->Prop}(o:FnB X.prog X.w X.K X.mg X.base c k f fd ps sp)(j:RoomB c k X.A)(hb:Binds X.K fd ps [])
  (l:Inv X a d H s) (r:Vals vs us) (h:sp (vs++[]) H Q E) (m:∀e s',HS X.prog X.w X.stack H s E e s'->g e s'):wpAny (model X.prog X.w) X.A (call (.ref f) us) (EP X a d Q) g s:=by
 have i:Vals (vs++[]) (us++[]):=r.append .nil;have hl:(us++[]).length=ps.length:=by rw [<- i.length];exact o.len _ _ _ _ h
 refine wpAny_call (jF (o.run X.A X.stack s H ⟨us,[]⟩ (us++[]) (vs++[]) Q E j l.env0 (hb s us l.kIn hl) i h) λ r s' b=>?_)
 cases r with
 | error e=>exact m e s' b
 | ok n=>
  cases n with
  | ret u=>exact l.after b
  | next=>exact UI b
  | brk=>exact UI b
  | cont=>exact UI b
theorem Ag (C:CalB X.prog X.w X.K X.mg X.base c k x ps sp)(j:RoomB c k X.A)(l:Passes (HS X.prog X.w) X E)(ha:PA X (e::es) t)(m:Gl X x:=by rfl)(d:(x == ("__debug__":Str))=false:=by decide)
  (he:XE (e::es) X.env=(false,eval e X.env)::XE es X.env:=by rfl) (g:(yT pos (XE es X.env)).any (·.1)=false:=by rfl):
  PE X (.Call (.Name x p) (e::es) [] pos) (tCall sp [] E t):=by
 obtain ⟨f,fd,z,n,o,hb⟩:=C.ex;intro a s i H Q u h;refine QI (Kc u m n ?_ d);refine ya (h₀:=X.base) u.ok.mod.kin o (thn (ha pos a s i H _ u h) λ us v ⟨vs,y,b,r,q⟩=>⟨b.kIn,?_⟩) he g
 exact TF z j hb b r q λ e s' h=>l a i y v e s' b h
end
section
variable {X:Cx}{pins:List (Addr×Obj)}{σ:St}{H:Hp}{s:U2}
theorem PA.any {es:List Expr}{t:TA}(h:PA X.nox es t){a:Value->U2->Prop}(pos:Pos){Q:List V->Hp->Prop}(e:Inv X pins σ H s)(q:t σ H Q):
  wpAny (model X.prog X.w) X.A (spliced (yT pos (XE es X.env))) (AP X pins σ Q) a s:=
 UZ (h pos pins s σ H Q (e.wish _) q) (λ us f ⟨vs,b,c,r,d⟩=>⟨vs,b,c.unwish,r,d⟩) λ _ _ z=>z.elim
end
end L2
namespace L2
open PySem PySem.Spec PySem.Calls PyProof.Rows PySem.W Builtin Builtin.ObjectAttr Builtin.Getset_descriptor
end L2
namespace L2
open PySem PySem.Spec PyProof.Rows PySem.Builtin PySem.Builtin.Str
section
variable {X:Cx}
inductive Ae7 (x:V)(vs:List V)(H:Hp)(Q:VK):Prop | mk (i j:_) (_:x=.str i) (_:vs=[.str j]) (_:Q (.bl (ql i j)) H)
theorem vh:MtM X "str.startswith" Ae7:=by
 intro a s e H x vs v us Q f b c h;obtain ⟨i,j,rfl,rfl,q⟩:=h;obtain ⟨t,rfl⟩:=b;obtain ⟨u,rfl,d⟩:=c.one;obtain ⟨t',rfl⟩:=d;exact SC.startswith ⟨.bl _,H,f,rfl,q⟩
theorem T9:∀(l:List (Str×Tok)),Vals ((l.map (·.1)).map V.str) (strValues l)
 | []=>.nil
 | p::r=>.cons ⟨p.2,rfl⟩ (T9 r)
inductive AI7 (x:V)(vs:List V)(H:Hp)(Q:VK):Prop | mk (i j:_) (_:x=.str i) (_:vs=[.str j]) (_:(j.length == 0)=false) (_:i.length+2<=Y3) (_:∀p,H p=none->Q (.ref p) (upd H p (.lst ((Xt i j).map V.str))))
theorem Hw:MtM X "str.split" AI7:=by
 intro c s f H x vs v us Q o g k h;obtain ⟨i,j,rfl,rfl,d,hz,q⟩:=h;obtain ⟨t,rfl⟩:=g;obtain ⟨u,rfl,m⟩:=k.one;obtain ⟨t',rfl⟩:=m;have n:(xi i (Wp i j 0 i.length (i.length+1)) j.length).length<=Y3:=by
  have e1:=StrLaws.occ_length_le i j 0 i.length (i.length+1);rw [length_partsBetween];omega
 have b:∀(l:List (Str×Tok)) (tk:Nat),l.map (·.1)=Xt i j->l.length<=Y3->EP X c f Q (.ref s.heap.objs.size) { s with heap:=s.heap.push { cls:=.type "list",data:=.seq (strValues l).toArray },toks:=tk }:=λ l tk e hl=>by
  refine ⟨.ref s.heap.objs.size,_,?_,rfl,q _ o.fresh⟩;rw [<- e];exact o.lnew (T9 l) (by rw [Y2,Y2];exact hl)
 cases a:(decide (i.length < j.length) || decide (strKind i < strKind j))
 ·cases hf:(Wp i j 0 i.length (i.length+1)).isEmpty
  ·refine xI XV (wR _ _ _) GE (qn _ _) (meets_str_split_sep i j t t' a d hf ∅ n) ?_
   show wants _ _ _ { s with toks:=_,heap:=s.heap.push { cls:=.type "list",data:=.seq (strsFrom s.toks (xi i (Wp i j 0 i.length (i.length+1)) j.length)).toArray } }
   rw [strsFrom_eq];refine b (numbered s.toks _) _ ((Mb _ _).trans ((if_neg (ne_true_of_eq_false a)).trans (if_neg (ne_true_of_eq_false hf))).symm) ?_;have:=congrArg JU (Mb s.toks (xi i (Wp i j 0 i.length (i.length+1)) j.length));rw [Y2] at this;omega
  ·exact xI XV (wR _ _ _) GE (qn _ _) (meets_str_split_not_found i j t t' a d hf)
    (b [(i,t)] s.toks ((if_neg (ne_true_of_eq_false a)).trans (if_pos hf)).symm (by show 1<=Y3;decide))
 ·exact xI XV (wR _ _ _) GE (qn _ _) (meets_str_split_cannot_occur i j t t' a)
   (b [(i,t)] s.toks (if_pos a).symm (by show 1<=Y3;decide))
inductive vI (x:V)(lo:Option Int)(hi:Option Int)(H:Hp)(Q:VK):Prop | mk (z:_) (_:x=.str z) (_:z.length<=Y3) (_:Q (.str (Ug z lo hi)) H)
theorem O8:SlR X vI:=by
 intro d s m H x v r w lo hi y Q A n p pl f h;obtain ⟨z,rfl,hz,q⟩:=h;obtain ⟨t,rfl⟩:=n;refine ⟨"str",_,F.slot_str_getitem.lookup,wR _ _ _,?_⟩;obtain ⟨o,c,hc,hd⟩:=p;have a:∀t' k,EP X d m Q (.str (Ug z lo hi) t') { s with toks:=k }:=λ t' k=>⟨.str _,H,A.tok _,⟨t',rfl⟩,q⟩
 have b:=ZE (Txt.slice_le z lo hi) hz;cases pl with
 | none=>
  cases f with
  | none=>exact zD (l:=none) (u:=none) (st:=none) ⟨o,c,hc,hd⟩ rfl (ja ⟨b,a⟩)
  | int j e=>exact zD (l:=none) (u:=some (j,e)) (st:=none) ⟨o,c,hc,hd⟩ rfl (ja ⟨b,a⟩)
 | int i g=>
  cases f with
  | none=>exact zD (l:=some (i,g)) (u:=none) (st:=none) ⟨o,c,hc,hd⟩ rfl (ja ⟨b,a⟩)
  | int j e=>exact zD (l:=some (i,g)) (u:=some (j,e)) (st:=none) ⟨o,c,hc,hd⟩ rfl (ja ⟨b,a⟩)
def PJ (X:Cx)(es:List Expr)(t:Str->St->Hp->VK->Prop):Prop:=
 ∀(b:Str) (a:List (Addr×Obj)) (s:U2) (c:St) (H:Hp) (Q:VK),Inv X a c H s->t b c H Q->wpAny (model X.prog X.w) X.A (joinParts b (evalEach es X.env)) (EP X a c Q) X.xe s
def zA (x:V)(y:Str):Prop:=(∃i:Int,x=.int i/\i.natAbs.log2 < 1920/\y=((toString i:String):Str))\/(x=.str y/\y.length<=Y3)
variable {a:Expr}{ta:TE}{es:List Expr}{tr:Str->St->Hp->VK->Prop}{p pos:Pos}
theorem Aa1:PJ X [] (λ b _ H Q=>b.length<=Y3/\Q (.str b) H):=λ b _ s c H Q d h=>joinParts_nil ⟨.str b,H,d.tok _,⟨_,rfl⟩,h.2⟩ h.1
theorem gH (ha:PE X a ta)(f:PJ X es tr):PJ X (.FormattedValue a (-1) none p::es) (λ d c H Q=>ta c H λ x e=>∃y,zA x y/\(d++y).length<=Y3/\tr (d++y) c e Q):=by
 intro d b s c H Q l h;refine joinParts_cons (FormattedValue_plain (thn (ha b s c H _ l h) λ v m ⟨x,e,g,j,y,k,hz,q⟩=>?_))
 rcases k with ⟨i,rfl,hl,rfl⟩ | ⟨rfl,hl⟩
 ·obtain ⟨t,rfl⟩:=j;exact formatField_int_small hl ⟨hz,f _ b _ c e Q (g.tok _) q⟩
 ·obtain ⟨t,rfl⟩:=j;exact formatField_str (λ t' tk=>⟨hz,f _ b _ c e Q (g.tok _) q⟩) hl
theorem Aa8 {z:Str}{k:Nat}(e:PJ X es tr):PJ X (.Constant (.str z) k p::es) (λ b c H Q=>(b++z).length<=Y3/\tr (b++z) c H Q):=by
 intro b d s c H Q f h;exact joinParts_cons (Calls.Constant_str ⟨h.1,e _ d _ c H Q (f.tok _) h.2⟩)
theorem Ac8 {e1 e2:Expr}{t:Str->St->Hp->VK->Prop}(h:PJ X (e1::e2::es) t):PE X (.JoinedStr (e1::e2::es) pos) (t uQ):=λ b s c H Q d q=>JoinedStr_many (h _ b s c H Q d q)
inductive AU4 (xs:List V)(H:Hp)(Q:VK):Prop | mk (x n:_) (_:xs=[.str x]) (_:x.length<=640) (_:wf x=some n) (_:Q (.int n) H)
theorem Yl:CallR X (.type "int") AU4:=by
 intro b s e H xs us Q f r h;obtain ⟨x,n,rfl,hl,c,q⟩:=h;obtain ⟨u,rfl,d⟩:=vals1 r;obtain ⟨t,rfl⟩:=d;exact call_int_1 (PySem.W.KIN.gives_text hl c).meets ⟨rfl,⟨.int n,H,f.tok _,⟨_,rfl⟩,q⟩⟩
theorem Np (hc:X.calm=true):CallR X (.builtin "all") (λ xs H Q=>∃(p:Addr) (bs:List Bool),xs=[.ref p]/\SqL X.K H p (bs.map V.bl)/\Q (.bl (bs.all id)) H):=by
 intro n s B H xs us Q t r h;obtain ⟨p,bs,rfl,g,q⟩:=h;obtain ⟨u,rfl,d⟩:=vals1 r;cases d
 obtain ⟨its,f,pl,hz⟩:=t.list g;have c:its.toArray.size=bs.length:=by
  have:=f.length;rw [Y2] at this;rw [Yg];exact this.symm
 have j:p < s.heap.objs.size:=by
  obtain ⟨o,e,_⟩:=pl.isList;exact Yo e
 have w:X.A.in1.handled=none:=t.ok.hd hc;refine call_all_walk (GN pl.isList ⟨s.heap.objs.size,_,_,_,_,_,λ i=>bs.getD i false,rfl,Walks.list w s.heap.objs.size p (XO j) its.toArray,⟨⟨_,XM _ rfl,rfl,rfl⟩,pl.isList.push _⟩,?_,λ h' tk k=>?_⟩)
 ·intro i v C D E x y;have l:its[i]?=some v:=by simpa using x
  have hb:bs[i]?=some (bs.getD i false)/\RelV (.bl (bs.getD i false)) v:=by
   have hi:i < bs.length:=by
    have:=(YL.mp l).1;rw [<- c,Yg];exact this
   have e1:(bs.map V.bl)[i]?=some (.bl (bs.getD i false)):=by
    rw [Yf,QA,Yi hi];rfl
   obtain ⟨u,m,d⟩:=f.get e1;rw [l] at m;cases m
   refine ⟨?_,d⟩;rw [QA,Yi hi];rfl
  obtain ⟨_,d⟩:=hb;cases d
  exact Ja y
 ·have e:(WC its.toArray.size).all (λ i=>bs.getD i false)=bs.all id:=by
   rw [c];clear c f q k g hz
   induction bs with
   | nil=>rfl
   | cons b r z=>
    rw [X2,FS,GV,MW,GV,<- z];rfl
  rw [e];exact ⟨.bl _,H,t.kept (h':=h') (t':=tk) λ b o e=>k b o (by
   intro hb;have:b=s.heap.objs.size:=by simpa using hb
   exact absurd (Yo e) (by rw [this];exact yA _)) (ZO _ e),rfl,q⟩
end
theorem kJ {b:Str}:∀{vs:List Value} {zs:List Str} {a:List Value},AreOf .str vs zs->xo (λ v r=>∃z t,v=.str z t/\r=.bool (!(Wp b z 0 b.length 1).isEmpty)) vs a->
  Vals (zs.map λ z=>V.bl (!(Wp b z 0 b.length 1).isEmpty)) a
 | _,_,_,.nil,r=>by cases r;exact .nil
 | _,_,_,.cons h c,r=>by
  cases r with
  | cons d f=>
   obtain ⟨t,rfl⟩:=h;obtain ⟨z,t',e,rfl⟩:=d;cases e
   exact .cons rfl (kJ c f)
section
variable {X:Cx}
theorem Inv.laidN {d:List (Addr×Obj)}{g:St}{H:Hp}{s:U2}{a:Addr}{o:HO}{h':Heap}{tk:Nat}(j:Inv X d g H s)(k:∀b u,s.heap.get? b=some u->h'.get? b=some u)(h:s.heap.get? a=none)
  (i:ObjOk X.prog X.w (upd H a o) h' a o):Inv X d g (upd H a o) { s with heap:=h',toks:=tk }:=by
 have f:H a=none:=j.hok.none_of h;refine AY7 (s':={ s with heap:=h',toks:=tk }) j rfl j.bare ⟨⟨λ b u e _ _ _=>k b u e,λ b u e _ _ _=>⟨u.slots,k b u e⟩,λ b u e n _=>?_,λ b u e _=>⟨u,k b u e⟩,λ b xs e=>?_,λ b u x e=>?_,λ b ps e=>?_⟩,λ b u e=>?_⟩
 ·have:b≠a:=λ z=>by rw [z,h] at e;cases e
  rw [BP this];exact n
 ·rw [BP (Bt e f)];exact e
 ·rw [BP (Bt e f)];exact e
 ·exact ⟨#[],by rw [BP (Bt e f),Array.append_empty];exact e⟩
 ·by_cases hb:b=a
  ·subst hb;rw [Aq] at e;cases e
   exact i
  ·rw [BP hb] at e;exact (j.hok b u e).stay (λ c v _ q=>k c v q) (λ c q=>by rw [BP (Bt q f)];exact q) λ c xs q=>by rw [BP (Bt q f)];exact q
theorem fW {x R:Str}{a6 a7 S a8 pos:Pos}{iter:Expr}{T:TE}{d:Scope}{F:Str}{a9:Tok}(hc:X.calm=true)(hi:PE X iter T)(b0:X.mg R=some (.str F a9))
  (B:∀y∈d.names,y.2≠.free) (hcell:∀y∈d.names,y.2≠.cell) (j:d.kind=.function) (w:∀y∈d.names,y.2=.local->d.names.lookup y.1=some .local)
  (U:d.names.lookup x=some .local) (b1:d.names.lookup R=some .globalImplicit) (hd:(x == ("__debug__":Str))=false) (W:(R == ("__debug__":Str))=false) (b2:∀x,ze iter X.env x=pure x:=by intro _;rfl) (Y:xr .In (.Name R S)=false:=by rfl):
  PE X (.ListComp (.Compare (.Name x a7) [.In] [.Name R S] a8) [⟨.Name x a6,iter,[],0⟩] d pos)
   (λ G H Q=>T G H λ v I=>∃y,v=.str y/\y.length<=Y3/\∀p,I p=none->Q (.ref p) (upd I p (.lst ((signs y).map λ z=>V.bl (!(Wp F z 0 F.length 1).isEmpty))))):=by
 intro J s G H Q c0 h;refine wpAny_ListComp_walk (λ _=>true) (λ v r=>∃z t,v=.str z t/\r=.bool (!(Wp F z 0 F.length 1).isEmpty)) B hcell j w U (thn (hi J s G H _ c0 h) λ c1 g ⟨v,I,n,b3,y,e,hz,q⟩=>?_) b2
 subst e;obtain ⟨t,rfl⟩:=b3;refine wpAny_pyIter_str λ o St c2 Z=>?_
 have up:∀(h':Heap),(∀b l,b∉[g.heap.objs.size]->(g.heap.push o).get? b=some l->h'.get? b=some l)->∀b l,g.heap.get? b=some l->h'.get? b=some l:=
  λ h' K b l e=>K b l (old_not_new e) (ZO _ e)
 refine ⟨g.heap.objs.size,[g.heap.objs.size],[g.heap.objs.size],y.cps.size,SignAt y,St,rfl,c2 X.A (n.ok.hd hc),hz,Z,?_,⟨?_,?_⟩,?_⟩
 ·intro b hb;show b < (g.heap.push o).objs.size;rw [qb,X8.mp hb];exact wx _
 ·intro C i v f L b4 D a0 E _ _;exact Ya ⟨rfl,f.heap,f.toks,rfl,λ _ _ e=>e⟩
 ·intro C i v f L b4 D c3 a0 E k _;obtain ⟨c,u,b8,rfl⟩:=D;have ns:f.heap.Ns ZL X.mg:=(n.mod.glob.keeps n.bk).keeps (up f.heap k);refine wpAny_Compare1 (wpAny_Name (ul j U a0 E ?_) hd) Y;refine xa j b1 (Fm (by show f.heap.Ns X.env.globals X.mg;rw [n.ok.glob];exact ns) b0 ?_) W
  exact in_str ⟨⟨_,_,rfl,rfl⟩,f.heap,f.toks,rfl,λ _ _ e=>e⟩
 ·intro M h' tk a1 vs N b9 O P D a2 K;have a3:g.heap.get? M=none:=by
   cases e:g.heap.get? M with
   | none=>rfl
   | some b5=>
    have z:(g.heap.push o).get? M=some b5:=ZO _ e;have m:(g.heap.push o).get? M=none:=N;rw [z] at m;cases m
  have a4:xo (λ v r=>∃z t,v=.str z t/\r=.bool (!(Wp F z 0 F.length 1).isEmpty)) vs a1.toList:=by
   rw [List.filter_eq_self.mpr (λ _ _=>rfl)] at a2
   exact a2
  have b6:=kJ (areOf_signs P D) a4;obtain ⟨b7,a5⟩:=O;refine ⟨.ref M,_,n.laidN (a:=M) (o:=.lst _) (tk:=tk) (up h' K) a3 ⟨?_,a1.toList,b7,b6,?_⟩,rfl,q M (n.hok.none_of a3)⟩
  ·rw [Y2,signs_length];exact hz
  ·rw [a5]
end
end L2
namespace Tx
open PySem PySem.Builtin PySem.Builtin.Str PySem.NumText PyProof.Rows
abbrev cl (x:Y1):List Nat:=x.cps.toList
theorem ext {x y:Y1}(h:cl x=cl y):x=y:=Y1.ext' (Array.toList_inj.mp h)
theorem By (x y:Y1):cl (x++y)=cl x++cl y:=PySem.W.KT.app_list x y
theorem Du (x:Y1):(cl x).length=x.length:=UF
def dg (m:Nat):List Nat:=(FT 10 m).map Char.toNat
theorem HW (m:Nat):Mp (dg m):=by
 intro c hc;obtain ⟨ch,a,e⟩:=UC.mp hc;have r:=digit_range (Nat.isDigit_of_mem_toDigits ⋯ ⋯ a)
 rw [<- e];exact r
theorem Oo (m:Nat):dg m≠[]:=by
 intro e;have h:=toDigits_len_ge 10 m;rw [xl.mp e] at h;exact absurd h ⋯
theorem Xp (m:Nat):digitsVal (dg m)=m:=PySem.W.KIN.val_back m
theorem Kv (i:Int):cl (Z7 (toString i))=(if i < 0 then [45] else [])++dg i.natAbs:=by
 cases i with
 | ofNat m=>
  rw [if_neg (by show ¬ ((m:Int) < 0);omega)]
  exact PySem.W.KIN.signs_num m
 | negSucc m=>
  rw [if_pos ∅,cl,signs_ofString]
  show (("-"++Nat.repr (m+1)).toList.map Char.toNat)=_;rw [String.toList_append,ZB,Nat.toList_repr];rfl
def sh (q:Rat):List Nat:=(if q.num < 0 then [45] else [])++dg q.num.natAbs++(if q.den=1 then [] else 47::dg q.den)
def Ay (q:Rat):Y1:=⟨(sh q).toArray⟩
theorem Iv (q:Rat):cl (Ay q)=sh q:=zv
def cut (c:Nat):List Nat->List (List Nat)
 | []=>[[]]
 | a::r=>if a=c then []::cut c r else match cut c r with
  | []=>[[a]]
  | p::ps=>(a::p)::ps
theorem K9 {c:Nat}:∀{p:List Nat},c∉p->cut c p=[p]
 | [],_=>rfl
 | a::r,h=>by
  have b:a≠c:=λ e=>h (e▸ZA ..)
  have d:c∉r:=λ e=>h (W1 _ e)
  unfold cut;rw [if_neg b,K9 d]
theorem JB {c:Nat}(r:List Nat):∀{p:List Nat},c∉p->cut c (p++c::r)=p::cut c r
 | [],_=>by
  show cut c (c::r)=_;rw [cut,if_pos rfl]
 | a::p,h=>by
  have b:a≠c:=λ e=>h (e▸ZA ..)
  have d:c∉p:=λ e=>h (W1 _ e)
  show cut c (a::(p++c::r))=_;rw [cut,if_neg b,JB r d]
theorem Px {c:Nat}:∀{ps:List Y1},ps≠[]->(∀p∈ps,c∉cl p)->cut c (cl (Yk ⟨#[c]⟩ ps))=ps.map cl
 | [],h,_=>absurd rfl h
 | [p],_,h=>by
  rw [join_one,K9 (h p (ZA ..))];rfl
 | p::q::r,_,h=>by
  rw [join_cons_cons,By,By];show cut c (cl p++[c]++cl (Yk ⟨#[c]⟩ (q::r)))=_;rw [XB];show cut c (cl p++c::cl (Yk ⟨#[c]⟩ (q::r)))=_;rw [JB _ (h p (ZA ..)),Px (by simp) λ p a=>h p (W1 _ a)]
  rfl
theorem KD (x:Y1)(c:Nat):(Xt x ⟨#[c]⟩).map cl=cut c (cl x):=by
 have a:=split_pos x ⟨#[c]⟩;have b:=Px (c:=c) (ps:=Xt x ⟨#[c]⟩) (λ e=>by rw [e] at a;exact absurd a ⋯) (StrLaws.split_free x c)
 rw [ML] at b;exact b.symm
theorem Af8 (x:Y1)(c:Nat):ql x ⟨#[c]⟩=decide ((cl x).head?=some c):=by
 obtain ⟨⟨l⟩⟩:=x;cases l with
 | nil=>rfl
 | cons a r=>
  show (decide (0+1<=(a::r).toArray.size) && ((a::r).toArray.extract 0 (0+1) == #[c]))=decide (some a=some c);by_cases h:a=c
  ·subst h;simp
  ·simp [h]
theorem aD:∀r:List Nat,(WC r.length).filterMap (λ k=>r[k]?)=r
 | []=>rfl
 | a::r=>by
  rw [X2,FS,List.filterMap_cons_some (by rfl),qf]
  show a::(WC r.length).filterMap (λ k=>r[k]?)=_
  rw [aD r]
theorem AY6 (x:Y1):cl (Ug x (some 1) none)=(cl x).drop 1:=by
 obtain ⟨⟨l⟩⟩:=x;cases l with
 | nil=>rfl
 | cons a r=>
  have e:jd (some 1) none 1 (r.length+1)=(WC r.length).map (·+1):=by
   unfold jd sliceRange;simp only [show (1:Int) > 0 by decide,if_true]
   have b:max 0 (min (if (1:Int) < 0 then 1+((r.length+1:Nat):Int) else 1) ((r.length+1:Nat):Int))=1:=by
    rw [if_neg ⋯]
    omega
   rw [b];have c:(if (1:Int) < ((r.length+1:Nat):Int) then (((r.length+1:Nat):Int) - 1+1 - 1) / 1 else 0).toNat=r.length:=by
    split<;>simp<;>omega
   rw [c]
   apply jp
   intro k _;omega
  have hl:(US (a::r).toArray).length=r.length+1:=by
   show (a::r).toArray.size=_;simp
  show cl (Ug (US (a::r).toArray) (some 1) none)=r;unfold Ug;rw [hl,e];rw [if_neg (by simp)]
  show ((((WC r.length).map (·+1)).filterMap (λ k=>(a::r).toArray[k]?)).toArray).toList=r
  rw [zv,qf];have:((λ k=>(a::r).toArray[k]?) ∘ λ x=>x+1)=λ k=>r[k]?:=by
   funext k
   simp
  rw [this,aD]
theorem AO4 (c:Nat):(!(Wp (Z7 "0123456789") ⟨#[c]⟩ 0 (Z7 "0123456789").length 1).isEmpty)=decide (48<=c/\c<=57):=by
 rw [StrLaws.found_one,signs_ofString];show decide (c∈[48,49,50,51,52,53,54,55,56,57])=_
 apply decide_eq_decide.mpr
 simp only [X1,ZN,or_false];omega
end Tx
namespace Fr
theorem P0 (i:Int):(if i < 0 then -i else i)=(i.natAbs:Int):=by omega
theorem bD (m n:Nat):GG n (m % n)=GG m n:=by
 rw [MX n (m % n),<- Nat.gcd_rec n m,MX]
def gcd (a b:Int):Int:=((GG a.natAbs b.natAbs:Nat):Int)
theorem jA (a b:Int):0<=gcd a b:=Int.natCast_nonneg _
theorem Zk {a b:Int}(h:b≠0):0 < gcd a b:=by
 unfold gcd;have:0 < GG a.natAbs b.natAbs:=Nat.gcd_pos_of_pos_right _ ∅
 omega
theorem iM {a b:Int}(h:b≠0):gcd a b<=(b.natAbs:Int):=by
 unfold gcd;have:GG a.natAbs b.natAbs<=b.natAbs:=Nat.gcd_le_right _ ∅
 omega
theorem Yd (a b:Int):gcd a b ∣ a:=by
 unfold gcd;exact Int.ofNat_dvd_left.mpr (Nat.gcd_dvd_left _ _)
theorem nu (a b:Int):gcd a b ∣ b:=by
 unfold gcd;exact Int.ofNat_dvd_left.mpr (Nat.gcd_dvd_right _ _)
def sg (t b:Int):Int:=if b < 0 then 0 - gcd t b else gcd t b
def lt (t b:Int):Int:=t.fdiv (sg t b)
def lb (t b:Int):Int:=b.fdiv (sg t b)
theorem Js {t b:Int}(h:b≠0):sg t b≠0:=by
 unfold sg;have:=Zk (a:=t) h
 split<;>omega
theorem YB {t b:Int}:(sg t b).natAbs=(gcd t b).natAbs:=by
 unfold sg
 split<;>omega
theorem Aj0 (t b:Int):sg t b ∣ t:=by
 unfold sg
 split
 ·rw [FU];exact Int.neg_dvd.mpr (Yd t b)
 ·exact Yd t b
theorem pP (t b:Int):sg t b ∣ b:=by
 unfold sg
 split
 ·rw [FU];exact Int.neg_dvd.mpr (nu t b)
 ·exact nu t b
theorem jg {a b:Int}(h:b ∣ a):a.fdiv b * b=a:=by
 rw [Int.fdiv_eq_ediv_of_dvd h];exact Int.ediv_mul_cancel h
theorem Yy (t b:Int):lt t b * sg t b=t:=jg (Aj0 t b)
theorem Vh (t b:Int):lb t b * sg t b=b:=jg (pP t b)
theorem AP7 {t b:Int}(h:b≠0):0 < lb t b:=by
 have e:=Vh t b;have d:=Zk (a:=t) h;have c:sg t b=if b < 0 then 0 - gcd t b else gcd t b:=rfl
 rcases GH (lb t b) 0 with z | z | z
 ·exfalso;by_cases hb:b < 0
  ·rw [if_pos hb] at c;have:0 < lb t b * sg t b:=by
    rw [c];exact Int.mul_pos_of_neg_of_neg z ∅
   omega
  ·rw [if_neg hb] at c;have:lb t b * sg t b < 0:=by
    rw [c];exact Int.mul_neg_of_neg_of_pos z d
   omega
 ·rw [z] at e;omega
 ·exact z
theorem kW {n k:Nat}(h:n < 2 ^ k)(a:0 < k):n.log2 < k:=by
 by_cases z:n=0
 ·subst z;simpa using a
 ·exact (Nat.log2_lt z).mpr h
theorem AH6 {t b:Int}(h:b≠0):(lb t b).natAbs<=b.natAbs:=by
 have e:=Vh t b;have d:=Js (t:=t) h;have a:(lb t b).natAbs * (sg t b).natAbs=b.natAbs:=by rw [<- WE,e]
 have c:1<=(sg t b).natAbs:=by omega
 calc (lb t b).natAbs=(lb t b).natAbs * 1:=(Nat.mul_one _).symm
  _<=(lb t b).natAbs * (sg t b).natAbs:=Nat.mul_le_mul_left _ c
  _=b.natAbs:=a
end Fr
namespace Fr
theorem AS1 (t b:Int):((b.gcd t:Nat):Int)=gcd t b:=by
 unfold gcd Int.gcd;rw [MX]
theorem Z6 {t b:Int}(h:b≠0):lt t b=(YV t b).num:=by
 have g:=Zk (a:=t) h;rw [Rat.num_divInt,AS1];have e:=Yy t b;have d:gcd t b ∣ b.sign * t:=Int.dvd_mul_of_dvd_right (Yd t b);refine (Int.ediv_eq_of_eq_mul_left ∅ ?_).symm
 have c:sg t b=b.sign * gcd t b:=by
  unfold sg;rcases GH b 0 with z | z | z
  ·rw [if_pos z,qo z];omega
  ·exact absurd z h
  ·rw [if_neg ∅,FV z];omega
 have f:b.sign * b.sign=1:=by
  rcases GH b 0 with z | z | z
  ·rw [qo z];rfl
  ·exact absurd z h
  ·rw [FV z];rfl
 calc b.sign * t=b.sign * (lt t b * sg t b):=by rw [e]
  _=(b.sign * b.sign) * (lt t b * gcd t b):=by rw [c];grind
  _=lt t b * gcd t b:=by rw [f];omega
theorem eV {t b:Int}(h:b≠0):lb t b=((YV t b).den:Int):=by
 have e1:=Yy t b;have e2:=Vh t b;have i:=Js (t:=t) h;have n:=Z6 (t:=t) h;have c:(YV t b).num * b=t * ((YV t b).den:Int):=by
  have z:YV (YV t b).num ((YV t b).den:Int)=YV t b:=xD _;have e:(((YV t b).den:Nat):Int)≠0:=by
   have:=(YV t b).den_nz;omega
  exact (Rat.divInt_eq_divInt_iff e h).mp z
 by_cases a:t=0
 ·subst a;have:YV 0 b=0:=Rat.zero_divInt b;rw [this];have j:gcd 0 b=(b.natAbs:Int):=by unfold gcd;simp
  have k:=AP7 (t:=0) h;have d:(lb 0 b).natAbs * (sg 0 b).natAbs=b.natAbs:=by rw [<- WE,e2]
  rw [YB,j] at d;have f:0 < b.natAbs:=by omega
  have l:(lb 0 b).natAbs=1:=by
   have:(lb 0 b).natAbs * b.natAbs=1 * b.natAbs:=by simpa using d
   exact Nat.eq_of_mul_eq_mul_right f this
  show lb 0 b=1;omega
 ·rw [<- n] at c;have g:t * lb t b=t * ((YV t b).den:Int):=by
   rw [<- c]
   calc t * lb t b=(lt t b * sg t b) * lb t b:=by rw [e1]
    _=lt t b * (lb t b * sg t b):=by grind
    _=lt t b * b:=by rw [e2]
  exact Int.eq_of_mul_eq_mul_left a g
theorem den_pos (q:Rat):0 < (q.den:Int):=by
 have:=q.den_pos;omega
theorem GR (q:Rat):YV q.num (q.den:Int)=q:=xD q
theorem G9 (q:Rat):(q.den:Int)≠0:=by have:=den_pos q;omega
theorem Vt (p q:Rat):YV (p.num * q.den+q.num * p.den) (p.den * q.den)=p+q:=by
 rw [<- NA _ _ (G9 p) (G9 q),GR,GR]
theorem jM (p q:Rat):YV (p.num * q.den - q.num * p.den) (p.den * q.den)=p - q:=by
 rw [<- Rat.divInt_sub_divInt _ _ (G9 p) (G9 q),GR,GR]
theorem oV (p q:Rat):YV (p.num * q.num) (p.den * q.den)=p * q:=by
 rw [<- wv,GR,GR]
theorem iZ (p q:Rat):YV (p.num * q.den) (p.den * q.num)=p / q:=by
 rw [Rat.div_def,<- wv,GR]
 congr 1
 have:=Rat.inv_divInt q.num q.den;rw [GR] at this;exact this.symm
theorem gw (p q:Rat):p.num * q.den < q.num * p.den↔p < q:=(Rat.lt_iff p q).symm
theorem ig (q:Rat):q.num=0↔q=0:=Rat.num_eq_zero
end Fr
namespace Fr
theorem AV7 (t b:Int)(h:b≠0):(lt t b).natAbs<=t.natAbs:=by
 have e:=Yy t b;have d:=Js (t:=t) h;have a:(lt t b).natAbs * (sg t b).natAbs=t.natAbs:=by rw [<- WE,e]
 have c:1<=(sg t b).natAbs:=by omega
 calc (lt t b).natAbs=(lt t b).natAbs * 1:=(Nat.mul_one _).symm
  _<=(lt t b).natAbs * (sg t b).natAbs:=Nat.mul_le_mul_left _ c
  _=t.natAbs:=a
end Fr
namespace L2
open PySem PySem.Spec PyProof.Rows
theorem TopFn.calN {c:Bool}{P:YA}{w:World}{K:FrG}{mg:Str->Option Value}{base:Heap}{x:Str}{st:Stmt}{N ps:List Str}{k:Nat}{sp:Sp}(T:TopFn K mg x st)(n:FnScope N ps (defScope st))
  (hb:∀(kV d e:Value) (g:Option Addr) (a ct:Value) (us:List Value),us.length=ps.length->ut (YP x x (defArgs st) (defBody st) (defScope st) .none kV d e g a ct) ⟨us,[]⟩=pure (ps.zip us))
  (len:∀vs H Q E,sp vs H Q E->vs.length=ps.length)
  (b:∀(f:Addr) (a:Value) (A:XW) (outer:List Env) (s:U2) (H:Hp) (vs:List V) (Q:VK) (E:XK),RoomB c k (A.deeper (wq x (defScope st) s.heap.objs.size f a))->sp vs H Q E->
   ∃t,PSs (Eu c P w K mg base N x (defScope st) f a A outer s H E).nox (defBody st) t/\t { nx:=λ _ i=>Q .non i,rt:=Q } (start N vs) H):CalB P w K mg base c (k+1) x ps sp:=
 T.calB n hb len λ f a A outer s H vs Q E j h=>by
  obtain ⟨t,l,m⟩:=b f a A outer s H vs Q E j h;exact ⟨t,l.nox,m⟩
theorem Fun.okB {c:Bool}{P:YA}{w:World}{K:FrG}{mg:Str->Option Value}{base:Heap}{x:Str}{st:Stmt}{f:Addr}{fd:UH}{N ps:List Str}{k:Nat}{sp:Sp}(n:Fun K x x st f fd)(o:FnScope N ps (defScope st))
  (len:∀vs H Q E,sp vs H Q E->vs.length=ps.length)
  (b:∀(a:Value) (A:XW) (outer:List Env) (s:U2) (H:Hp) (vs:List V) (Q:VK) (E:XK),RoomB c k (A.deeper (wq x (defScope st) s.heap.objs.size f a))->sp vs H Q E->
   ∃t,PSs (Eu c P w K mg base N x (defScope st) f a A outer s H E).nox (defBody st) t/\t { nx:=λ _ d=>Q .non d,rt:=Q } (start N vs) H):FnB P w K mg base c (k+1) f fd ps sp:=by
 obtain ⟨p,q,kV,j,r,u,a,ct,m,rfl,l,cd⟩:=id n.ex;exact NT l cd o len λ A outer s H vs Q E e h=>by
  obtain ⟨t,g,i⟩:=b a A outer s H vs Q E e h;exact ⟨t,g.nox,i⟩
end L2
namespace Lib
open PySem L2
def lim:Nat:=2 ^ 9000
theorem jY {n:Nat}(h:n < lim):n.log2 < 9000:=Fr.kW h ⋯
theorem jN {n:Nat}(h:n < lim):n < 2 ^ 10000:=UU h (by unfold lim;decide+kernel)
inductive AQ9 (vs:List V)(H:Hp)(Q:VK)(z3:XK):Prop | mk (a b:Int) (_:vs=[.int a,.int b]) (_:Q (.int (Fr.gcd a b)) H)
inductive spLaw (K:FrG)(vs:List V)(H:Hp)(Q:VK)(z3:XK):Prop | mk (a:Addr) (ns:List Int) (_:vs=[.ref a]) (_:SqL K H a (ns.map V.int)) (_:ns.length<=63) (_:∀H',Q (.bl true) H')
theorem GJ (i j:Int):decide (V.int i=V.int j)=decide (i=j):=by
 by_cases h:i=j
 ·subst h;simp
 ·have:¬ V.int i=V.int j:=λ z=>h (V.int.inj z)
  rw [η h,η this]
theorem PL {xs:List V}{r:Int}(b:0<=r)(c:r < (xs.length:Int)):∃v,atI xs r=some v/\v∈xs:=by
 have a:r.toNat < xs.length:=by omega
 have e:((r.toNat:Nat):Int)=r:=by omega
 have q:atI xs ((r.toNat:Nat):Int)=some xs[r.toNat]:=Bu (Yi a);rw [e] at q;exact ⟨_,q,List.getElem_mem a⟩
theorem cD (ns:List Int)(lo hi:Option Int):∀x∈cutV (ns.map V.int) lo hi,∃z:Int,x=.int z:=λ x a=>by
 unfold cutV at a;have b:=List.mem_of_mem_drop (ua a);obtain ⟨z,_,rfl⟩:=UC.mp b;exact ⟨z,rfl⟩
theorem AN9 (a b c d:Int):Ul (.tuple [.int a,.int b]) (.tuple [.int c,.int d])=(decide (a=c) && decide (b=d)):=by
 simp only [Ul,Fa,Bool.and_true];by_cases e:a=c<;>by_cases f:b=d<;>simp [e,f]
abbrev frO (q:Rat):HO:=.tup [.int q.num,.int (q.den:Int)]
def Cw:Nat:=2 ^ 4000
theorem Nv:(10:Nat) ^ 40 < Cw:=by unfold Cw;decide+kernel
theorem j0:Cw < lim:=by unfold lim Cw;decide+kernel
theorem uZ:Cw * Cw+Cw * Cw < lim:=by unfold lim Cw;decide+kernel
structure Sm (q:Rat):Prop where
 n:q.num.natAbs < Cw
 d:q.den < Cw
theorem Sm.neg {q:Rat}(h:Sm q):Sm (-q):=⟨by rw [NJ,UX];exact h.n,by rw [NL];exact h.d⟩
theorem ud {a b:Nat}(ha:a < Cw)(hb:b < Cw):a * b < Cw * Cw:=wE ha hb
theorem Lw {x y:Int}(a:x.natAbs < Cw)(b:y.natAbs < Cw):(x * y).natAbs < lim:=by
 rw [WE];have:=ud a b;have:=uZ;omega
theorem Em {x y:Int}(a:x.natAbs < Cw)(b:y.natAbs < Cw):CMulW x y:=⟨jN (UU a j0),jN (UU b j0)⟩
theorem Sm.dn {q:Rat}(h:Sm q):((q.den:Int)).natAbs < Cw:=by rw [YO];exact h.d
theorem aZ (q:Rat):((q.den:Nat):Int)≠0:=by have:=q.den_nz;omega
theorem Z3 (q:Rat):(0:Int) < ((q.den:Nat):Int):=by have:=q.den_nz;omega
theorem JH (p q:Rat):((p.den:Int)) * (q.den:Int)≠0:=yl (aZ p) (aZ q)
theorem AQ2 {t b:Int}(h:b≠0):(HO.tup [.int (Fr.lt t b),.int (Fr.lb t b)])=frO (YV t b):=by
 rw [Fr.Z6 h,Fr.eV h]
theorem AW6 (q:Rat):Fr.gcd q.num (q.den:Int)=1:=by
 unfold Fr.gcd;have:=q.reduced;unfold Nat.Coprime at this;rw [YO,this];rfl
theorem Hy (p q:Rat):Ul (.tuple [.int p.num,.int (p.den:Int)]) (.tuple [.int q.num,.int (q.den:Int)])=decide (p=q):=by
 rw [AN9];by_cases h:p=q
 ·subst h;simp
 ·rw [η h];by_cases a:p.num=q.num
  ·have b:¬ ((p.den:Int)=(q.den:Int)):=λ z=>h (Rat.ext a (Int.ofNat.inj z))
   simp [b]
  ·simp [a]
end Lib
namespace Tx
open PySem PySem.Builtin PySem.Builtin.Str PySem.NumText PyProof.Rows
theorem Fp {m k:Nat}(a:0 < k):(dg m).length<=k↔m < 10 ^ k:=by
 unfold dg;rw [Y2];exact Nat.length_toDigits_le_iff ⋯ a
theorem Aa7 (m:Nat):1<=(dg m).length:=by
 have:=Oo m;cases h:dg m with
 | nil=>exact absurd h this
 | cons a r=>simp
structure Short (q:Rat):Prop where
 n:q.num.natAbs < 10 ^ 15
 d:q.den < 10 ^ 15
theorem ZJ (m:Nat):47∉dg m:=λ h=>by have:=HW m 47 h;omega
theorem Ad3 (m:Nat):45∉dg m:=λ h=>by have:=HW m 45 h;omega
theorem zZ (m:Nat)(r:List Nat):(dg m++r).head?≠some 45:=by
 cases h:dg m with
 | nil=>exact absurd h (Oo m)
 | cons a l=>
  intro e;have b:some a=some 45:=e;cases b
  exact Ad3 m (by rw [h];exact ZA ..)
theorem AJ4 (q:Rat):decide ((sh q).head?=some 45)=decide (q.num < 0):=by
 apply decide_eq_decide.mpr
 unfold sh;by_cases h:q.num < 0
 ·rw [if_pos h];simp [h]
 ·rw [if_neg h,Jn];exact ⟨λ e=>absurd e (zZ _ _),λ e=>absurd e h⟩
def bd (q:Rat):List Nat:=dg q.num.natAbs++(if q.den=1 then [] else 47::dg q.den)
theorem uo (q:Rat):(if q.num < 0 then (sh q).drop 1 else sh q)=bd q:=by
 unfold sh bd;by_cases h:q.num < 0
 ·rw [if_pos h,if_pos h];rfl
 ·rw [if_neg h,if_neg h];rfl
theorem sr (q:Rat):cut 47 (bd q)=if q.den=1 then [dg q.num.natAbs] else [dg q.num.natAbs,dg q.den]:=by
 unfold bd;by_cases h:q.den=1
 ·rw [if_pos h,if_pos h,Xg,K9 (ZJ _)]
 ·rw [if_neg h,if_neg h,JB _ (ZJ _),K9 (ZJ _)]
theorem kY (q:Rat)(h:Short q):(sh q).length<=40:=by
 have a:=(Fp (m:=q.num.natAbs) (k:=15) ⋯).mpr h.n
 have b:=(Fp (m:=q.den) (k:=15) ⋯).mpr h.d
 unfold sh;rw [X9,X9]
 split<;>split<;>simp only [X2,YH]<;>omega
theorem tE (q:Rat):(uQ++Z7 (toString q.num))++(Z7 "/")++Z7 (toString ((q.den:Nat):Int))=(⟨((if q.num < 0 then [45] else [])++dg q.num.natAbs++47::dg q.den).toArray⟩:Y1):=by
 apply ext
 rw [By,By,By,Kv,Kv];show []++_++[47]++_=_;rw [cl,zv,if_neg (show ¬ (((q.den:Nat):Int) < 0) by omega)]
 simp
end Tx
namespace Lib
open PySem L2 Tx PySem.NumText
theorem Ad6 (x:Y1):((QE x).map λ z=>V.bl (!(Wp (Z7 "0123456789") z 0 (Z7 "0123456789").length 1).isEmpty))=((cl x).map λ c=>decide (48<=c/\c<=57)).map V.bl:=by
 unfold QE;rw [zb,zb]
 apply jp
 intro c _;show V.bl (!(Wp (Z7 "0123456789") ⟨#[c]⟩ 0 (Z7 "0123456789").length 1).isEmpty)=V.bl (decide (48<=c/\c<=57));rw [AO4]
theorem zE (l:List Nat):((l.map λ c=>decide (48<=c/\c<=57)).all id)=true↔Mp l:=by
 unfold Mp;rw [MW,Fs];simp
theorem Ro {i:Int}(h:i.natAbs.log2 < 1920):(Z7 (toString i)).length<=2000:=by
 rw [<- Du,Kv,X9];have a:i.natAbs < 10 ^ 1900:=by
  by_cases z:i.natAbs=0
  ·rw [z];exact NM ⋯
  ·have b:i.natAbs < 2 ^ 1920:=(Nat.log2_lt z).mp h;exact UU b (by decide+kernel)
 have c:=(Fp (m:=i.natAbs) (k:=1900) ⋯).mpr a
 split<;>simp only [X2,YH]<;>omega
theorem Cm (x y:Y1):(x++y).length=x.length+y.length:=by
 rw [<- Du,By,X9,Du,Du]
theorem CT {n:Nat}(h:n<=10000):n<=Y3:=ZE h ⋯
end Lib
namespace Tx
theorem zJ:Z7 "-"=⟨#[45]⟩:=by rfl
theorem AR9:Z7 "/"=⟨#[47]⟩:=by rfl
end Tx
namespace Lib
open PySem L2 Tx PySem.NumText
end Lib
namespace Lib
open PySem L2 Tx
theorem Sm.zero:Sm 0:=⟨by show (0:Int).natAbs < Cw;exact UU ⋯ Nv,by show 1 < Cw;exact UU ⋯ Nv⟩
theorem Sm.one:Sm 1:=⟨by show (1:Int).natAbs < Cw;exact UU ⋯ Nv,by show 1 < Cw;exact UU ⋯ Nv⟩
inductive zm (vs:List V)(H:Hp)(Q:VK)(z3:XK):Prop | mk (t b:Int) (_:vs=[.int t,.int b]) (_:b≠0) (_:b.natAbs < lim) (_:∀p,H p=none->Q (.ref p) (upd H p (.tup [.int (Fr.lt t b),.int (Fr.lb t b)])))
end Lib
namespace L2
open PySem PySem.Spec PyProof.Rows
section
variable {prog:YA}{w:World}{A:XW}{R:Result->U2->Prop}{s:U2}
theorem Ab4 {g a iter:Expr}{i:List Expr}{e:Scope}{pos:Pos}{it j:Value}{env:Env}(C:Nat->U2->Prop)
  (turn:∀n s,C n s->wpAny (model prog w) A (pyNext it) (λ r b=>match r with
   | none=>R (.ok .next) b
   | some v=>wpAny (model prog w) A (xA a it v) (λ _ f=>wpAny (model prog w) A (Fc a env v) (λ _ k=>
     wpAny (model prog w) A (forIn i true λ c r=>if r=true then do let ok <- isTrue c env (eval c env);pure (Qn ok) else pure (Qn r)) (λ ok d=>
      if ok=true then wpAny (model prog w) A (eval g env) (λ x l=>
       wpAny (model prog w) A (call (.builtin "list.append") [j,x]) (λ _ o=>∃m,m < n/\C m o) (λ _ _=>False) l) (λ _ _=>False) d
      else ∃m,m < n/\C m d) (λ _ _=>False) k) (λ _ _=>False) f) (λ _ _=>False) b) (λ _ _=>False) s)
  (n:Nat) (h:C n s):
  GS (model prog w) A (.compLoop (.ListComp g [⟨a,iter,i,0⟩] e pos) 0 it j env) R s:=by
 refine codeAny_loop rfl C (λ n s D=>?_) n h
 show wpAny _ A ((compTurn (.ListComp g [⟨a,iter,i,0⟩] e pos) 0 it j env).onRaise (λ x=>do noteFrame x env;theTreesLotGoes x)) _ _ s
 refine wpAny_noted ?_;rw [compTurn_list];refine U1 (xt (U1 (UZ (turn n s D) (λ r b p=>?_) λ _ _ z=>z.elim)))
 cases r with
 | none=>exact Ya p
 | some v=>
  refine U1 (UZ p (λ _ f t=>?_) λ _ _ z=>z.elim)
  refine U1 (UZ t (λ _ k u=>U1 (UZ u (λ ok d q=>?_) λ _ _ z=>z.elim)) λ _ _ z=>z.elim)
  cases ok with
  | false=>exact Ya ⟨rfl,q⟩
  | true=>
   exact U1 (U1 (UZ q (λ x l y=>U1 (UZ y (λ _ o B=>Ya (Ya ⟨rfl,B⟩)) λ _ _ z=>z.elim)) λ _ _ z=>z.elim))
end
def Cr (X:Cx)(a:Scope)(cl:List (Str×Addr))(c:List Str)(C:Addr)(d:List Addr)(b:List (Addr×Obj))(e:U2)(f:Hp):Cx:=
 { X with N:=c,s₀:=e,H₀:=f,env:=Mc a cl C X.env,outer:=X.stack,ex:=d,fn:=λ _=>false,pn:=X.pn++b,xe:=λ _ _=>False }
structure CapOk (X:Cx)(scope:Scope)(cl:List (Str×Addr)):Prop where
 clos:closureFor scope X.env=pure cl
 sub:∀y c,cl.lookup y=some c->X.env.cells.lookup y=some c
 has:∀y,((wr scope X.env).names.lookup y=some .cell\/(wr scope X.env).names.lookup y=some .free)->∃c,cl.lookup y=some c
theorem AN3 {a:Scope}{env:Env}(b:∀y∈a.names,y.2≠.free):(wr a env).names=a.names:=by
 unfold wr;exact map_eq_self (l:=a.names) λ x c=>by
  obtain ⟨n,k⟩:=x;have:(k == yB)=false:=by simpa using b _ c
  simp [this]
theorem Fo {X:Cx}{a:Scope}(b:∀y∈a.names,y.2≠.free)(hcell:∀y∈a.names,y.2≠.cell):CapOk X a []:=by
 refine ⟨closureFor_none b,λ y c e=>(by simp at e),λ y e=>?_⟩
 rw [AN3 b] at e;exfalso;rcases e with e | e
 ·exact hcell _ (WU e) rfl
 ·exact b _ (WU e) rfl
def KC (a:List (Option Nat))(b:St):St:=a.map λ o=>o.bind λ j=>(b[j]?).join
section
variable {X:Cx}{pins:List (Addr×Obj)}{σ:St}{H2:Hp}{s2:U2}{scope:Scope}{cl:List (Str×Addr)}{N':List Str}{C:Addr}{fp:List Addr}{caps:List (Option Nat)}
theorem UW (d:Inv X pins σ H2 s2){b:Addr}(a:b≠X.env.locals)(c:b∉X.fs):b∉frs X.stack:=λ z=>(X1.mp (d.stkSub b z)).elim a c
theorem Ag7 (f:Inv X pins σ H2 s2)(hf:∀b∈fp,FpOk X pins H2 b)(hl:∀b∈fp,b < s2.heap.objs.size)(G:scope.kind=.function)(a:CapOk X scope cl)(x:s2.heap.objs.size<=C){l:U2}(os:l.os=s2.os)(bare:wo l.gens)
  (k:∀b o,s2.heap.get? b=some o->l.heap.get? b=some o) (ns:l.heap.Ns C λ _=>none) (H:caps.length=N'.length)
  (A:∀(i j:Nat),caps[i]?=some (some j)->∃y:Str,N'[i]?=some y/\X.N[j]?=some y/\(wr scope X.env).names.lookup y=some .cell/\X.env.scope.names.lookup y=some .cell):
  Inv (Cr X scope cl N' C fp pins s2 H2) [] (KC caps σ) H2 l:=by
 have t:∀b:Addr,b < s2.heap.objs.size->b≠C:=λ b h=>XO (Y4 h x)
 refine ⟨⟨f.ok.mod,?_,f.ok.glob,f.ok.blt,x,λ y z c r g=>f.ok.inj y z c (a.sub y c r) (a.sub z c g),λ y h=>a.has y h,(λ y c z=>nomatch z),f.ok.hd,f.ok.frames,.inl rfl,λ b hb=>⟨t b (hl b hb),λ y c e=>(hf b hb).2.2.2.2.1 y c (a.sub y c e)⟩,
  λ b o e=>f.bs b o e,ZE f.ok.bsz f.sz,λ b o e hb=>?_,λ b hb=>UW f (hf b hb).2.1 (hf b hb).2.2.1,f.stack,f.stkFree⟩,
  os,bare,Un.kept k,⟨_,ns,λ i y v r g S=>?_⟩,λ y c e=>?_,f.hok.fresh x,λ y c e=>f.freeC y c (a.sub y c e),λ p s=>?_,f.hok.kept k,?_⟩
 ·show (wr scope X.env).kind=.function;exact G
 ·rcases (hf b hb).2.2.2.1 with z | z
  ·exact f.ok.noex b o e z
  ·exact absurd (Y4 (Yo e) (ZE f.ok.bsz z)) (yA _)
 ·have r:N'[i]?=some y:=r;unfold KC at g;rw [Yf] at g;cases hc:caps[i]? with
  | none=>rw [hc] at g;cases g
  | some o=>
   rw [hc] at g;cases o with
   | none=>cases g
   | some j=>
    obtain ⟨T,e1,e2,B,D⟩:=A i j hc;rw [r] at e1;cases e1
    have I:σ[j]?=some (some v):=by
     have z:(σ[j]?).join=some v:=by simpa using g
     cases q:σ[j]? with
     | none=>rw [q] at z;cases z
     | some U=>rw [q] at z;exact congrArg some z
    obtain ⟨m,V,J⟩:=f.loc;obtain ⟨u,K,L⟩:=J j y v e2 I (.inr (.inl D));refine ⟨u,K,.inr ⟨.inl B,?_⟩⟩;rcases L with ⟨z,_⟩ | ⟨_,c,M,O,E,F⟩
    ·rw [show X.env.kindOf y=X.env.scope.names.lookup y from rfl,D] at z;cases z
    ·obtain ⟨P,w⟩:=a.has y (.inl B);have:=a.sub y P w;rw [M] at this;cases this
     exact ⟨c,w,O,k _ _ E,F⟩
 ·obtain ⟨v,o,Q,hd⟩:=f.cell y c (a.sub y c e);exact ⟨v,o,k _ _ Q,hd⟩
 ·have s:p∈(X.pn++pins)++[]:=s;rw [Xg] at s;obtain ⟨e,n,ne,R,d⟩:=f.pin p s;exact ⟨k _ _ e,n,t _ (Yo e),UW f ne R,d⟩
 ·show (KC caps σ).length=N'.length;unfold KC;rw [Y2];exact H
theorem oE {pl:List (Addr×Obj)}{r:St}{j:Hp}{s':U2}{k:Addr}{items:Array Value}{l:List V}{f:Heap}(J:Inv X pins σ H2 s2)(hf:∀b∈fp,FpOk X pins H2 b)(a:Inv (Cr X scope cl N' C fp pins s2 H2) pl r j s')
  (s:s'.heap.PlainList k items) (g:j k=none) (p:s2.heap.get? k=none) (t:k≠C) (x:Vals l items.toList) (hz:l.length<=Y3) (h:zS C s'.heap f):Inv X pins σ (upd j k (.lst l)) { s' with heap:=f }:=by
 have y:s2.heap.objs.size<=C:=a.ok.above;have i:∀b o,s2.heap.get? b=some o->b≠C:=λ b o e=>XO (Y4 (Yo e) y)
 have w:j C=none:=a.free;obtain ⟨A,B⟩:=s;refine J.call' (s':={ s' with heap:=f }) (ch:=fp) a.os ⟨λ b o e n hb d=>h.extBut b o (i b o e) (a.base.keep b o e n hb d),λ b o e n hb d=>?_,λ b o e n d=>?_,λ b o e d=>?_,λ b xs e=>?_,λ b o u e=>?_,λ b ps e=>?_⟩ (λ b o e=>?_) a.bare λ b hb=>?_
 ·obtain ⟨D,q⟩:=a.base.slot b o e n hb d;exact ⟨D,h.extBut b _ (i b o e) q⟩
 ·have:b≠k:=λ z=>by rw [z,p] at e;cases e
  rw [BP this];exact a.base.free b o e n d
 ·obtain ⟨E,q⟩:=a.base.there b o e d;exact ⟨E,h.extBut b _ (i b o e) q⟩
 ·have q:=a.base.tups b xs e;rw [BP (Bt q g)];exact q
 ·have q:=a.base.frzs b o u e;rw [BP (Bt q g)];exact q
 ·obtain ⟨m,q⟩:=a.base.tbls b ps e;exact ⟨m,by rw [BP (Bt q g)];exact q⟩
 ·by_cases hb:b=k
  ·subst hb;rw [Aq] at e;cases e
   exact ⟨hz,items.toList,A,x,h.extBut _ _ t B⟩
  ·rw [BP hb] at e;refine (a.hok b o e).stay (λ c v hc q=>h.extBut c v ?_ q) (λ c q=>by rw [BP (Bt q g)];exact q) λ c xs q=>by rw [BP (Bt q g)];exact q
   intro z;subst z;rcases hc with z | z
   ·rw [<- z,w] at e;cases e
   ·rw [w] at z;cases z
 ·obtain ⟨K,F,L,G,H,I⟩:=hf b hb;exact ⟨G,F,H,I⟩
end
def CP (X:Cx)(d:List Expr)(t:TT):Prop:=
 ∀(a:List (Addr×Obj)) (s:U2) (b:St) (H:Hp) (Q:Bool->Hp->Prop),Inv X a b H s->t b H Q->
  wpAny (model X.prog X.w) X.A (forIn d true λ c r=>if r=true then do let ok <- isTrue c X.env (eval c X.env);pure (Qn ok) else pure (Qn r)) (TP X a b Q) X.xe s
def Hz:TT:=λ _ H Q=>Q true H
theorem FQ {X:Cx}:CP X [] Hz:=λ a s b H Q c h=>by
 simp only [List.forIn_nil];exact Ya ⟨H,c,h⟩
theorem fc {X:Cx}{c:Expr}{t:TT}(hc:PT X c t):CP X [c] t:=λ a s d H Q e h=>by
 simp only [yn,List.forIn_nil,if_true];exact U1 (U1 (UZ (hc a s d H Q e h) (λ b s' hb=>Ya (Ya hb)) λ _ _ x=>x))
def JC (r:TG)(tt:TT)(j:TE)(k:It)(l:St)(n:Hp)(Q:VK):Prop:=∃h:Nat->Nat->St->List V->Hp->Prop,(∃m,h 0 m l [] n)/\∀i m e c H,h i m e c H->c.length<=Y3/\
 ((k.stop i H/\∀p,H p=none->Q (.ref p) (upd H p (.lst c)))\/
   (k.go i H/\∀x f,k.yld i H x f->r x e f λ a o=>tt a o λ b g=>if b=true then j a g λ y q=>∃d,d < m/\h (i+1) d a (c++[y]) q else ∃d,d < m/\h (i+1) d a c g))
def Mf (c:TI)(f:TG)(tt:TT)(d:TE)(a:List (Option Nat)):TE:=λ b H Q=>c b H λ g e=>JC f tt d g (KC a b) e Q
theorem bz {X:Cx}{tg a6 iter:Expr}{W:List Expr}{a:Scope}{pos:Pos}{f0:TI}{k2:TG}{tt:TT}{f1:TE}{cl:List (Str×Addr)}(B:List Str)(O:List (Option Nat))(hc:X.calm=true)(hi:PI X tg iter f0)
  (g9:∀C k g P l,PG (Cr X a cl B C k g P l) tg k2) (h0:∀C k g P l,CP (Cr X a cl B C k g P l) W tt) (he:∀C k g P l,PE (Cr X a cl B C k g P l) a6 f1)
  (a7:CapOk X a cl) (hcell:∀y∈a.names,y.2≠.cell) (R:a.kind=.function) (b3:∀y∈a.names,y.2=.local->a.names.lookup y.1=some .local) (h1:O.length=B.length)
  (d5:∀(i j:Nat),O[i]?=some (some j)->∃y:Str,B[i]?=some y/\X.N[j]?=some y/\(wr a X.env).names.lookup y=some .cell/\X.env.scope.names.lookup y=some .cell)
  (h2:∀x,ze iter X.env x=pure x) {g:List (Addr×Obj)} {s:U2} {b4:St} {H:Hp} {Q:VK} {use:Option (Value->Sem Unit)} {QQ:Value->U2->Prop}
  (f2:∀(C F:Addr) (k:List Addr) (P b2:U2) (l c1:Hp) (pl:List (Addr×Obj)) (E:St) (items:Array Value) (q:List V),Inv X g b4 l P->(∀b∈k,FpOk X g l b)->Inv (Cr X a cl B C k g P l) pl E c1 b2->b2.heap.PlainList F items->c1 F=none->P.heap.get? F=none->F≠C->
   Vals q items.toList->q.length<=Y3->(∀p,c1 p=none->Q (.ref p) (upd c1 p (.lst q)))->compPost (model X.prog X.w) X.A X.xe use QQ (.ref F) C (.ok .next) b2)
  (k5:Inv X g b4 H s) (h:Mf f0 k2 tt f1 O b4 H Q):wpAny (model X.prog X.w) X.A (comprehension (.ListComp a6 [⟨tg,iter,W,0⟩] a pos) a X.env (firstIterPos [⟨tg,iter,W,0⟩] pos) (newList []) false (eval iter X.env) use) QQ X.xe s:=by
 refine wpAny_comprehension_free (use:=use) rfl h2 a7.clos R b3 (thn (hi g s b4 H _ k5 h) λ k6 a2 G=>thn G λ k3 f d6=>?_)
 obtain ⟨it,k,b5,k9,l,rfl,Y,T,c8,c2,h3,⟨h4,h5⟩,turn⟩:=d6;have b6:∀b∈k,b < f.heap.objs.size:=λ b hb=>by obtain ⟨o,e,_⟩:=T.obj _ _ c8 b hb;exact Yo e
 refine zd (wpAny_newFunctionEnv hcell (by intro y h6;simp at h6) (λ G K I=>?_) R)
 dsimp only at K I ⊢
 generalize b7:f.heap.push { cls:=.type "list",dict:=none,data:=.seq ([]:List Value).toArray }=Z at K I ⊢;have d7:Z.objs.size=f.heap.objs.size+1:=by rw [<- b7,qb]
 have a8:f.heap.objs.size≠Z.objs.size:=by rw [d7];exact XO (wx _)
 have d8:f.heap.objs.size<=Z.objs.size:=by rw [d7];exact NH _
 have a9:∀b,b < f.heap.objs.size->b≠Z.objs.size:=λ b hb=>by rw [d7];exact XO (Nat.lt_succ_of_lt hb)
 have old:∀b o,f.heap.get? b=some o->G.get? b=some o:=λ b o e=>I.extBut b o (a9 b (Yo e)) (ZO _ (b7▸ZO _ e))
 have d9:G.PlainList f.heap.objs.size #[]:=⟨_,I.extBut _ _ a8 (ZO _ (b7▸XM _ rfl))⟩;have S:f.heap.get? f.heap.objs.size=none:=NF (ZY _);have f3:l f.heap.objs.size=none:=Y.hok.fresh (ZY _);generalize b0:f.heap.objs.size=F at *;generalize k4:Z.objs.size=C at *;have c9:∀b∈k,b≠F:=λ b hb=>XO (b6 b hb)
 have U:∀{t:Hp} {pl:List (Addr×Obj)},(∀p∈pl,p.1=F)->(∀b∈k,t b=none)->∀b∈k,FpOk (Cr X a cl B C k g f l) pl t b:=λ {t pl} f4 h7 b hb=>by
  obtain ⟨k7,h8,f5,k8,h9,i0⟩:=c2 b hb;refine ⟨h7 b hb,a9 b (b6 b hb),UW Y h8 f5,.inl hb,λ y c e=>h9 y c (a7.sub y c e),λ p J=>?_⟩
  rcases YT.mp J with J | J
  ·exact i0 p J
  ·rw [f4 p J];exact (c9 b hb).symm
 have f6:∀n s',(∃i E q,∃(items:Array Value),∃t,Inv (Cr X a cl B C k g f l) [] E t s'/\b5 i s'.heap/\(∀b∈k,t b=none)/\s'.heap.PlainList F items/\Vals q items.toList/\t F=none/\h3 i n E q t)->
   wpAny (model X.prog X.w) X.A (pyNext (.ref it)) (λ r a2=>match r with
   | none=>compPost (model X.prog X.w) X.A X.xe use QQ (.ref F) C (.ok .next) a2
   | some v=>wpAny (model X.prog X.w) X.A (xA tg (.ref it) v) (λ _ c3=>wpAny (model X.prog X.w) X.A (Fc tg (Mc a cl C X.env) v) (λ _ c4=>
     wpAny (model X.prog X.w) X.A (forIn W true λ c r=>if r=true then do let ok <- isTrue c (Mc a cl C X.env) (eval c (Mc a cl C X.env));pure (Qn ok) else pure (Qn r)) (λ ok D=>
      if ok=true then wpAny (model X.prog X.w) X.A (eval a6 (Mc a cl C X.env)) (λ x e0=>
       wpAny (model X.prog X.w) X.A (call (.builtin "list.append") [.ref F,x]) (λ _ a3=>∃m,m < n/\∃i E q,∃(items:Array Value),∃t,Inv (Cr X a cl B C k g f l) [] E t a3/\b5 i a3.heap/\(∀b∈k,t b=none)/\a3.heap.PlainList F items/\Vals q items.toList/\t F=none/\h3 i m E q t) (λ _ _=>False) e0) (λ _ _=>False) D
      else ∃m,m < n/\∃i E q,∃(items:Array Value),∃t,Inv (Cr X a cl B C k g f l) [] E t D/\b5 i D.heap/\(∀b∈k,t b=none)/\D.heap.PlainList F items/\Vals q items.toList/\t F=none/\h3 i m E q t) (λ _ _=>False) c4) (λ _ _=>False) c3) (λ _ _=>False) a2) (λ _ _=>False) s':=by
  rintro n e1 ⟨i,M,q,items,b8,i1,d0,d1,f7,b1,f8,i2⟩
  obtain ⟨hz,i3⟩:=turn i n M q b8 i2;obtain ⟨a4,c5⟩:=id f7;have e2:F∉frs X.stack:=λ z=>by
   obtain ⟨_,o,e,_⟩:=Y.stack.mem z;rw [S] at e;cases e
  have d2:Inv (Cr X a cl B C k g f l) [(F,{ cls:=.type "list",data:=.seq items a4 })] M b8 e1:=i1.pins_of λ p J=>by
   have e:p=(F,{ cls:=.type "list",data:=.seq items a4 }):=by simpa using J
   subst e;exact ⟨c5,f8,a8,e2,λ v z=>by cases z⟩
  have one:∀p∈[(F,({ cls:=.type "list",data:=.seq items a4 }:Obj))],p.1=F:=λ p J=>by
   have e:p=(F,{ cls:=.type "list",data:=.seq items a4 }):=by simpa using J
   subst e;rfl
  rcases i3 with ⟨stop,i4⟩ | ⟨go,step⟩
  ·refine thn (T.done (Cr X a cl B C k g f l) rfl rfl rfl hc i _ e1 M b8 (λ _ _=>False) d2 (U one d1) d0 stop) λ r b2 ⟨e3,f9⟩=>?_
   subst e3;obtain ⟨i5,g0,_⟩:=f9.pin _ (YN _ (X8.mpr rfl));exact f2 C F k f b2 l b8 _ M items q Y c2 f9 ⟨a4,i5⟩ g0 (b0▸S) a8 b1 hz i4
  ·refine thn (T.item (Cr X a cl B C k g f l) rfl rfl rfl hc i _ e1 M b8 (λ _ _=>False) d2 (U one d1) d0 go) λ r b2 ⟨u,e3,i6⟩=>?_
   subst e3;refine thn i6 λ _ g1 ⟨x,g2,i7,i8,i9,b9,g3⟩=>?_
   have g4:=i7.pinned (U one g3) (T.obj _ _ b9);refine thn (g9 C k g f l _ g1 M g2 x u _ g4 i8 (step x g2 i9)) λ _ j0 ⟨L,j1,j2,j3⟩=>?_
   refine thn (h0 C k g f l _ j0 L j1 _ j2 j3) λ b j4 ⟨g5,g6,c6⟩=>?_
   have back:∀{a0:Hp} {a1:U2},Inv (Cr X a cl B C k g f l) ([(F,({ cls:=.type "list",data:=.seq items a4 }:Obj))]++pinsAt k g1.heap) L a0 a1->
     Inv (Cr X a cl B C k g f l) [] L a0 a1/\b5 (i+1) a1.heap/\(∀b∈k,a0 b=none)/\a1.heap.PlainList F items/\a0 F=none:=λ {a0 a1} a5=>by
    refine ⟨a5.pins_of (λ p J=>nomatch J),T.keep _ _ _ b9 λ b hb o e=>(a5.pin (b,o) (YN _ (YN _ (Om hb e)))).1,λ b hb=>?_,?_,?_⟩
    ·obtain ⟨o,e,d⟩:=T.obj _ _ b9 b hb;exact (a5.pin (b,o) (YN _ (YN _ (Om hb e)))).2.1
    ·exact ⟨a4,(a5.pin _ (YN _ (UK _ (X8.mpr rfl)))).1⟩
    ·exact (a5.pin _ (YN _ (UK _ (X8.mpr rfl)))).2.1
   cases b with
   | false=>
    rw [if_neg ZM] at c6;obtain ⟨e4,e5,j5⟩:=c6;obtain ⟨e6,e7,e8,e9,c7⟩:=back g6;rw [if_neg ZM];exact ⟨e4,e5,i+1,L,q,items,g5,e6,e7,e8,e9,b1,c7,j5⟩
   | true=>
    rw [if_pos rfl] at c6;rw [if_pos rfl];refine thn (he C k g f l _ j4 L g5 _ g6 c6) λ v a1 ⟨y,a0,a5,j6,e4,e5,j7⟩=>?_
    obtain ⟨e6,e7,e8,e9,c7⟩:=back a5;have g7:items.size<=Y3:=by
     have e:q.length=items.size:=by simpa using b1.length
     omega
    refine wpAny_list_append_plain (hsz:=g7) e9 λ j8 g8 d3=>?_
    have j9:∀y c,cl.lookup y=some c->c≠F:=λ y c e z=>by
     obtain ⟨v,o,c5,_⟩:=Y.cell y c (a7.sub y c e);rw [z,S] at c5;cases c5
    have np:∀p∈(X.pn++g)++[],p.1≠F:=λ p J z=>by
     rw [Xg] at J;have e:=(Y.pin p J).1;rw [z,S] at e;cases e
    have k0:Inv (Cr X a cl B C k g f l) [] L a0 { a1 with heap:=j8 }:=e6.turned (it:=F) (t':=a1.toks) (λ b o hb e=>d3.extBut b o hb e) c7 a8 (.inr (MQ b0)) j9 np
    refine ⟨e4,e5,i+1,L,q++[y],items.push v,a0,k0,T.keep _ _ _ e7 λ b hb o e=>d3.extBut b o (c9 b hb) e,e8,g8,?_,c7,j7⟩
    rw [Array.toList_push];exact b1.append (.cons j6 .nil)
 have k1:Inv (Cr X a cl B C k g f l) [] (KC O b4) l { f with heap:=G,toks:=f.toks+([]:List (Str×Value)).length }:=
  Ag7 Y c2 (λ b hb=>b0▸b6 b hb) R a7 (by rw [b0];exact d8) rfl Y.bare old K h1 d5
 have d4:b5 0 G:=T.keep _ _ _ c8 λ b _ o e=>old b o e
 have c0:∀D:U2,D={ f with heap:=G,toks:=f.toks+([]:List (Str×Value)).length }->
   GS (model X.prog X.w) X.A (.compLoop (.ListComp a6 [⟨tg,iter,W,0⟩] a pos) 0 (.ref it) (.ref F) (Mc a cl C X.env)) (compPost (model X.prog X.w) X.A X.xe use QQ (.ref F) C) D:=by
  rintro D rfl
  exact Ab4 _ f6 h4 ⟨0,_,[],#[],l,k1,d4,λ b hb=>(c2 b hb).1,d9,.nil,f3,h5⟩
 exact codeAny_compStart_list (c0 _ rfl) (T.self X.A 0 _ _ _ d4 (c0 _ rfl))
theorem G4 {X:Cx}{tg n iter:Expr}{o:List Expr}{a:Scope}{pos:Pos}{r:TI}{O:TG}{tt:TT}{t:TE}{cl:List (Str×Addr)}(d:List Str)(c:List (Option Nat))(hc:X.calm=true)(hi:PI X tg iter r)
  (B:∀C e b f g,PG (Cr X a cl d C e b f g) tg O) (D:∀C e b f g,CP (Cr X a cl d C e b f g) o tt) (he:∀C e b f g,PE (Cr X a cl d C e b f g) n t)
  (u:CapOk X a cl) (hcell:∀y∈a.names,y.2≠.cell) (l:a.kind=.function) (k:∀y∈a.names,y.2=.local->a.names.lookup y.1=some .local) (E:c.length=d.length)
  (p:∀(i j:Nat),c[i]?=some (some j)->∃y:Str,d[i]?=some y/\X.N[j]?=some y/\(wr a X.env).names.lookup y=some .cell/\X.env.scope.names.lookup y=some .cell)
  (F:∀x,ze iter X.env x=pure x:=by intro _;rfl):
  PE X (.ListComp n [⟨tg,iter,o,0⟩] a pos) (Mf r O tt t c):=by
 intro b s S H Q T h;rw [eval_ListComp];refine bz (use:=none) d c hc hi B D he u hcell l k E p F (λ C P e f U g V pl R items W G I v w z q A J hz K=>?_) T h
 obtain ⟨m,L,_⟩:=v.loc;exact ⟨m,L,λ h' M=>⟨.ref P,_,oE G I v w z q A J hz M,rfl,K P z⟩⟩
def ik (i:Nat)(t:TE):TS:=λ c a H=>t a H λ v b=>c.nx (a.set i (some v)) b
theorem j6 {X:Cx}{tg n iter:Expr}{q:List Expr}{a:Scope}{pos B D:Pos}{U:TI}{c6:TG}{tt:TT}{V:TE}{cl:List (Str×Addr)}{y:Str}{i:Nat}(W:X.N.Nodup)(Y:X.N[i]?=some y)(a8:Loc X.env.scope y)(r:List Str)(f:List (Option Nat))(hc:X.calm=true)(hi:PI X tg iter U)
  (a9:∀C t d k u,PG (Cr X a cl r C t d k u) tg c6) (b0:∀C t d k u,CP (Cr X a cl r C t d k u) q tt) (he:∀C t d k u,PE (Cr X a cl r C t d k u) n V)
  (Z:CapOk X a cl) (hcell:∀y∈a.names,y.2≠.cell) (G:a.kind=.function) (E:∀y∈a.names,y.2=.local->a.names.lookup y.1=some .local) (b1:f.length=r.length)
  (Q:∀(i j:Nat),f[i]?=some (some j)->∃y:Str,r[i]?=some y/\X.N[j]?=some y/\(wr a X.env).names.lookup y=some .cell/\X.env.scope.names.lookup y=some .cell)
  (b2:∀x,ze iter X.env x=pure x:=by intro _;rfl) (a0:jS (.ListComp n [⟨tg,iter,q,0⟩] a pos) (some (.Name y D)) B.line X.env=pure true:=by rfl)
  (a1:X.fn y=true\/X.env.scope.names.lookup y=some .local:=by first | exact .inl rfl | exact .inr rfl | assumption):
  PS X (.Assign [.Name y D] (.ListComp n [⟨tg,iter,q,0⟩] a pos) B) (ik i (Mf U c6 tt V f)):=by
 intro d s R H c9 d0 h;rw [exec_Assign_Name_used _ _ _ _ a0];refine U1 (xt (U1 ?_));show wpAny _ X.A (do let _ <- comprehension (.ListComp n [⟨tg,iter,q,0⟩] a pos) a X.env _ (newList []) false (eval iter X.env) (some (Fc (.Name y D) X.env))) _ _ s
 refine U1 (UZ (bz (use:=some (Fc (.Name y D) X.env)) (QQ:=λ _ s'=>SP X d c9 .next s') r f hc hi a9 b0 he Z hcell G E b1 Q b2
  (λ C g t k S u I pl c7 items J w b3 K a2 a3 T O b4 hz b5=>?_) d0 h) (λ _ s' b6=>Ya (Ya b6)) λ _ _ e=>e)
 have F:k.heap.objs.size<=C:=K.ok.above;obtain ⟨m,b7,_⟩:=K.loc;obtain ⟨L,es,b8,a4,P,M⟩:=id b7;have c8:Inv X d R (upd I g (.lst J)) S:=oE w b3 K a2 a3 T O b4 hz (MY ..);have a5:upd I g (.lst J) C=none:=by rw [BP (JE O)];exact K.free
 have c1:C≠X.env.locals:=MO (Y4 w.lt F);have b9:C∉X.fs:=w.nofs F;have c0:Inv X (d++[(C,L)]) R (upd I g (.lst J)) S:=c8.pins_of λ p l=>by
  rcases YT.mp l with l | l
  ·exact c8.pin p (YN _ l)
  ·have e:p=(C,L):=by simpa using l
   subst e;exact ⟨a4,a5,c1,b9,λ v z=>by rw [P] at z;cases z⟩
 show wpAny _ X.A (Fc (.Name y D) X.env (.ref g)) _ _ S;refine wpAny_assign_Name (Jk c0 W Y a8 (show RelV (.ref g) (XP g) from rfl) (λ a6 a7=>?_) a1)
 obtain ⟨c2,_⟩:=a7.pin (C,L) (YN _ (YN _ (X8.mpr rfl)));refine ⟨m,⟨L,es,b8,c2,P,M⟩,λ h' c3=>?_⟩
 have c4:Inv X d (R.set i (some (.ref g))) (upd I g (.lst J)) a6:=a7.unpinned;refine ⟨_,_,c4.turned (it:=C) (t':=a6.toks) (λ b o hb e=>c3.extBut b o hb e) a5 c1 (.inr (ZE w.sz F)) (λ x c e z=>?_) (λ p l z=>?_),b5 g a3⟩
 ·obtain ⟨v,o,c5,_⟩:=w.cell x c e;exact absurd (Yo c5) (by rw [z];exact Nat.not_lt.mpr F)
 ·have e:=(w.pin p l).1;exact absurd (Yo e) (by rw [z];exact Nat.not_lt.mpr F)
theorem SqT.keep {K:FrG}{H b:Hp}{a:Addr}{xs:List V}(s:Same H b)(h:SqT K H a xs):SqT K b a xs:=by
 rcases h with (h | ⟨o,h⟩) | h
 ·exact .inl (.inl (s _ _ h))
 ·exact .inl (.inr ⟨o,s _ _ h⟩)
 ·exact .inr h
theorem SqL.keep {K:FrG}{H b:Hp}{a:Addr}{xs:List V}(s:Same H b)(h:SqL K H a xs):SqL K b a xs:=s.seq h
mutual
theorem DV.keep {K:FrG}{H a:Hp}(s:Same H a):∀{v:V} {d:Zh},DV K H v d->DV K a v d
 | _,_,.non=>.non
 | _,_,.bl b=>.bl b
 | _,_,.int i=>.int i
 | _,_,.str x=>.str x
 | _,_,.lst h q=>.lst (h.keep s) (DVs.keep s q)
 | _,_,.tup h q=>.tup (h.keep s) (DVs.keep s q)
 | _,_,.dct h=>.dct (s _ _ h)
theorem DVs.keep {K:FrG}{H a:Hp}(s:Same H a):∀{vs:List V} {ds:List Zh},DVs K H vs ds->DVs K a vs ds
 | _,_,.nil=>.nil
 | _,_,.cons h q=>.cons (DV.keep s h) (DVs.keep s q)
end
section
variable {K:FrG}{H:Hp}{v:V}{vs:List V}{d d1 d2 d3 d4:Zh}{ds:List Zh}
theorem DVs.len:∀{vs:List V} {ds:List Zh},DVs K H vs ds->vs.length=ds.length
 | _,_,.nil=>rfl
 | _,_,.cons _ q=>by rw [X2,X2,DVs.len q]
theorem DVs.nil_of (h:DVs K H vs []):vs=[]:=by cases h;rfl
theorem DVs.cons_of (h:DVs K H vs (d::ds)):∃x xs,vs=x::xs/\DV K H x d/\DVs K H xs ds:=by
 cases h with
 | cons h q=>exact ⟨_,_,rfl,h,q⟩
theorem DV.tup_of (h:DV K H v (.tuple ds)):∃a xs,v=.ref a/\SqT K H a xs/\DVs K H xs ds:=by
 cases h with
 | tup h q=>exact ⟨_,_,rfl,h,q⟩
theorem DV.lst_of (h:DV K H v (.list ds)):∃a xs,v=.ref a/\SqL K H a xs/\DVs K H xs ds:=by
 cases h with
 | lst h q=>exact ⟨_,_,rfl,h,q⟩
theorem DVs.one (h:DVs K H vs [d1]):∃x,vs=[x]/\DV K H x d1:=by
 cases h with
 | cons h q=>cases q;exact ⟨_,rfl,h⟩
theorem DVs.two (h:DVs K H vs [d1,d2]):∃x y,vs=[x,y]/\DV K H x d1/\DV K H y d2:=by
 cases h with
 | cons h q=>
  obtain ⟨y,rfl,a⟩:=q.one;exact ⟨_,_,rfl,h,a⟩
theorem DVs.three (h:DVs K H vs [d1,d2,d3]):∃x y z,vs=[x,y,z]/\DV K H x d1/\DV K H y d2/\DV K H z d3:=by
 cases h with
 | cons h q=>
  obtain ⟨y,z,rfl,a,hz⟩:=q.two;exact ⟨_,_,_,rfl,h,a,hz⟩
theorem DVs.four (h:DVs K H vs [d1,d2,d3,d4]):∃x y z u,vs=[x,y,z,u]/\DV K H x d1/\DV K H y d2/\DV K H z d3/\DV K H u d4:=by
 cases h with
 | cons h q=>
  obtain ⟨y,z,u,rfl,a,hz,b⟩:=q.three;exact ⟨_,_,_,_,rfl,h,a,hz,b⟩
theorem DV.t2 (h:DV K H v (.tuple [d1,d2])):∃a x y,v=.ref a/\SqT K H a [x,y]/\DV K H x d1/\DV K H y d2:=by
 obtain ⟨a,xs,rfl,ha,q⟩:=h.tup_of;obtain ⟨x,y,rfl,b,c⟩:=q.two;exact ⟨a,x,y,rfl,ha,b,c⟩
theorem DV.t3 (h:DV K H v (.tuple [d1,d2,d3])):∃a x y z,v=.ref a/\SqT K H a [x,y,z]/\DV K H x d1/\DV K H y d2/\DV K H z d3:=by
 obtain ⟨a,xs,rfl,ha,q⟩:=h.tup_of;obtain ⟨x,y,z,rfl,b,c,hz⟩:=q.three;exact ⟨a,x,y,z,rfl,ha,b,c,hz⟩
theorem DV.t4 (h:DV K H v (.tuple [d1,d2,d3,d4])):∃a x y z u,v=.ref a/\SqT K H a [x,y,z,u]/\DV K H x d1/\DV K H y d2/\DV K H z d3/\DV K H u d4:=by
 obtain ⟨a,xs,rfl,ha,q⟩:=h.tup_of;obtain ⟨x,y,z,u,rfl,b,c,hz,e⟩:=q.four;exact ⟨a,x,y,z,u,rfl,ha,b,c,hz,e⟩
theorem DV.int_of {i:Int}(h:DV K H v (.int i)):v=.int i:=by cases h;rfl
theorem DV.str_of {x:Str}(h:DV K H v (.str x)):v=.str x:=by cases h;rfl
theorem DV.bl_of {b:Bool}(h:DV K H v (.bool b)):v=.bl b:=by cases h;rfl
theorem DV.non_of (h:DV K H v .none):v=.non:=by cases h;rfl
theorem DVs.get:∀{vs:List V} {ds:List Zh} {i:Nat} {v:V},DVs K H vs ds->vs[i]?=some v->∃d,ds[i]?=some d/\DV K H v d
 | _,_,_,_,.nil,e=>by simp at e
 | _,_,0,_,.cons h _,e=>by simp at e;subst e;exact ⟨_,rfl,h⟩
 | _,_,i+1,v,.cons _ q,e=>by
  obtain ⟨d,a,b⟩:=DVs.get (i:=i) (v:=v) q (by simpa using e)
  exact ⟨d,by simpa using a,b⟩
theorem DVs.append:∀{vs a:List V} {ds es:List Zh},DVs K H vs ds->DVs K H a es->DVs K H (vs++a) (ds++es)
 | _,_,_,_,.nil,q=>q
 | _,_,_,_,.cons h t,q=>.cons h (DVs.append t q)
theorem DVs.take:∀{vs:List V} {ds:List Zh} (n:Nat),DVs K H vs ds->DVs K H (vs.take n) (ds.take n)
 | _,_,0,_=>.nil
 | _,_,_+1,.nil=>.nil
 | _,_,n+1,.cons h t=>.cons h (DVs.take n t)
theorem DVs.drop:∀{vs:List V} {ds:List Zh} (n:Nat),DVs K H vs ds->DVs K H (vs.drop n) (ds.drop n)
 | _,_,0,h=>h
 | _,_,_+1,.nil=>.nil
 | _,_,n+1,.cons _ t=>DVs.drop n t
end
def Jc:Zh->String
 | .none=>"NoneType"
 | .bool _=>"bool"
 | .int _=>"int"
 | .str _=>"str"
 | .list _=>"list"
 | .tuple _=>"tuple"
 | .dict _=>"dict"
section
variable {X:Cx}
inductive Ak9 (K:FrG)(xs:List V)(H:Hp)(Q:VK):Prop | mk (x d c b:_) (_:xs=[x,.ty c]) (_:DV K H x d) (_:Bw (Jc d) c=some b) (_:Q (.bl b) H)
theorem Ff:CallR X (.builtin "isinstance") (Ak9 X.K):=by
 intro k s m H xs us Q j r h;obtain ⟨x,d,c,b,rfl,hd,e,q⟩:=h;obtain ⟨u,v,rfl,f,l⟩:=vals2 r;cases (show v=jT c from l)
 have g:=Ai8 (K:=X.K) e;have a:∀tk,EP X k m Q (.bool b) { s with toks:=tk }:=λ tk=>⟨.bl b,H,j.tok _,rfl,q⟩
 cases hd with
 | non=>exact Ln j f .non g a
 | bl b=>exact Ln j f (.bl b) g a
 | int i=>exact Ln j f (.int i) g a
 | str x=>exact Ln j f (.str x) g a
 | lst h _=>
  cases f
  obtain ⟨its,l,⟨o,n,e1,e2,_⟩,_⟩:=j.list h;exact WB GB j.kIn ⟨o,e1,e2⟩ g (λ z=>nomatch z) a
 | tup h _=>
  cases f
  obtain ⟨its,l,⟨o,e1,e2,_⟩,_⟩:=j.tuple h;exact WB MH j.kIn ⟨o,e1,e2⟩ g (λ z=>nomatch z) a
 | dct h=>exact Ln j f (.dK h) g a
end
section
variable {X:Cx}{K:FrG}
theorem m8 (a:X.K=K:=by rfl):IxR X (rIxT K):=a▸Al
theorem AZ8 (a:X.A.units+64 < cLine)(b:X.K=K:=by rfl):OpR X (Uh .NotEq) (Qi K):=b▸Ke a
end
def Ks (K:FrG)(a:Addr):It:=
 ⟨λ i H=>∃xs x,SqL K H a xs/\xs[i]?=some x,λ i H x b=>∃p v,H p=none/\x=.ref p/\(∀xs,SqL K H a xs->xs[i]?=some v)/\b=upd H p (.tup [.int i,v]),λ i H=>∃xs,SqL K H a xs/\xs.length<=i⟩
theorem zK {P:YA}{w:World}{K:FrG}{L:List Expr}{x1}{M:Pos}(a e it:Addr)(I:e≠it):Turn P w K (.Tuple L x1 M) (Ks K a) [e,it] e (λ i h=>(∃old,IsEnum h e it (i:Int) old)/\h.IsListIter it a i) where
 mem:=by simp
 obj:=λ i h ⟨⟨old,st⟩,b0,b1,c4,d'⟩ b hb=>by
  rcases X1.mp hb with z | z
  ·subst z;exact ⟨_,st,λ v q=>by cases q⟩
  ·have z:b=it:=by simpa using z
   subst z;exact ⟨b0,b1,λ v q=>by rw [d'] at q;cases q⟩
 keep:=λ i h h' ⟨⟨old,st⟩,f⟩ k=>⟨⟨old,k e (by simp) _ st⟩,f.at λ o q=>k it (by simp) o q⟩
 item:=by
  intro X N O Q hc i j s a0 H E B hf ⟨⟨old,st⟩,f⟩ R;subst N O Q;obtain ⟨xs,x,C,S⟩:=R;obtain ⟨its,T,p,hz⟩:=B.list C;obtain ⟨u,b2,b3⟩:=T.get S;obtain ⟨a1,a2,c5,b4,b5,b6⟩:=hf e (by simp)
  obtain ⟨D,F,b7,U,V,W⟩:=hf it (by simp)
  refine wpAny_pyNext_enum_item st f p.isList (x:=u) (by simpa using b2) I λ c6 a3 Y a4 c3 a5=>?_
  refine ⟨_,rfl,?_⟩;refine wpAny_letOwnedTupleGo_enum a3 λ Z a6 l=>?_
  have t:∀b o,s.heap.get? b=some o->b≠s.heap.objs.size:=λ b o q=>XO (Yo q)
  have A:∀b o,b≠e->b≠it->s.heap.get? b=some o->Z.get? b=some o:=λ b o J a7 q=>l.extBut b o J (a5 b o J a7 q)
  have G:∀b o,H b=some o->b≠e/\b≠it:=λ b o q=>⟨(λ z=>by rw [z,a1] at q;cases q),λ z=>by rw [z,D] at q;cases q⟩
  have g:H s.heap.objs.size=none:=B.hok.fresh (ZY _);have a8:Z.get? s.heap.objs.size=some { cls:=.type "tuple",data:=.seq #[.int i s.toks,u] }:=l.extBut _ _ (MO (Yo st)) a4;have c7:Inv X j a0 (upd H s.heap.objs.size (.tup [.int i,x])) { s with heap:=Z,toks:=s.toks+1 }:=by
   refine B.step (g':=s.gens) (d':=s.drawn) (ch:=[e,it]) (λ b hb=>?_) (λ b o _ _ d q n=>A b o (λ z=>d (by simp [z])) (λ z=>d (by simp [z])) q) (λ b o _ _ d q n=>⟨o.slots,A b o (λ z=>d (by simp [z])) (λ z=>d (by simp [z])) q⟩)
    (λ b o _ q n=>by rw [BP (t b o q)];exact n) (λ b o d q=>⟨o,A b o (λ z=>d (by simp [z])) (λ z=>d (by simp [z])) q⟩)
    (λ b a9 q=>by rw [BP (Bt q g)];exact q) (λ b o y q=>by rw [BP (Bt q g)];exact q) (λ b ps q=>⟨#[],by rw [BP (Bt q g),q];simp⟩) (λ m b8=>?_) (λ b o q=>?_) B.bare
   ·rcases X1.mp hb with z | z
    ·subst z;exact ⟨b4,a2,b5,b6⟩
    ·have z:b=it:=by simpa using z
     subst z;exact ⟨U,F,V,W⟩
   ·obtain ⟨o,es,b9,c0,r⟩:=b8;exact ⟨o,es,b9,A _ o (JE a2) (JE F) c0,r⟩
   ·by_cases hb:b=s.heap.objs.size
    ·subst hb;rw [Aq] at q;cases q
     exact ⟨by show 2<=Y3;decide,[.int i s.toks,u],.cons ⟨_,rfl⟩ (.cons b3 .nil),_,a8,rfl,_,rfl⟩
    ·rw [BP hb] at q;refine (B.hok b o q).stay (λ c v d z=>A c v ?_ ?_ z) (λ c z=>by rw [BP (Bt z g)];exact z) λ c a9 z=>by rw [BP (Bt z g)];exact z
     ·rcases d with z | z
      ·rw [z];exact (G b o q).1
      ·exact (G c _ z).1
     ·rcases d with z | z
      ·rw [z];exact (G b o q).2
      ·exact (G c _ z).2
  refine ⟨.ref s.heap.objs.size,_,c7,rfl,⟨s.heap.objs.size,x,g,rfl,(λ a9 c1=>by rw [B.list_inj c1 C];exact S),rfl⟩,⟨⟨u,?_⟩,?_⟩,λ b hb=>?_⟩
  ·have z:((i+1:Nat):Int)=(i:Int)+1:=by push_cast;rfl
   rw [z];exact a6
  ·exact Y.extBut l.extBut (JE I)
  ·rcases X1.mp hb with z | z
   ·subst z;rw [BP (t _ _ st)];exact a1
   ·have z:b=it:=by simpa using z
    subst z;obtain ⟨o,q,_⟩:=f;rw [BP (t _ _ q)];exact D
 done:=by
  intro X N O Q hc i j s a0 H E B hf ⟨⟨old,st⟩,f⟩ R;subst N O Q;obtain ⟨xs,C,S⟩:=R;obtain ⟨its,T,p,hz⟩:=B.list C;obtain ⟨D,F,b7,U,V,W⟩:=hf it (by simp)
  have hl:=T.length;exact wpAny_pyNext_enum_end (B.ok.hd hc) st f p.isList (by simp;omega) λ h' c2=>⟨rfl,B.turned (t':=s.toks) (λ b o hb e=>c2 b o hb e) D F U V W⟩
 self:=λ _ _ _ _ _ ⟨⟨old,st⟩,_⟩ h=>wpAny_pyIter_enum st h
section
variable {X:Cx}{elts:List Expr}{x1:Nat}{tpos:Pos}
inductive AT1 (K:FrG)(R:It->Hp->Prop)(vs:List V)(H1:Hp):Prop | mk (a:_) (_:vs=[.ref a]) (_:(∃xs,SqL K H1 a xs)) (_:R (Ks K a) H1)
def yz (K:FrG)(a:TA):TI:=λ b H d=>a b H λ vs c=>AT1 K d vs c
theorem Lb {a:Expr}{g:TA}{p pos:Pos}(k:Gl X "enumerate")(l:X.mg "enumerate"=none)(ha:PA X [a] g)(m:XE [a] X.env=[(false,eval a X.env)]:=by rfl):PI X (.Tuple elts x1 tpos) (.Call (.Name "enumerate" p) [a] [] pos) (yz X.K g):=by
 intro f s i H A x h;refine Call_ (Il x k l boot_enumerate (UP (thn (ha pos f s i H _ x h) λ us c ⟨vs,j,d,n,o⟩=>?_) m rfl))
 obtain ⟨a,e,⟨xs,t⟩,q⟩:=o;subst e;obtain ⟨u,rfl,r⟩:=vals1 n;cases r
 obtain ⟨its,y,p,hz⟩:=d.list t;refine call_enumerate_list p.isList λ h' he hi hsz v=>?_
 have w:Inv X f i j { c with heap:=h' }:=d.kept (t':=c.toks) v
 refine wpAny_pyIter_enum he ⟨c.heap.objs.size+1,[c.heap.objs.size+1,c.heap.objs.size],_,_,j,rfl,w,zK a _ _ (Nat.succ_ne_self _),⟨⟨_,he⟩,hi⟩,λ b hb=>?_,q⟩
 rcases X1.mp hb with z | z
 ·subst z;exact d.fpOk (NH _) (d.hok.fresh (NH _))
 ·have z:b=c.heap.objs.size:=by simpa using z
  subst z;exact d.fpOk (ZY _) (d.hok.fresh (ZY _))
end
theorem M7 {K:FrG}{a:Addr}{xs:List V}{w:TG}{tb:TS}{k:Ends}{b:St}{H:Hp}(c:Nat->St->Hp->Prop)(o:c 0 b H)(hl:∀i b H,i<=xs.length->c i b H->SqL K H a xs)
  (s:∀i x b H p,xs[i]?=some x->c i b H->H p=none->w (.ref p) b (upd H p (.tup [.int i,x])) λ f j=>tb { k with nx:=c (i+1),ct:=c (i+1),bk:=k.nx } f j) (hd:∀b H,c xs.length b H->k.nx b H):
  ∃t:Nat->Nat->St->Hp->Prop,(∃m,t 0 m b H)/\∀i m b H,t i m b H->
   ((Ks K a).stop i H/\k.nx b H)\/((Ks K a).go i H/\∃N:St->Hp->Prop,(∀g d,N g d->∃l,l < m/\t (i+1) l g d)/\∀x d,(Ks K a).yld i H x d->w x b d λ f j=>tb { k with nx:=N,ct:=N,bk:=k.nx } f j):=by
 refine ⟨λ i m b H=>m=xs.length - i/\i<=xs.length/\c i b H,⟨xs.length,by simp,WI _,o⟩,?_⟩
 rintro i m b H ⟨rfl,hi,p⟩
 have q:=hl i b H hi p;by_cases h:i < xs.length
 ·refine .inr ⟨⟨xs,xs[i],q,by simp [h]⟩,c (i+1),λ g d u=>⟨xs.length - (i+1),by omega,rfl,h,u⟩,λ x d y=>?_⟩
  obtain ⟨r,v,n,rfl,y,rfl⟩:=y;exact s i v b H r (y xs q) p n
 ·have e:i=xs.length:=by omega
  subst e;exact .inl ⟨⟨xs,q,ZY _⟩,hd b H p⟩
def Nx (n:Nat)(b:Nat->St->List V->Hp->Prop)(i:Nat)(c:St)(d:List V)(H:Hp):Prop:=∃a,a < n - i/\(a=n - (i+1)/\i+1<=n/\b (i+1) c d H)
theorem nx {n:Nat}{a:Nat->St->List V->Hp->Prop}{i:Nat}{b:St}{c:List V}{H:Hp}(hi:i < n)(h:a (i+1) b c H):Nx n a i b c H:=⟨n - (i+1),by omega,rfl,hi,h⟩
theorem CQ {a:Type}{xs:List a}{i:Nat}{x:a}(h:xs[i]?=some x):i < xs.length:=(YL.mp h).1
theorem U9 {K:FrG}{a:Addr}{xs:List V}{v:TG}{tt:TT}{j:TE}{Q:VK}{d:St}{H:Hp}(f:Nat->St->List V->Hp->Prop)(o:f 0 d [] H)(hz:∀i d c H,i<=xs.length->f i d c H->c.length<=Y3/\SqL K H a xs)
  (s:∀i x d c H,xs[i]?=some x->f i d c H->v x d H λ g t=>tt g t λ b k=>if b=true then j g k λ y u=>Nx xs.length f i g (c++[y]) u else Nx xs.length f i g c k)
  (hd:∀d c H p,f xs.length d c H->H p=none->Q (.ref p) (upd H p (.lst c))):
  JC v tt j (Itl K a) d H Q:=by
 refine ⟨λ i m d c H=>m=xs.length - i/\i<=xs.length/\f i d c H,⟨xs.length,by simp,WI _,o⟩,?_⟩
 rintro i m h c H ⟨rfl,hi,p⟩
 obtain ⟨z,q⟩:=hz i h c H hi p;refine ⟨z,?_⟩;by_cases l:i < xs.length
 ·refine .inr ⟨⟨xs,xs[i],q,by simp [l]⟩,λ x w y=>?_⟩
  obtain ⟨rfl,y⟩:=y;exact s i x h c _ (y xs q) p
 ·have e:i=xs.length:=by omega
  subst e;exact .inl ⟨⟨xs,q,ZY _⟩,λ r n=>hd h c _ r p n⟩
theorem AQ0 {K:FrG}{a:Addr}{xs:List V}{v:TG}{tt:TT}{j:TE}{Q:VK}{d:St}{H:Hp}(f:Nat->St->List V->Hp->Prop)(o:f 0 d [] H)(hz:∀i d c H,i<=xs.length->f i d c H->c.length<=Y3/\SqT K H a xs)
  (s:∀i x d c H,xs[i]?=some x->f i d c H->v x d H λ g t=>tt g t λ b k=>if b=true then j g k λ y u=>Nx xs.length f i g (c++[y]) u else Nx xs.length f i g c k)
  (hd:∀d c H p,f xs.length d c H->H p=none->Q (.ref p) (upd H p (.lst c))):
  JC v tt j (Itt K a) d H Q:=by
 refine ⟨λ i m d c H=>m=xs.length - i/\i<=xs.length/\f i d c H,⟨xs.length,by simp,WI _,o⟩,?_⟩
 rintro i m h c H ⟨rfl,hi,p⟩
 obtain ⟨z,q⟩:=hz i h c H hi p;refine ⟨z,?_⟩;by_cases l:i < xs.length
 ·refine .inr ⟨⟨xs,xs[i],q,by simp [l]⟩,λ x w y=>?_⟩
  obtain ⟨rfl,y⟩:=y;exact s i x h c _ (y xs q) p
 ·have e:i=xs.length:=by omega
  subst e;exact .inl ⟨⟨xs,q,ZY _⟩,λ r n=>hd h c _ r p n⟩
theorem lV {lo:Int}{n:Nat}{t:TG}{tt:TT}{j:TE}{Q:VK}{c:St}{H:Hp}(d:Nat->St->List V->Hp->Prop)(l:d 0 c [] H)(hz:∀i c a H,i<=n->d i c a H->a.length<=Y3)
  (o:∀i c a H,i < n->d i c a H->t (.int (lo+i)) c H λ f q=>tt f q λ b k=>if b=true then j f k λ y s=>Nx n d i f (a++[y]) s else Nx n d i f a k)
  (hd:∀c a H p,d n c a H->H p=none->Q (.ref p) (upd H p (.lst a))):
  JC t tt j (Itr lo n) c H Q:=by
 refine ⟨λ i m c a H=>m=n - i/\i<=n/\d i c a H,⟨n,by simp,WI _,l⟩,?_⟩
 rintro i m g a H ⟨rfl,hi,p⟩
 refine ⟨hz i g a H hi p,?_⟩;by_cases h:i < n
 ·refine .inr ⟨h,λ x u y=>?_⟩
  obtain ⟨rfl,rfl⟩:=y;exact o i g a _ h p
 ·have e:i=n:=by omega
  subst e;exact .inl ⟨ZY _,λ r n=>hd g a _ r p n⟩
theorem JD {K:FrG}{a:Addr}{xs:List V}{n:TG}{f:TE}{Q:VK}{b:St}{H:Hp}(d:Nat->St->List V->Hp->Prop)(g:d 0 b [] H)(hz:∀i b c H,i<=xs.length->d i b c H->c.length<=Y3/\SqL K H a xs)
  (h:∀i x b c H,xs[i]?=some x->d i b c H->n x b H λ e j=>f e j λ y k=>Nx xs.length d i e (c++[y]) k)
  (hd:∀b c H p,d xs.length b c H->H p=none->Q (.ref p) (upd H p (.lst c))):JC n Hz f (Itl K a) b H Q:=
 U9 d g hz (λ i x b c H l m=>by
  have:=h i x b c H l m
  simpa only [Hz,if_true] using this) hd
theorem Mm {K:FrG}{a:Addr}{xs:List V}{n:TG}{f:TE}{Q:VK}{b:St}{H:Hp}(d:Nat->St->List V->Hp->Prop)(g:d 0 b [] H)(hz:∀i b c H,i<=xs.length->d i b c H->c.length<=Y3/\SqT K H a xs)
  (h:∀i x b c H,xs[i]?=some x->d i b c H->n x b H λ e j=>f e j λ y k=>Nx xs.length d i e (c++[y]) k)
  (hd:∀b c H p,d xs.length b c H->H p=none->Q (.ref p) (upd H p (.lst c))):JC n Hz f (Itt K a) b H Q:=
 AQ0 d g hz (λ i x b c H l m=>by
  have:=h i x b c H l m
  simpa only [Hz,if_true] using this) hd
theorem AT4 {lo:Int}{n:Nat}{m:TG}{e:TE}{Q:VK}{a:St}{H:Hp}(c:Nat->St->List V->Hp->Prop)(f:c 0 a [] H)(hz:∀i a b H,i<=n->c i a b H->b.length<=Y3)
  (g:∀i a b H,i < n->c i a b H->m (.int (lo+i)) a H λ d h=>e d h λ y j=>Nx n c i d (b++[y]) j)
  (hd:∀a b H p,c n a b H->H p=none->Q (.ref p) (upd H p (.lst b))):JC m Hz e (Itr lo n) a H Q:=
 lV c f hz (λ i a b H k l=>by
  have:=g i a b H k l
  simpa only [Hz,if_true] using this) hd
theorem Fw {a:List (Option Nat)}{P:Nat->Nat->Prop}(h:a.all (·.isNone)=true):∀i j,a[i]?=some (some j)->P i j:=λ i j e=>by
 have:=Fs.mp h _ (ZI e);cases this
theorem RoomB.room {k:Nat}{A:XW}(r:RoomB true k A):Room k A:=⟨r.hd rfl,r.dp,r.un⟩
structure MC (P:YA)(w:World)(K:FrG)(mg:Str->Option Value)(base:Heap)(k:Nat)(C:Addr)(m:Str)(ps:List Str)(sp:Sp):Prop where
 ex:∃(f:Addr) (fd:UH),FnB P w K mg base true k f fd ps sp/\Meth K C m f/\Binds K fd ps []
 cl:Cls K C
structure MtFn (K:FrG)(C:Addr)(m qual:Str)(st:Stmt):Prop where
 ex:∃(f:Addr) (fd:UH),Fun K m qual st f fd/\Meth K C m f
 cl:Cls K C
theorem MtFn.mc {P:YA}{w:World}{K:FrG}{mg:Str->Option Value}{base:Heap}{C:Addr}{m b:Str}{st:Stmt}{N ps:List Str}{k:Nat}{sp:Sp}(T:MtFn K C m b st)(u:FnScope N ps (defScope st))
  (hb:∀(kV d e:Value) (g:Option Addr) (a ct:Value) (us:List Value),us.length=ps.length->ut (YP m b (defArgs st) (defBody st) (defScope st) .none kV d e g a ct) ⟨us,[]⟩=pure (ps.zip us))
  (len:∀vs H Q E,sp vs H Q E->vs.length=ps.length)
  (c:∀(f:Addr) (a:Value) (A:XW) (outer:List Env) (s:U2) (H:Hp) (vs:List V) (Q:VK) (E:XK),RoomB true k (A.deeper (wq b (defScope st) s.heap.objs.size f a))->sp vs H Q E->
   ∃t,PSs (Eu true P w K mg base N b (defScope st) f a A outer s H E).nox (defBody st) t/\t { nx:=λ _ i=>Q .non i,rt:=Q } (start N vs) H):MC P w K mg base (k+1) C m ps sp:=by
 obtain ⟨f,fd,q,j⟩:=T.ex;obtain ⟨v,x,kV,d,e,g,a,ct,r,rfl,l,cd⟩:=id q.ex;refine ⟨⟨f,_,NT l cd u len λ A outer s H vs Q E n h=>?_,j,q.binds hb⟩,T.cl⟩
 obtain ⟨t,o,p⟩:=c f a A outer s H vs Q E n h;exact ⟨t,o.nox,p⟩
structure MkC (P:YA)(w:World)(K:FrG)(mg:Str->Option Value)(base:Heap)(k:Nat)(x:Str)(C:Addr)(ps:List Str)(sp:Sp):Prop where
 ex:∃(f:Addr) (fd:UH),FnB P w K mg base true k f fd ps sp/\Mk K C f/\Binds K fd ps []
 mg:mg x=some (.ref C)
structure MkFn (K:FrG)(mg:Str->Option Value)(x:Str)(C:Addr)(qual:Str)(st:Stmt):Prop where
 ex:∃(f:Addr) (fd:UH),Fun K "__init__" qual st f fd/\Mk K C f
 mg:mg x=some (.ref C)
theorem MkFn.mkc {P:YA}{w:World}{K:FrG}{mg:Str->Option Value}{base:Heap}{x:Str}{C:Addr}{b:Str}{st:Stmt}{N ps:List Str}{k:Nat}{sp:Sp}(T:MkFn K mg x C b st)(r:FnScope N ps (defScope st))
  (hb:∀(kV d e:Value) (g:Option Addr) (a ct:Value) (us:List Value),us.length=ps.length->ut (YP "__init__" b (defArgs st) (defBody st) (defScope st) .none kV d e g a ct) ⟨us,[]⟩=pure (ps.zip us))
  (len:∀vs H Q E,sp vs H Q E->vs.length=ps.length)
  (c:∀(f:Addr) (a:Value) (A:XW) (outer:List Env) (s:U2) (H:Hp) (vs:List V) (Q:VK) (E:XK),RoomB true k (A.deeper (wq b (defScope st) s.heap.objs.size f a))->sp vs H Q E->
   ∃t,PSs (Eu true P w K mg base N b (defScope st) f a A outer s H E).nox (defBody st) t/\t { nx:=λ _ i=>Q .non i,rt:=Q } (start N vs) H):MkC P w K mg base (k+1) x C ps sp:=by
 obtain ⟨f,fd,p,j⟩:=T.ex;obtain ⟨u,v,kV,d,e,g,a,ct,q,rfl,l,cd⟩:=id p.ex;refine ⟨⟨f,_,NT l cd r len λ A outer s H vs Q E m h=>?_,j,p.binds hb⟩,T.mg⟩
 obtain ⟨t,n,o⟩:=c f a A outer s H vs Q E m h;exact ⟨t,n.nox,o⟩
section
variable {X:Cx}{k:Nat}{C:Addr}{ps:List Str}{sp:Sp}{x m:Str}{p pos apos:Pos}{e o:Expr}{es:List Expr}{ta:TE}{t:TA}
inductive uc (P:YA)(w:World)(K:FrG)(mg:Str->Option Value)(base:Heap)(k:Nat)(m:Str)(t:TA)(σ:St)(Q:VK)(x:V)(H1:Hp):Prop | mk (a C dx fs ps sp:_) (_:x=.ref a) (_:H1 a=some (.ins C dx fs)) (_:fs.lookup m=none) (_:MC P w K mg base k C m ps sp) (_:t σ H1 λ vs H2=>sp (x::vs) H2 Q E0)
def dq (P:YA)(w:World)(K:FrG)(mg:Str->Option Value)(base:Heap)(k:Nat)(m:Str)(ta:TE)(t:TA):TE:=λ a H Q=>ta a H λ x b=>uc P w K mg base k m t a Q x b
theorem CZ {pl:Sem Bool}(he:PE X o ta)(y:RoomB true k X.A)(ha:PA X (e::es) t)
  (c:XE (e::es) X.env=(false,eval e X.env)::XE es X.env:=by rfl) (d:(yT pos (XE es X.env)).any (·.1)=false:=by rfl)
  (z:eval (.Call (.Attribute o m apos) (e::es) [] pos) X.env=(do
   let g <- eval o X.env
   standAt apos.atName
   let (f,first) <- GM [g] (getMethod g m pl)
   callWith pos f first (yT pos (XE (e::es) X.env)) (backToKw pos (GT [] X.env))):=by rfl):
  PE X (.Call (.Attribute o m apos) (e::es) [] pos) (dq X.prog X.w X.K X.mg X.base k m ta t):=by
 intro b s i H Q J h;refine NC (pl:=pl) (thn (he b s i H _ J h) λ u B ⟨x,D,j,F,a,C,L,fs,ps,sp,ex,G,l,M,q⟩=>?_) z
 subst ex;obtain rfl:u=XP a:=F;obtain ⟨f,fd,N,n,hb⟩:=M.ex;refine fM j G M.cl n l ?_;refine ya (first:=[.ref a]) (h₀:=X.base) J.ok.mod.kin n.kp (thn (ha pos b B i D _ j q) λ us O ⟨vs,P,v,r,I⟩=>⟨v.kIn,?_⟩) c d
 exact dW (us:=.ref a::us) (vs:=.ref a::vs) (dvs:=[]) (ds:=[]) (E:=E0) N.ok y.room hb .nil Af v (.cons rfl r) (by rw [Xg];exact I)
theorem Ik {pl:Sem Bool}(he:PE X o ta)(i:RoomB true k X.A)
  (j:eval (.Call (.Attribute o m apos) [] [] pos) X.env=(do
   let d <- eval o X.env
   standAt apos.atName
   let (f,first) <- GM [d] (getMethod d m pl)
   callWith pos f first (yT pos (XE [] X.env)) (backToKw pos (GT [] X.env))):=by rfl):
  PE X (.Call (.Attribute o m apos) [] [] pos) (dq X.prog X.w X.K X.mg X.base k m ta tNil):=by
 intro b s n H Q y h;refine NC (pl:=pl) (thn (he b s n H _ y h) λ u z ⟨x,B,c,r,a,C,D,fs,ps,sp,ex,v,l,M,q⟩=>?_) j
 subst ex;obtain rfl:u=XP a:=r;obtain ⟨f,fd,F,g,hb⟩:=M.ex;refine fM c v M.cl g l ?_;exact Mv (first:=[.ref a]) c.kIn g.kp (dW (us:=[.ref a]) (vs:=[.ref a]) (dvs:=[]) (ds:=[]) (E:=E0) F.ok i.room hb .nil Af c (.cons rfl .nil) q)
theorem Jj (M:MkC X.prog X.w X.K X.mg X.base k x C ps sp)(c:RoomB true (k+1) X.A)(ha:PA X (e::es) t)(d:Gl X x:=by rfl)(a:(x == ("__debug__":Str))=false:=by decide)
  (he:XE (e::es) X.env=(false,eval e X.env)::XE es X.env:=by rfl) (b:(yT pos (XE es X.env)).any (·.1)=false:=by rfl):
  PE X (.Call (.Name x p) (e::es) [] pos) (tMake C sp [] E0 t):=by
 obtain ⟨f,fd,h,g,hb⟩:=M.ex;exact xV g h.ok c.room d M.mg hb .nil Af ha a he b
theorem Fi {f:Str}(he:PE X e ta)(hb:wW e f X.env (eval e X.env)=eval e X.env:=by rfl):PE X (.Attribute e f pos) (tFld X.K ta f):=AS6 he hb
theorem J8 {f:Str}{b:Pos}{a:Expr}{c:TE}(ha:PE X o ta)(hv:PE X a c)(d:jS a (some (.Attribute o f b)) pos.line X.env=pure false:=by rfl):PS X (.Assign [.Attribute o f b] a pos) (sFld X.K ta c f):=wV ha hv d
end
end L2
namespace Fr
theorem lG {r:Rat}{t b:Int}(h:b≠0)(e:r=YV t b):r.num.natAbs<=t.natAbs/\r.den<=b.natAbs:=by
 subst e;have a:=AV7 t b h;have c:=AH6 (t:=t) h;rw [Z6 h] at a;rw [eV h,YO] at c;exact ⟨a,c⟩
structure Bd (k:Nat)(q:Rat):Prop where
 n:q.num.natAbs < 2 ^ k
 d:q.den < 2 ^ k
theorem DP {m n:Nat}(h:m<=n):2 ^ m<=2 ^ n:=JY ⋯ h
theorem Bd.mono {m n:Nat}{q:Rat}(h:Bd m q)(le:m<=n):Bd n q:=⟨Y4 h.n (DP le),Y4 h.d (DP le)⟩
theorem Bd.neg {n:Nat}{q:Rat}(h:Bd n q):Bd n (-q):=⟨by rw [NJ,UX];exact h.n,by rw [NL];exact h.d⟩
theorem Bd.of {n:Nat}{t b:Int}(a:b≠0)(c:t.natAbs < 2 ^ n)(hb:b.natAbs < 2 ^ n):Bd n (YV t b):=by
 obtain ⟨d,e⟩:=lG a (rfl:YV t b=YV t b);exact ⟨by omega,by omega⟩
theorem S9 {a b m n:Nat}(ha:a < 2 ^ m)(hb:b < 2 ^ n):a * b < 2 ^ (m+n):=by
 rw [NN];exact wE ha hb
theorem Cz {x y:Int}{m n:Nat}(a:x.natAbs < 2 ^ m)(b:y.natAbs < 2 ^ n):(x * y).natAbs < 2 ^ (m+n):=by
 rw [WE];exact S9 a b
theorem gJ {x y:Int}{n:Nat}(a:x.natAbs < 2 ^ n)(b:y.natAbs < 2 ^ n):(x+y).natAbs < 2 ^ (n+1):=by
 have:=Int.natAbs_add_le x y;rw [jC];omega
theorem nO {x y:Int}{n:Nat}(a:x.natAbs < 2 ^ n)(b:y.natAbs < 2 ^ n):(x - y).natAbs < 2 ^ (n+1):=by
 rw [jC];omega
theorem Bd.dn {n:Nat}{q:Rat}(h:Bd n q):((q.den:Int)).natAbs < 2 ^ n:=by rw [YO];exact h.d
theorem Rf (p q:Rat):(p.den:Int) * (q.den:Int)≠0:=yl (G9 p) (G9 q)
section
variable {m n:Nat}{p q:Rat}(hp:Bd m p)(hq:Bd n q)
include hp hq
theorem Bd.add:Bd (m+n+1) (p+q):=by
 rw [<- Vt];refine Bd.of (Rf p q) (gJ (Cz hp.n hq.dn) ?_) (Y4 (Cz hp.dn hq.dn) (DP ∅))
 have:=Cz hq.n hp.dn;rw [FR m n];exact this
theorem Bd.sub:Bd (m+n+1) (p - q):=by
 rw [<- jM];refine Bd.of (Rf p q) (nO (Cz hp.n hq.dn) ?_) (Y4 (Cz hp.dn hq.dn) (DP ∅))
 have:=Cz hq.n hp.dn;rw [FR m n];exact this
theorem Bd.mul:Bd (m+n) (p * q):=by
 rw [<- oV];exact Bd.of (Rf p q) (Cz hp.n hq.n) (Cz hp.dn hq.dn)
theorem Bd.div (a:q≠0):Bd (m+n) (p / q):=by
 rw [<- iZ];refine Bd.of (yl (G9 p) λ e=>a ((ig q).mp e)) (Cz hp.n hq.dn) (Cz hp.dn hq.n)
end
structure Rb (n:Nat)(y u:Rat):Prop where
 ex:∃(Y U:Int) (N:Nat),N≠0/\N < 2 ^ n/\Y.natAbs < 2 ^ n/\U.natAbs < 2 ^ n/\y=YV Y N/\u=YV U N
theorem Rb.mono {m n:Nat}{y u:Rat}(h:Rb m y u)(le:m<=n):Rb n y u:=by
 obtain ⟨d,U,N,a,e,f,g,b,c⟩:=h.ex;have:=DP le;exact ⟨d,U,N,a,by omega,by omega,by omega,b,c⟩
theorem Rb.y {n:Nat}{y u:Rat}(h:Rb n y u):Bd n y:=by
 obtain ⟨g,U,N,c,d,a,e,b,f⟩:=h.ex;rw [b];exact Bd.of ∅ a ∅
theorem Rb.u {n:Nat}{y u:Rat}(h:Rb n y u):Bd n u:=by
 obtain ⟨g,U,N,c,d,e,a,f,b⟩:=h.ex;rw [b];exact Bd.of ∅ a ∅
theorem Rb.of {n:Nat}{y u:Rat}(a:Bd n y)(b:Bd n u):Rb (n+n) y u:=by
 refine ⟨y.num * (u.den:Int),u.num * (y.den:Int),y.den * u.den,?_,?_,Cz a.n b.dn,Cz b.n a.dn,?_,?_⟩
 ·exact Nat.mul_ne_zero y.den_nz u.den_nz
 ·exact S9 a.d b.d
 ·rw [show ((y.den * u.den:Nat):Int)=(y.den:Int) * (u.den:Int) by simp,xb (G9 u),GR]
 ·rw [show ((y.den * u.den:Nat):Int)=(u.den:Int) * (y.den:Int) by simp [Int.mul_comm],xb (G9 y),GR]
theorem Ae0 (b U dn:Int)(N dd:Int)(a:N≠0)(c:dd≠0):YV b N+YV dn dd * YV U N=YV (b * dd+dn * U) (N * dd):=by
 rw [wv,NA _ _ a (yl c a)];rw [show b * (dd * N)+dn * U * N=(b * dd+dn * U) * N by rw [Int.add_mul,Int.mul_assoc b],show N * (dd * N)=(N * dd) * N by rw [Int.mul_assoc],xb a]
theorem uF (b dd N:Int)(c:N≠0)(a:dd≠0):YV b N=YV (b * dd) (N * dd):=(xb a).symm
theorem Rb.gap {n m:Nat}{y u d:Rat}(h:Rb n y u)(hd:Bd m d):Rb (n+m+1) (y+d * u) u:=by
 obtain ⟨j,U,N,e,f,g,a,i,b⟩:=h.ex;have c:(N:Int)≠0:=by omega
 refine ⟨j * (d.den:Int)+d.num * U,U * (d.den:Int),N * d.den,Nat.mul_ne_zero e d.den_nz,Y4 (S9 f hd.d) (DP ∅),gJ (Cz g hd.dn) ?_,Y4 (Cz a hd.dn) (DP ∅),?_,?_⟩
 ·have:=Cz hd.n a;rw [FR n m];exact this
 ·have:=Ae0 j U d.num N (d.den:Int) c (G9 d);rw [GR,<- i,<- b] at this;rw [this];simp
 ·rw [b,uF U (d.den:Int) N c (G9 d)];simp
theorem Rb.swap {n:Nat}{y u:Rat}(h:Rb n y u):Rb n u y:=by
 obtain ⟨g,U,N,a,b,c,d,e,f⟩:=h.ex;exact ⟨U,g,N,a,b,d,c,f,e⟩
theorem Rb.glass {n m:Nat}{y u d:Rat}(h:Rb n y u)(hd:Bd m d):Rb (n+m+1) y (u - d * y):=by
 have:=(h.swap.gap hd.neg).swap;rw [show u - d * y=u+-d * y by rw [Rat.neg_mul,Rat.sub_eq_add_neg]]
 exact this
end Fr
namespace Op
open Fr
inductive Pc where
 | gap (d:Rat)
 | glass (p:Rat)
 | stop (lo hi:Rat)
abbrev Ad:=Rat×Rat
def Pc.lets:Pc->Ad->Bool
 | .stop lo hi,r=>!decide (r.1 < lo) && !decide (hi < r.1)
 | _,_=>true
def Pc.bent:Pc->Ad->Ad
 | .gap d,r=>(r.1+d * r.2,r.2)
 | .glass p,r=>(r.1,r.2 - p * r.1)
 | .stop _ _,r=>r
def Pc.ok:Pc->Prop
 | .stop lo hi=>¬ hi < lo
 | _=>True
def Pc.bd (m:Nat):Pc->Prop
 | .gap d=>Bd m d
 | .glass p=>Bd m p
 | .stop lo hi=>Bd m lo/\Bd m hi
abbrev RB (n:Nat)(r:Ad):Prop:=Rb n r.1 r.2
theorem Hf {n m:Nat}{r:Ad}:∀{p:Pc},p.bd m->RB n r->RB (n+m+1) (p.bent r)
 | .gap _,b,h=>Rb.gap h b
 | .glass _,b,h=>Rb.glass h b
 | .stop _ _,_,h=>Rb.mono h ∅
def wk:Nat->List Pc->Ad->List Ad×Option Nat
 | _,[],_=>([],none)
 | i,p::ps,r=>if p.lets r=true then (p.bent r::(wk (i+1) ps (p.bent r)).1,(wk (i+1) ps (p.bent r)).2) else ([],some i)
def walk (ps:List Pc)(r:Ad):List Ad×Option Nat:=(r::(wk 0 ps r).1,(wk 0 ps r).2)
theorem R1 {i:Nat}{p:Pc}{ps:List Pc}{r:Ad}(h:p.lets r=true):wk i (p::ps) r=(p.bent r::(wk (i+1) ps (p.bent r)).1,(wk (i+1) ps (p.bent r)).2):=by
 rw [wk,if_pos h]
theorem Zq {i:Nat}{p:Pc}{ps:List Pc}{r:Ad}(h:p.lets r=false):wk i (p::ps) r=([],some i):=by
 rw [wk,if_neg (by rw [h];exact ZM)]
structure At (ps:List Pc)(r:Ad)(i:Nat)(tr:List Ad)(cur:Ad):Prop where
 eq:wk 0 ps r=(tr++(wk i (ps.drop i) cur).1,(wk i (ps.drop i) cur).2)
 last:(r::tr).getLast?=some cur
theorem xX (ps:List Pc)(r:Ad):At ps r 0 [] r:=⟨rfl,rfl⟩
theorem At.step {ps:List Pc}{r b:Ad}{i:Nat}{c:List Ad}{p:Pc}(a:At ps r i c b)(d:ps[i]?=some p)(h:p.lets b=true):At ps r (i+1) (c++[p.bent b]) (p.bent b):=by
 obtain ⟨hi,e⟩:=YL.mp d;have hd:ps.drop i=p::ps.drop (i+1):=by rw [<- e];exact UE hi
 refine ⟨?_,?_⟩
 ·rw [a.eq,hd,R1 h];simp
 ·rw [<- wI];exact Um
theorem At.stop {ps:List Pc}{r b:Ad}{i:Nat}{c:List Ad}{p:Pc}(a:At ps r i c b)(d:ps[i]?=some p)(h:p.lets b=false):walk ps r=(r::c,some i):=by
 obtain ⟨hi,e⟩:=YL.mp d;have hd:ps.drop i=p::ps.drop (i+1):=by rw [<- e];exact UE hi
 unfold walk;rw [a.eq,hd,Zq h];simp
theorem At.done {ps:List Pc}{r b:Ad}{c:List Ad}(a:At ps r ps.length c b):walk ps r=(r::c,none):=by
 unfold walk;rw [a.eq,wh (ZY _)];simp [wk]
theorem Aa9 {m:Nat}(ps:List Pc):∀(i n:Nat) (r:Ad),(∀p∈ps,p.bd m)->RB n r->∀x∈(wk i ps r).1,RB (n+ps.length * (m+1)) x:=by
 induction ps with
 | nil=>intro i n r _ _ x a;simp [wk] at a
 | cons p ps c=>
  intro i n r hb h x a;cases hl:p.lets r with
  | false=>rw [Zq hl] at a;simp at a
  | true=>
   rw [R1 hl] at a;have b:=Hf (hb p ZA) h;have e:(ps.length+1) * (m+1)=ps.length * (m+1)+(m+1):=by rw [Qv,Nat.one_mul]
   rcases X1.mp a with rfl | a
   ·exact Rb.mono b (by rw [X2,e];omega)
   ·exact Rb.mono (c (i+1) _ _ (λ q d=>hb q (W1 _ d)) b x a) (by rw [X2,e];omega)
theorem rE {m n:Nat}{ps:List Pc}{r:Ad}(hb:∀p∈ps,p.bd m)(h:RB n r):∀x∈(walk ps r).1,RB (n+ps.length * (m+1)) x:=by
 intro x a;rcases X1.mp a with rfl | a
 ·exact Rb.mono h ∅
 ·exact Aa9 ps 0 n r hb h x a
end Op
namespace Lib
open PySem L2 Fr Op
def Ak (q:Rat):Zh:=.tuple [.int q.num,.int (q.den:Int)]
def BZ (r:Ad):Zh:=.tuple [Ak r.1,Ak r.2]
def Bm:Pc->Zh
 | .gap d=>.tuple [.str "gap",Ak d]
 | .glass p=>.tuple [.str "glass",Ak p]
 | .stop lo hi=>.tuple [.str "stop",Ak lo,Ak hi]
def Dg (ps:List Pc):Zh:=.list (ps.map Bm)
def WR:Option Nat->Zh
 | none=>.none
 | some i=>.int (i:Int)
section
variable {K:FrG}{H:Hp}{v:V}
theorem _root_.L2.DV.fr {q:Rat}(h:DV K H v (Ak q)):∃a,v=.ref a/\SqT K H a [.int q.num,.int (q.den:Int)]:=by
 obtain ⟨a,x,y,rfl,ha,b,c⟩:=DV.t2 h;rw [b.int_of,c.int_of] at ha;exact ⟨a,rfl,ha⟩
theorem Aj8 {q:Rat}{a:Addr}(h:SqT K H a [.int q.num,.int (q.den:Int)]):DV K H (.ref a) (Ak q):=.tup h (.cons (.int _) (.cons (.int _) .nil))
theorem J0 {t b:Int}{p:Addr}(a:b≠0):DV K (upd H p (.tup [.int (Fr.lt t b),.int (Fr.lb t b)])) (.ref p) (Ak (YV t b)):=by
 rw [AQ2 a];exact Aj8 (SqT.of Aq)
end
theorem _root_.Fr.Bd.sm {n:Nat}{q:Rat}(h:Bd n q)(a:n<=4000):Sm q:=⟨Y4 h.n (by unfold Cw;exact DP a),Y4 h.d (by unfold Cw;exact DP a)⟩
structure Flat (n:Nat)(d:Zh):Prop where
 c:d.canLay0=true
 d:d.depth<=n
theorem Flat.sh {n:Nat}{d:Zh}(h:Flat n d)(a:n<=64):we d=true:=by
 unfold we;rw [h.c,Bool.true_and];exact ζ (ZE h.d a)
theorem Le {n:Nat}:∀{ds:List Zh},(∀d∈ds,Flat n d)->WG ds=true/\Zh.depthAll ds<=n
 | [],_=>⟨rfl,WI _⟩
 | d::ds,h=>by
  obtain ⟨b,e⟩:=Le (λ x f=>h x (W1 _ f))
  have a:=h d ZA;refine ⟨?_,?_⟩
  ·rw [WG,a.c,b];rfl
  ·rw [Zh.depthAll];exact Nat.max_le.mpr ⟨a.d,e⟩
theorem lH {n:Nat}{ds:List Zh}(h:∀d∈ds,Flat n d):Flat (n+1) (.tuple ds):=⟨(Le h).1,by rw [Zh.depth];exact xh (Le h).2⟩
theorem Xm {n:Nat}{ds:List Zh}(h:∀d∈ds,Flat n d):Flat (n+1) (.list ds):=⟨(Le h).1,by rw [Zh.depth];exact xh (Le h).2⟩
theorem JX (q:Rat):Flat 1 (Ak q):=⟨rfl,by show 1<=1;exact ZY _⟩
theorem O9 (r:Ad):Flat 2 (BZ r):=lH λ d hd=>by
 simp only [X1,ZN,or_false] at hd;rcases hd with rfl | rfl
 ·exact JX _
 ·exact JX _
theorem fu {a:Type}{n:Nat}{f:a->Zh}(h:∀x,Flat n (f x))(l:List a):∀d∈l.map f,Flat n d:=λ d hd=>by
 obtain ⟨x,_,rfl⟩:=UC.mp hd;exact h x
section
variable {K:FrG}{H:Hp}{x y:V}{d:Zh}{Q:VK}
theorem AJ3 {p q:Rat}(a:DV K H x (Ak p))(b:DV K H y (Ak q))(k:Q (.bl (decide (p=q))) H):Jp K x y H Q:=
 ⟨_,_,a,b,(JX p).sh ⋯,(JX q).sh ⋯,by unfold Ak;rw [Hy];exact k⟩
theorem jG {p q:Rat}(a:DV K H x (Ak p))(b:DV K H y (Ak q))(k:Q (.bl (!decide (p=q))) H):Qi K x y H Q:=
 ⟨_,_,a,b,(JX p).sh ⋯,(JX q).sh ⋯,by unfold Ak;rw [Hy];exact k⟩
end
mutual
def HN:Zh->Bool
 | .list _=>false
 | .dict _=>false
 | .tuple ds=>Hh ds
 | .none=>true
 | .bool _=>true
 | .int _=>true
 | .str _=>true
def Hh:List Zh->Bool
 | []=>true
 | d::ds=>HN d && Hh ds
end
def Gn (H a:Hp):Prop:=∀b xs,(H b=some (.tup xs)->a b=some (.tup xs))/\∀o,H b=some (.frz o (.tup xs))->a b=some (.frz o (.tup xs))
theorem Gp {H:Hp}{l:Addr}{xs:List V}(h:H l=some (.lst xs))(o:HO):Gn H (upd H l o):=λ b a=>⟨λ e=>by rw [BP (λ z=>by rw [z,h] at e;cases e)];exact e,λ o e=>by rw [BP (λ z=>by rw [z,h] at e;cases e)];exact e⟩
mutual
theorem Er {K:FrG}{H a:Hp}(s:Gn H a):∀{v:V} {d:Zh},HN d=true->DV K H v d->DV K a v d
 | _,_,_,.non=>.non
 | _,_,_,.bl b=>.bl b
 | _,_,_,.int i=>.int i
 | _,_,_,.str x=>.str x
 | _,_,n,.lst h q=>nomatch n
 | _,_,n,.tup h q=>.tup (by
   rcases h with (h | ⟨o,h⟩) | h
   ·exact .inl (.inl ((s _ _).1 h))
   ·exact .inl (.inr ⟨o,(s _ _).2 o h⟩)
   ·exact .inr h) (Cp s n q)
 | _,_,n,.dct h=>nomatch n
theorem Cp {K:FrG}{H a:Hp}(s:Gn H a):∀{vs:List V} {ds:List Zh},Hh ds=true->DVs K H vs ds->DVs K a vs ds
 | _,_,_,.nil=>.nil
 | _,_,n,.cons h q=>.cons (Er s (by rw [Hh] at n;exact (WJ.mp n).1) h) (Cp s (by rw [Hh] at n;exact (WJ.mp n).2) q)
end
theorem De {a:Type}{f:a->Zh}(h:∀x,HN (f x)=true):∀l:List a,Hh (l.map f)=true
 | []=>rfl
 | x::l=>by rw [YJ,Hh,h x,De h l];rfl
theorem GF (r:Ad):HN (BZ r)=true:=rfl
theorem JZ:∀p:Pc,HN (Bm p)=true
 | .gap _=>rfl
 | .glass _=>rfl
 | .stop _ _=>rfl
inductive PR (K:FrG)(R:List Zh->Zh->Prop)(vs:List V)(H:Hp)(Q:VK)(z3:XK):Prop | mk (ds d:_) (_:DVs K H vs ds) (_:R ds d) (_:∀v H',Same H H'->DV K H' v d->Q v H')
def Ka (a:Rat->Rat->Rat):List Zh->Zh->Prop:=λ ds d=>∃p q,ds=[Ak p,Ak q]/\Sm p/\Sm q/\d=Ak (a p q)
def cu:List Zh->Zh->Prop:=λ ds d=>∃p q,ds=[Ak p,Ak q]/\Sm p/\Sm q/\d=.bool (decide (p < q))
theorem DV.upd2 {K:FrG}{H:Hp}{r:Addr}{x y:V}{a b:Zh}(c:H r=none)(d:DV K H x a)(e:DV K H y b):DV K (upd H r (.tup [x,y])) (.ref r) (.tuple [a,b]):=
 .tup (SqT.of Aq) (.cons (d.keep (Ao c _)) (.cons (e.keep (Ao c _)) .nil))
theorem DV.upd3 {K:FrG}{H:Hp}{r:Addr}{x y z:V}{b c d:Zh}(a:H r=none)(e:DV K H x b)(f:DV K H y c)(hz:DV K H z d):DV K (upd H r (.tup [x,y,z])) (.ref r) (.tuple [b,c,d]):=
 .tup (SqT.of Aq) (.cons (e.keep (Ao a _)) (.cons (f.keep (Ao a _)) (.cons (hz.keep (Ao a _)) .nil)))
theorem DV.upd4 {K:FrG}{H:Hp}{r:Addr}{x y z u:V}{b c d e:Zh}(a:H r=none)(f:DV K H x b)(g:DV K H y c)(hz:DV K H z d)(h:DV K H u e):DV K (upd H r (.tup [x,y,z,u])) (.ref r) (.tuple [b,c,d,e]):=
 .tup (SqT.of Aq) (.cons (f.keep (Ao a _)) (.cons (g.keep (Ao a _)) (.cons (hz.keep (Ao a _)) (.cons (h.keep (Ao a _)) .nil))))
def Al0:Zh->Bool
 | .tuple [.int t,.int b]=>decide (1<=b) && decide (Fr.gcd t b=1)
 | _=>false
def Qt:Zh->Bool
 | .int _=>true
 | _=>false
def AN8:Zh->Bool
 | .tuple _=>true
 | _=>false
theorem AX2 (d:Zh):∃b c,Bw (Jc d) "int"=some b/\Bw (Jc d) "bool"=some c/\(b && !c)=Qt d:=by
 cases d with
 | none=>exact ⟨false,false,by show Bw "NoneType" "int"=_;decide+kernel,by show Bw "NoneType" "bool"=_;decide+kernel,rfl⟩
 | bool b=>exact ⟨true,true,by show Bw "bool" "int"=_;decide+kernel,by show Bw "bool" "bool"=_;decide+kernel,rfl⟩
 | int i=>exact ⟨true,false,by show Bw "int" "int"=_;decide+kernel,by show Bw "int" "bool"=_;decide+kernel,rfl⟩
 | str x=>exact ⟨false,false,by show Bw "str" "int"=_;decide+kernel,by show Bw "str" "bool"=_;decide+kernel,rfl⟩
 | list xs=>exact ⟨false,false,by show Bw "list" "int"=_;decide+kernel,by show Bw "list" "bool"=_;decide+kernel,rfl⟩
 | tuple xs=>exact ⟨false,false,by show Bw "tuple" "int"=_;decide+kernel,by show Bw "tuple" "bool"=_;decide+kernel,rfl⟩
 | dict xs=>exact ⟨false,false,by show Bw "dict" "int"=_;decide+kernel,by show Bw "dict" "bool"=_;decide+kernel,rfl⟩
theorem Od (d:Zh):Bw (Jc d) "tuple"=some (AN8 d):=by
 cases d with
 | none=>show Bw "NoneType" "tuple"=some false;decide+kernel
 | bool b=>show Bw "bool" "tuple"=some false;decide+kernel
 | int i=>show Bw "int" "tuple"=some false;decide+kernel
 | str x=>show Bw "str" "tuple"=some false;decide+kernel
 | list xs=>show Bw "list" "tuple"=some false;decide+kernel
 | tuple xs=>show Bw "tuple" "tuple"=some true;decide+kernel
 | dict xs=>show Bw "dict" "tuple"=some false;decide+kernel
def wA:Zh->Bool
 | .list _=>true
 | _=>false
theorem AS9 (d:Zh):Bw (Jc d) "list"=some (wA d):=by
 cases d with
 | none=>show Bw "NoneType" "list"=some false;decide+kernel
 | bool b=>show Bw "bool" "list"=some false;decide+kernel
 | int i=>show Bw "int" "list"=some false;decide+kernel
 | str x=>show Bw "str" "list"=some false;decide+kernel
 | list xs=>show Bw "list" "list"=some true;decide+kernel
 | tuple xs=>show Bw "tuple" "list"=some false;decide+kernel
 | dict xs=>show Bw "dict" "list"=some false;decide+kernel
def Ow:Zh->Bool
 | .str _=>true
 | _=>false
theorem Ak8 {d:Zh}(h:Ow d=true):∃x,d=.str x:=by
 cases d with
 | str i=>exact ⟨i,rfl⟩
 | _=>cases h
theorem K7 (d:Zh):Bw (Jc d) "str"=some (Ow d):=by
 cases d with
 | none=>show Bw "NoneType" "str"=some false;decide+kernel
 | bool b=>show Bw "bool" "str"=some false;decide+kernel
 | int i=>show Bw "int" "str"=some false;decide+kernel
 | str x=>show Bw "str" "str"=some true;decide+kernel
 | list xs=>show Bw "list" "str"=some false;decide+kernel
 | tuple xs=>show Bw "tuple" "str"=some false;decide+kernel
 | dict xs=>show Bw "dict" "str"=some false;decide+kernel
inductive spW (K:FrG)(vs:List V)(H:Hp)(Q:VK)(z3:XK):Prop | mk (v d:_) (_:vs=[v]) (_:DV K H v d) (_:Q (.bl (Qt d)) H)
def sG:List Zh->Zh->Prop:=λ ds d=>∃p q,ds=[Ak p,Ak q]/\Sm p/\Sm q/\q≠0/\d=Ak (p / q)
theorem Bk {b:Bool}{A a:Prop}(hb:b=true)(h:A):if b=true then A else a:=by rw [if_pos hb];exact h
theorem BV {b:Bool}{A a:Prop}(hb:b=false)(h:a):if b=true then A else a:=by rw [if_neg (by rw [hb];exact ZM)];exact h
theorem K3 (n d:Nat):HT.sIx n d (some 1)=min 1 n:=HT.Gx n d 1
theorem Kw (xs:List V):cutV xs (some 1) none=xs.drop 1:=by
 unfold cutV;rw [K3,HT.M3];cases xs with
 | nil=>rfl
 | cons x r=>
  rw [show min 1 (x::r).length=1 by simp only [X2];omega]
  exact UB (by simp)
theorem Cy (x y:Str):decide (V.str x=V.str y)=decide (x=y):=by
 by_cases h:x=y
 ·subst h;simp
 ·have:¬ V.str x=V.str y:=λ z=>h (V.str.inj z)
  rw [η h,η this]
inductive ObAt (K:FrG)(CG CL CS:Addr)(H:Hp):V->Pc->Prop
 | gap {a dx:Addr} {x:V} {d:Rat}:H a=some (.ins CG dx [("length",x)])->DV K H x (Ak d)->ObAt K CG CL CS H (.ref a) (.gap d)
 | glass {a dx:Addr} {x:V} {d:Rat}:H a=some (.ins CL dx [("strength",x)])->DV K H x (Ak d)->ObAt K CG CL CS H (.ref a) (.glass d)
 | stop {a dx:Addr} {x y:V} {lo hi:Rat}:H a=some (.ins CS dx [("low",x),("high",y)])->DV K H x (Ak lo)->DV K H y (Ak hi)->ObAt K CG CL CS H (.ref a) (.stop lo hi)
theorem ObAt.keep {K:FrG}{a b c:Addr}{H d:Hp}(s:Same H d):∀{v:V} {p:Pc},ObAt K a b c H v p->ObAt K a b c d v p
 | _,_,.gap h x=>.gap (s _ _ h) (x.keep s)
 | _,_,.glass h x=>.glass (s _ _ h) (x.keep s)
 | _,_,.stop h x y=>.stop (s _ _ h) (x.keep s) (y.keep s)
inductive bJ (C:Addr)(f:Str)(vs:List V)(H:Hp)(Q:VK)(z3:XK):Prop | mk (a dx x:_) (_:vs=[.ref a,x]) (_:H a=some (.ins C dx [])) (_:Q .non (upd H a (.ins C dx [(f,x)])))
inductive AJ1 (C:Addr)(f g:Str)(vs:List V)(H:Hp)(Q:VK)(z3:XK):Prop | mk (a dx x y:_) (_:vs=[.ref a,x,y]) (_:H a=some (.ins C dx [])) (_:Q .non (upd H a (.ins C dx [(f,x),(g,y)])))
inductive iC (vs:List V)(H:Hp)(Q:VK)(z3:XK):Prop | mk (x y:_) (_:vs=[x,y]) (_:Q (.bl true) H)
inductive AT9 (vs:List V)(H:Hp)(Q:VK)(z3:XK):Prop | mk (x y:_) (_:vs=[x,y]) (_:Q y H)
inductive Vr (K:FrG)(CG CL CS:Addr)(R:Pc->Ad->Zh)(C:Pc->Prop)(vs:List V)(H:Hp)(Q:VK)(z3:XK):Prop | mk (o y:V) (p:Pc) (r:Ad) (n m:Nat) (_:vs=[o,y]) (_:C p) (_:ObAt K CG CL CS H o p) (_:DV K H y (BZ r)) (_:RB n r) (_:p.bd m) (_:n+m<=3900) (_:∀v H',Same H H'->DV K H' v (R p r)->Q v H')
def AK1:Pc->Prop
 | .gap _=>True
 | _=>False
def qy:Pc->Prop
 | .glass _=>True
 | _=>False
def isStop:Pc->Prop
 | .stop _ _=>True
 | _=>False
inductive AK8 (K:FrG)(CG CL CS:Addr)(vs:List V)(H:Hp)(Q:VK)(z3:XK):Prop | mk (v p:_) (_:vs=[v]) (_:DV K H v (Bm p)) (_:∀a H',Same H H'->ObAt K CG CL CS H' (.ref a) p->Q (.ref a) H')
structure Good (m:Nat)(ps:List Pc):Prop where
 len:ps.length<=60
 ok:∀p∈ps,p.ok
 bd:∀p∈ps,p.bd m
inductive pU (K:FrG)(vs:List V)(H:Hp)(Q:VK)(z3:XK):Prop | mk (v ps m:_) (_:vs=[v]) (_:DV K H v (Dg ps)) (_:Good m ps) (_:m<=4000) (_:∀H',Same H H'->Q .non H')
inductive AR1 (K:FrG)(vs:List V)(H:Hp)(Q:VK)(z3:XK):Prop | mk (b y:V) (ps:List Pc) (r:Ad) (n m:Nat) (_:vs=[b,y]) (_:DV K H b (Dg ps)) (_:Good m ps) (_:DV K H y (BZ r)) (_:RB n r) (_:n+ps.length * (m+1)+m<=3900) (_:∀t l rs at_ H',Same H H'->H l=none->H' l=some (.lst rs)->H' t=some (.tup [.ref l,at_])->DVs K H' rs ((walk ps r).1.map BZ)->DV K H' at_ (WR (walk ps r).2)->Q (.ref t) H')
theorem Hg {ps:List Pc}{i:Nat}{d:Zh}(h:(ps.map Bm)[i]?=some d):∃p,ps[i]?=some p/\d=Bm p:=by
 rw [Yf] at h;cases e:ps[i]? with
 | none=>rw [e] at h;cases h
 | some p=>rw [e] at h;exact ⟨p,rfl,(XU h).symm⟩
theorem Ad1 (xs:List V)(lo hi:Nat):(cutV xs (some (lo:Int)) (some (hi:Int))).length<=hi - lo:=by
 unfold cutV;rw [HT.Gx,HT.Gx,YG];omega
theorem ye (xs:List V)(hi:Nat):(cutV xs none (some (hi:Int))).length<=hi:=by
 unfold cutV;rw [HT.Gx,HT.M3,YG];omega
theorem oU (q:Rat):Ak (-q)=.tuple [.int (0 - q.num),.int (q.den:Int)]:=by
 unfold Ak;rw [NJ,NL,FU]
theorem VM {vs:List V}{v:V}(h:vs.getLast?=some v):atI vs (-1)=some v:=by
 obtain ⟨a,rfl⟩:=List.getLast?_eq_some_iff.mp h;exact ph a v
theorem DVs.last {K:FrG}{H:Hp}{vs:List V}{ds:List Zh}{d:Zh}(h:DVs K H vs ds)(hd:ds.getLast?=some d):∃v,vs.getLast?=some v/\DV K H v d:=by
 have hl:=h.len;have e:ds[ds.length - 1]?=some d:=by rw [<- QO];exact hd
 have hi:ds.length - 1 < vs.length:=by
  have:=(YL.mp e).1;omega
 obtain ⟨d',a,hv⟩:=DVs.get h (Yi hi);rw [e] at a;cases a
 refine ⟨_,?_,hv⟩;rw [QO,hl];exact Yi hi
theorem Aa3 (z:Str):(if false=true then !inV (.str z) [.str "gap",.str "glass"] else inV (.str z) [.str "gap",.str "glass"])=(decide (z="gap") || decide (z="glass")):=by
 rw [if_neg ZM];unfold inV;simp only [JR,List.any_nil,Bool.or_false];have h:∀w:Str,eqV (.str w) (.str z)=decide (z=w):=λ w=>by
  show decide (w=z)=decide (z=w);exact decide_eq_decide.mpr ⟨Eq.symm,Eq.symm⟩
 rw [h,h]
theorem Ek {x:V}{xs:List V}:atI (x::xs) 0=some x:=Bu (j:=0) rfl
end Lib
namespace Op
open Fr
def lastOf (w:List Ad)(r:Ad):Ad:=(r::w).getLast (by simp)
theorem Ag1 (w:List Ad)(r:Ad):(r::w).getLast?=some (lastOf w r):=XZ _
theorem yH (ps:List Pc):∀(i:Nat) (r:Ad) (j:Nat),(wk i ps r).2=some j->i<=j/\j < i+ps.length/\(wk i ps r).1.length=j - i:=by
 induction ps with
 | nil=>intro i r j h;cases h
 | cons p ps b=>
  intro i r j a;cases h:p.lets r with
  | true=>
   rw [R1 h] at a ⊢;obtain ⟨d,e,c⟩:=b _ _ _ a;simp only [X2,c];omega
  | false=>
   rw [Zq h] at a ⊢;cases a
   simp
theorem XH (ps:List Pc)(r:Ad):(walk ps r).1.getLast?=some (lastOf (wk 0 ps r).1 r):=Ag1 _ _
theorem pK {ps:List Pc}{r:Ad}{j:Nat}(h:(walk ps r).2=some j):j < ps.length/\(walk ps r).1.length=j+1:=by
 obtain ⟨a,b,c⟩:=yH ps 0 r j h;refine ⟨by omega,?_⟩
 show ((wk 0 ps r).1).length+1=_;omega
end Op
namespace Lib
open PySem L2 Fr Op
theorem zB (xs:List V)(k:Nat):cutV xs none (some (k:Int))=xs.take k:=by
 unfold cutV;rw [HT.Gx,HT.M3,qq,Nat.sub_zero,<- List.take_take];rw [YX]
theorem AP3 (xs:List V)(k:Nat):cutV xs (some (k:Int)) none=xs.drop k:=by
 unfold cutV;rw [HT.Gx,HT.M3];by_cases h:k<=xs.length
 ·rw [xw h];exact UB (by rw [JO];exact ZY _)
 ·rw [Nat.min_eq_right ∅,wh (ZY _),wh ∅,List.take_nil]
theorem jh {K:FrG}{H:Hp}{v:V}:∀{o:Option Nat},DV K H v (WR o)->decide (v=.non)=o.isNone
 | none,h=>by obtain rfl:=h.non_of;rfl
 | some i,h=>by obtain rfl:=h.int_of;rfl
end Lib
namespace Op
open Fr
def Pc.isStop:Pc->Bool
 | .stop _ _=>true
 | _=>false
def YC (ps:List Pc):List Pc:=ps.filter λ p=>!p.isStop
def BW (ps:List Pc)(r:Ad):Ad:=ps.foldl (λ r p=>p.bent r) r
def both (r s:Ad):Ad:=(r.1+s.1,r.2+s.2)
def times (k:Rat)(r:Ad):Ad:=(k * r.1,k * r.2)
theorem ue (p:Pc)(r s:Ad):p.bent (both r s)=both (p.bent r) (p.bent s):=by
 cases p with
 | gap d=>simp only [Pc.bent,both];refine WT ?_ rfl;show r.1+s.1+d * (r.2+s.2)=r.1+d * r.2+(s.1+d * s.2);grind
 | glass d=>simp only [Pc.bent,both];refine WT rfl ?_;show r.2+s.2 - d * (r.1+s.1)=r.2 - d * r.1+(s.2 - d * s.1);grind
 | stop _ _=>rfl
theorem za (p:Pc)(k:Rat)(r:Ad):p.bent (times k r)=times k (p.bent r):=by
 cases p with
 | gap d=>simp only [Pc.bent,times];refine WT ?_ rfl;show k * r.1+d * (k * r.2)=k * (r.1+d * r.2);grind
 | glass d=>simp only [Pc.bent,times];refine WT rfl ?_;show k * r.2 - d * (k * r.1)=k * (r.2 - d * r.1);grind
 | stop _ _=>rfl
theorem AZ7 (ps:List Pc):∀r s:Ad,BW ps (both r s)=both (BW ps r) (BW ps s):=by
 induction ps with
 | nil=>intro r s;rfl
 | cons p ps a=>intro r s;show BW ps (p.bent (both r s))=_;rw [ue,a];rfl
theorem gh (ps:List Pc):∀(k:Rat) (r:Ad),BW ps (times k r)=times k (BW ps r):=by
 induction ps with
 | nil=>intro k r;rfl
 | cons p ps a=>intro k r;show BW ps (p.bent (times k r))=_;rw [za,a];rfl
theorem o6 (ps:List Pc):∀r:Ad,BW (YC ps) r=BW ps r:=by
 induction ps with
 | nil=>intro r;rfl
 | cons p ps a=>
  intro r;cases p with
  | gap d=>exact a _
  | glass d=>exact a _
  | stop lo hi=>exact a _
theorem kj {n m:Nat}(ps:List Pc):∀(n:Nat) (r:Ad),(∀p∈ps,p.bd m)->RB n r->RB (n+ps.length * (m+1)) (BW ps r):=by
 induction ps with
 | nil=>intro n r _ h;simpa [BW] using h
 | cons p ps a=>
  intro n r hb h;have b:=Hf (hb p ZA) h;have:=a _ _ (λ q c=>hb q (W1 _ c)) b
  refine Rb.mono this ?_;rw [X2,Qv,Nat.one_mul];omega
end Op
namespace Lib
open PySem L2 Fr Op
end Lib
namespace L2
open PySem PySem.Spec PyProof.Rows
theorem Aj9 (env:Env):∀(l:List (Str×JJ)) (b:List (Str×Addr)),(∀y∈l,y.2=.free->∃c,env.cells.lookup y.1=some c)->
  ∃cl,(forIn l b λ (x:Str×JJ) (cs:List (Str×Addr))=>(if (x.2 == yB)=true then (cellOf env x.1 >>= λ a=>pure (Qn ((x.1,a)::cs))) else pure (Qn cs):Sem (ForInStep (List (Str×Addr)))))=pure cl/\
   (∀y c,cl.lookup y=some c->b.lookup y=some c\/env.cells.lookup y=some c)/\(∀y c,b.lookup y=some c->∃g,cl.lookup y=some g)/\∀y∈l,y.2=.free->∃c,cl.lookup y.1=some c:=by
 intro l
 induction l with
 | nil=>intro b _;exact ⟨b,rfl,λ y c e=>.inl e,λ y c e=>⟨c,e⟩,λ _ h=>nomatch h⟩
 | cons x r p=>
  intro b h;obtain ⟨n,k⟩:=x;have q:∀y∈r,y.2=.free->∃c,env.cells.lookup y.1=some c:=λ y d=>h y (W1 _ d)
  rw [yn];by_cases j:k=.free
  ·subst j;obtain ⟨c,hc⟩:=h (n,.free) ZA rfl;have s:cellOf env n=pure c:=by unfold cellOf;rw [show env.cells.lookup n=some c from hc]
   rw [if_pos (by rfl),s,pure_bind,pure_bind]
   obtain ⟨cl,e,m,i,o⟩:=p ((n,c)::b) q;refine ⟨cl,e,λ y g d=>?_,λ y g d=>?_,λ y d hf=>?_⟩
   ·rcases m y g d with z | z
    ·rw [List.lookup_cons] at z
     split at z
     ·rename_i f
      have f:y=n:=by simpa using f
      subst f;cases z
      exact .inr hc
     ·exact .inl z
    ·exact .inr z
   ·by_cases f:y=n
    ·subst f;exact i y c (by simp)
    ·have t:(y == n)=false:=by simpa using f
     exact i y g (by rw [List.lookup_cons,t];exact d)
   ·rcases X1.mp d with z | z
    ·subst z;exact i n c (by simp)
    ·exact o y z hf
  ·have hb:¬ (k == yB)=true:=by simpa using j
   rw [if_neg hb,pure_bind];obtain ⟨cl,e,m,i,o⟩:=p b q;refine ⟨cl,e,m,i,λ y d hf=>?_⟩
   rcases X1.mp d with z | z
   ·subst z;exact absurd hf j
   ·exact o y z hf
theorem Aj4 {X:Cx}{a:Scope}(hcell:∀y∈a.names,y.2≠.cell)(hf:∀y∈a.names,y.2=.free->∃c,X.env.cells.lookup y.1=some c):∃cl,CapOk X a cl:=by
 obtain ⟨cl,e,j,q,l⟩:=Aj9 X.env a.names [] hf;refine ⟨cl,?_,λ y c f=>?_,λ y f=>?_⟩
 ·unfold closureFor;rw [show (pure cl:Sem _)=(pure cl >>= λ cs=>pure cs) by rw [pure_bind],<- e]
 ·rcases j y c f with z | z
  ·simp at z
  ·exact z
 ·have d:∃k,(y,k)∈(wr a X.env).names/\(k=.cell\/k=.free):=by
   rcases f with z | z
   ·exact ⟨_,WU z,.inl rfl⟩
   ·exact ⟨_,WU z,.inr rfl⟩
  obtain ⟨k,d,m⟩:=d;unfold wr at d;obtain ⟨⟨n,g⟩,h,b⟩:=UC.mp d;have i:g=.free:=by
   by_cases z:g=.free
   ·exact z
   ·have o:(g == yB)=false:=by simpa using z
    simp only [o,wc,yb,if_false,Prod.mk.injEq] at b;obtain ⟨_,rfl⟩:=b;rcases m with rfl | rfl
    ·exact absurd rfl (hcell _ h)
    ·exact absurd rfl z
  subst i;have p:n=y:=by
   dsimp only at b
   split at b
   ·exact (Prod.mk.inj b).1
   ·exact (Prod.mk.inj b).1
  subst p;exact l _ h rfl
theorem UT {X:Cx}{a:Scope}{n:Nat}(hc:X.env.cells=cellsFrom n X.env.scope.names []:=by rfl)(hcell:∀y∈a.names,y.2≠.cell)(hf:∀y∈a.names,y.2=.free->X.env.scope.names.lookup y.1=some .cell):∃cl,CapOk X a cl:=
 Aj4 hcell λ y b hz=>by
  rw [hc];exact aM (hf y b hz)
section
variable {X:Cx}{tg elt iter:Expr}{ifs:List Expr}{scope:Scope}{pos spos py:Pos}{wi:TI}{g:TG}{tt:TT}{te:TE}
theorem ZW {y:Str}{i:Nat}(n:X.N.Nodup)(o:X.N[i]?=some y)(r:Loc X.env.scope y)(c:List Str)(b:List (Option Nat))(hc:X.calm=true)(hi:PI X tg iter wi)
  (s:∀cl C d a e f,PG (Cr X scope cl c C d a e f) tg g) (t:∀cl C d a e f,CP (Cr X scope cl c C d a e f) ifs tt) (he:∀cl C d a e f,PE (Cr X scope cl c C d a e f) elt te)
  (h:∃cl,CapOk X scope cl) (hcell:∀y∈scope.names,y.2≠.cell) (l:scope.kind=.function) (k:∀y∈scope.names,y.2=.local->scope.names.lookup y.1=some .local) (u:b.length=c.length)
  (m:∀(i j:Nat),b[i]?=some (some j)->∃y:Str,c[i]?=some y/\X.N[j]?=some y/\(wr scope X.env).names.lookup y=some .cell/\X.env.scope.names.lookup y=some .cell)
  (v:∀x,ze iter X.env x=pure x:=by intro _;rfl) (p:jS (.ListComp elt [⟨tg,iter,ifs,0⟩] scope pos) (some (.Name y py)) spos.line X.env=pure true:=by rfl)
  (q:X.fn y=true\/X.env.scope.names.lookup y=some .local:=by first | exact .inl rfl | exact .inr rfl | assumption):
  PS X (.Assign [.Name y py] (.ListComp elt [⟨tg,iter,ifs,0⟩] scope pos) spos) (ik i (Mf wi g tt te b)):=by
 obtain ⟨cl,h⟩:=h;exact j6 n o r c b hc hi (s cl) (t cl) (he cl) h hcell l k u m v p q
end
end L2
namespace Lib
open PySem L2 Fr Op
theorem flat_nil:Flat 1 (.list []):=Xm λ _ h=>nomatch h
inductive AZ0 (K:FrG)(vs:List V)(H:Hp)(Q:VK)(z3:XK):Prop | mk (v q:_) (_:vs=[v]) (_:DV K H v (Ak q)) (_:Q (.bl true) H)
inductive Ab8 (K:FrG)(vs:List V)(H:Hp)(Q:VK)(z3:XK):Prop | mk (v:V) (p:Pc) (m:Nat) (_:vs=[v]) (_:DV K H v (Bm p)) (_:p.ok) (_:p.bd m) (_:m<=4000) (_:∀H',Same H H'->Q (.bl true) H')
inductive PSh (m:Nat):Str->List Rat->Prop where
 | stop {lo hi:Rat}:¬ hi < lo->Bd m lo->Bd m hi->PSh m "stop" [lo,hi]
 | one {w:Str} {d:Rat}:decide (w="stop")=false->(decide (w="gap") || decide (w="glass"))=true->PSh m w [d]
theorem tX {m:Nat}:∀{p:Pc},p.ok->p.bd m->∃w es,Bm p=.tuple (.str w::es.map Ak)/\PSh m w es
 | .gap d,_,_=>⟨"gap",[d],rfl,.one ⋯ ⋯⟩
 | .glass d,_,_=>⟨"glass",[d],rfl,.one ⋯ ⋯⟩
 | .stop lo hi,h,b=>⟨"stop",[lo,hi],rfl,.stop h b.1 b.2⟩
theorem PSh.len {m:Nat}{w:Str}{es:List Rat}:PSh m w es->0 < es.length/\es.length<=2
 | .stop ..=>⟨by simp,by simp⟩
 | .one ..=>⟨by simp,by simp⟩
theorem AU3 (n:Nat):(Xz n true).all id=true:=by simp
theorem tL (n:Nat):(Xz n true).map V.bl=Xz n (V.bl true):=by simp
theorem dX {es:List Rat}{i:Nat}{d:Zh}(h:(es.map Ak)[i]?=some d):∃q,d=Ak q:=by
 rw [Yf] at h;cases e:es[i]? with
 | none=>rw [e] at h;cases h
 | some q=>rw [e] at h;cases h;exact ⟨q,rfl⟩
theorem M6 {K:FrG}{H:Hp}{x y:V}{p q:Rat}{a:List (Option V)}{Q:VK}(b:DV K H x (Ak p))(c:DV K H y (Ak q))(k:Q (.bl (decide (p=q))) H):tC y a H (λ y d=>Jp K x y d Q):=AJ3 b c k
end Lib
namespace Op
open Fr
structure Tab where
 a:Rat
 b:Rat
 c:Rat
 d:Rat
def Tab.det (t:Tab):Rat:=t.a * t.d - t.b * t.c
def Tab.by (t:Tab)(r:Ad):Ad:=(t.a * r.1+t.b * r.2,t.c * r.1+t.d * r.2)
def e1:Ad:=(1,0)
def e2:Ad:=(0,1)
def tabOf (ps:List Pc):Tab:=⟨(BW ps e1).1,(BW ps e2).1,(BW ps e1).2,(BW ps e2).2⟩
theorem AY1 (r:Ad):r=both (times r.1 e1) (times r.2 e2):=by
 unfold both times e1 e2;refine WT ?_ ?_
 ·show r.1=r.1 * 1+r.2 * 0;grind
 ·show r.2=r.1 * 0+r.2 * 1;grind
theorem mj (ps:List Pc)(r:Ad):BW ps r=(tabOf ps).by r:=by
 have e:BW ps r=both (times r.1 (BW ps e1)) (times r.2 (BW ps e2)):=by
  rw [<- gh,<- gh,<- AZ7,<- AY1]
 rw [e];unfold both times Tab.by tabOf
 refine WT ?_ ?_
 ·show r.1 * (BW ps e1).1+r.2 * (BW ps e2).1=(BW ps e1).1 * r.1+(BW ps e2).1 * r.2;grind
 ·show r.1 * (BW ps e1).2+r.2 * (BW ps e2).2=(BW ps e1).2 * r.1+(BW ps e2).2 * r.2;grind
theorem V6 (p:Pc)(r s:Ad):(p.bent r).1 * (p.bent s).2 - (p.bent s).1 * (p.bent r).2=r.1 * s.2 - s.1 * r.2:=by
 cases p with
 | gap d=>show (r.1+d * r.2) * s.2 - (s.1+d * s.2) * r.2=_;grind
 | glass d=>show r.1 * (s.2 - d * s.1) - s.1 * (r.2 - d * r.1)=_;grind
 | stop _ _=>rfl
theorem vf (ps:List Pc):∀r s:Ad,(BW ps r).1 * (BW ps s).2 - (BW ps s).1 * (BW ps r).2=r.1 * s.2 - s.1 * r.2:=by
 induction ps with
 | nil=>intro r s;rfl
 | cons p ps a=>intro r s;show (BW ps (p.bent r)).1 * (BW ps (p.bent s)).2 - (BW ps (p.bent s)).1 * (BW ps (p.bent r)).2=_;rw [a,V6]
theorem Ft (ps:List Pc):(tabOf ps).det=1:=by
 have:=vf ps e1 e2;unfold Tab.det tabOf;show (BW ps e1).1 * (BW ps e2).2 - (BW ps e2).1 * (BW ps e1).2=1;rw [this];unfold e1 e2
 grind
theorem Pg (ps qs:List Pc)(r:Ad):BW (ps++qs) r=BW qs (BW ps r):=wm ..
def Tab.then (t u:Tab):Tab:=⟨u.a * t.a+u.b * t.c,u.a * t.b+u.b * t.d,u.c * t.a+u.d * t.c,u.c * t.b+u.d * t.d⟩
theorem cQ (ps qs:List Pc):tabOf (ps++qs)=(tabOf ps).then (tabOf qs):=by
 unfold Tab.then;have a:BW (ps++qs) e1=(tabOf qs).by (BW ps e1):=by rw [Pg,mj qs]
 have b:BW (ps++qs) e2=(tabOf qs).by (BW ps e2):=by rw [Pg,mj qs]
 show Tab.mk _ _ _ _=_;rw [a,b];rfl
structure Tb (n:Nat)(t:Tab):Prop where
 a:Bd n t.a
 b:Bd n t.b
 c:Bd n t.c
 d:Bd n t.d
theorem R8 {m:Nat}{ps:List Pc}(hb:∀p∈ps,p.bd m):Tb (2+ps.length * (m+1)) (tabOf ps):=by
 have c:RB 2 e1:=⟨1,0,1,by decide,by decide,by decide,by decide,by decide+kernel,by decide+kernel⟩
 have d:RB 2 e2:=⟨0,1,1,by decide,by decide,by decide,by decide,by decide+kernel,by decide+kernel⟩
 have a:=kj (n:=0) ps 2 e1 hb c;have b:=kj (n:=0) ps 2 e2 hb d;exact ⟨a.y,b.y,a.u,b.u⟩
end Op
namespace Lib
open PySem L2 Fr Op
def Cj (t:Tab):Zh:=.tuple [Ak t.a,Ak t.b,Ak t.c,Ak t.d]
theorem bO (t:Tab):Flat 2 (Cj t):=lH λ d hd=>by
 simp only [X1,ZN,or_false] at hd;rcases hd with rfl | rfl | rfl | rfl<;>exact JX _
def lC:Option Rat->Zh
 | none=>.none
 | some q=>Ak q
def qZ:List Zh->Zh->Prop:=λ ds d=>∃t n,ds=[Cj t]/\Tb n t/\n<=1900/\d=.bool (decide (t.det=1))
def xq:List Zh->Zh->Prop:=λ ds d=>∃t n,ds=[Cj t]/\Tb n t/\n<=1900/\t.det=1/\d=.none
def AV9:List Zh->Zh->Prop:=λ ds d=>∃r s:Ad,ds=[BZ r,BZ s]/\d=Cj ⟨r.1,s.1,r.2,s.2⟩
def zU:List Zh->Zh->Prop:=λ ds d=>∃ps m,ds=[Dg ps]/\Good m ps/\2+ps.length * (m+1)+m<=3900/\d=Cj (tabOf ps)
def AG0:List Zh->Zh->Prop:=λ ds d=>∃t r n,ds=[Cj t,BZ r]/\Tb n t/\Bd n r.1/\Bd n r.2/\n<=1900/\d=BZ (t.by r)
def Ab7:List Zh->Zh->Prop:=λ ds d=>∃t u n,ds=[Cj t,Cj u]/\Tb n t/\Tb n u/\n<=1900/\d=Cj (t.then u)
def spread (t:Tab)(s:Rat):Ad:=(t.a * s+t.b,t.c * s+t.d)
def AW0:List Zh->Zh->Prop:=λ ds d=>∃t s n,ds=[Cj t,Ak s]/\Tb n t/\Bd n s/\n<=1900/\d=BZ (spread t s)
def img (t:Tab)(s:Rat):Option Rat:=if (spread t s).2=0 then none else some (0 - (spread t s).1 / (spread t s).2)
def Jy (t:Tab)(s:Rat):Option Rat:=if (spread t s).2=0 then none else some (1 / (spread t s).2)
def vV:List Zh->Zh->Prop:=λ ds d=>∃t s n,ds=[Cj t,Ak s]/\Tb n t/\t.det=1/\Bd n s/\n<=450/\d=lC (img t s)
def AG9:List Zh->Zh->Prop:=λ ds d=>∃t s n,ds=[Cj t,Ak s]/\Tb n t/\t.det=1/\Bd n s/\n<=450/\d=lC (Jy t s)
theorem Ed (n:Nat)(a:1<=n):Bd n (0:Rat):=⟨by show (0:Int).natAbs < 2 ^ n;exact NM ⋯,Y4 (by decide:(0:Rat).den < 2 ^ 1) (DP a)⟩
theorem Ex (n:Nat)(a:1<=n):Bd n (1:Rat):=⟨Y4 (by decide:(1:Rat).num.natAbs < 2 ^ 1) (DP a),Y4 (by decide:(1:Rat).den < 2 ^ 1) (DP a)⟩
theorem n6 {t:Tab}{s:Rat}{n:Nat}(h:Tb n t)(e:Bd n s):Bd (3 * n+1) (spread t s).1/\Bd (3 * n+1) (spread t s).2:=⟨((h.a.mul e).add h.b).mono ∅,((h.c.mul e).add h.d).mono ∅⟩
theorem S6 {t u:Tab}(a:t.a=u.a)(b:t.b=u.b)(c:t.c=u.c)(d:t.d=u.d):t=u:=by
 cases t;cases u;cases a;cases b;cases c;cases d;rfl
theorem wg (n i m:Nat):n+i * (m+1)+m+1<=n+(i+1) * (m+1):=by rw [Qv];omega
theorem AK7 {a:Type}{b:List a}{i:Nat}{x:a}(h:b.length<=i):(b++[x]).length<=i+1:=by rw [X9];exact xh h
theorem gR {n i m k:Nat}(h:n+k * (m+1)+m<=3900)(hi:i < k):n+i * (m+1)+m<=3900:=by
 have:i * (m+1)<=k * (m+1):=ZH _ (XG hi);omega
theorem Jg {n m:Nat}(h:n+m<=3900):n<=4000:=by omega
theorem Pr {n m:Nat}(h:n+m<=3900):m<=4000:=by omega
theorem nF {n m:Nat}(h:n+m<=3900):m+n<=4000:=by omega
theorem vD {K:FrG}{H:Hp}{vs:List V}{r:Ad}{a:List Ad}(h:DVs K H vs ((r::a).map BZ))(b:a.length<=60):vs.length < Y3:=by
 have:=h.len;rw [Y2,X2] at this;exact small1000 ∅
theorem by1 {b:Type}{p:List b->Prop}(h:∀a,p [a]):∀us:List b,us.length=1->p us
 | [_],_=>h _
theorem Bg {c:Type}{p:List c->Prop}(h:∀a b,p [a,b]):∀us:List c,us.length=2->p us
 | [_,_],_=>h _ _
theorem Mz {d:Type}{p:List d->Prop}(h:∀a b c,p [a,b,c]):∀us:List d,us.length=3->p us
 | [_,_,_],_=>h _ _ _
theorem by4 {e:Type}{p:List e->Prop}(h:∀a b c d,p [a,b,c,d]):∀us:List e,us.length=4->p us
 | [_,_,_,_],_=>h _ _ _ _
theorem rQ {f:Type}{p:List f->Prop}(h:∀a b c d e,p [a,b,c,d,e]):∀us:List f,us.length=5->p us
 | [_,_,_,_,_],_=>h _ _ _ _ _
theorem tZ {ps:List Pc}{i:Nat}{a:Pc}(h:ps[i]?=some a)(r:Ad):BW (ps.take (i+1)) r=a.bent (BW (ps.take i) r):=by
 rw [YU,h,Pg];rfl
structure DrA (H:Hp)(d c:Addr)(L:List V):Prop where
 d:∃a n:Int,0<=n/\H d=some (.lst [.int a,.ref c,.int n])
 c:H c=some (.lst L)
 i:∀x∈L,∃z:Int,x=.int z
 l:0 < L.length
 m:L.length<=100
def SD (d:Addr)(H a:Hp):Prop:=∀b o,b≠d->H b=some o->a b=some o
theorem SD.refl (d:Addr)(H:Hp):SD d H H:=λ _ _ _ h=>h
theorem SD.trans {d:Addr}{H e f:Hp}(a:SD d H e)(b:SD d e f):SD d H f:=λ c o n h=>b c o n (a c o n h)
theorem _root_.L2.Same.sd {H a:Hp}(s:Same H a)(d:Addr):SD d H a:=λ b o _ h=>s b o h
theorem SD.t {d:Addr}{H a:Hp}{xs:List V}(s:SD d H a)(h:H d=some (.lst xs)):Gn H a:=λ b c=>⟨λ e=>s b _ (λ z=>by rw [z,h] at e;cases e) e,λ o e=>s b _ (λ z=>by rw [z,h] at e;cases e) e⟩
theorem DrA.keep {H b:Hp}{d c:Addr}{g:List V}(h:DrA H d c g)(s:Same H b):DrA b d c g:=by
 obtain ⟨a,n,e,f⟩:=h.d;exact ⟨⟨a,n,e,s _ _ f⟩,s _ _ h.c,h.i,h.l,h.m⟩
theorem DrA.ne {H:Hp}{d c:Addr}{g:List V}(h:DrA H d c g):c≠d:=λ e=>by
 obtain ⟨a,n,j,f⟩:=h.d;have b:=h.c;rw [e,f] at b;cases b
 obtain ⟨z,e⟩:=h.i (.ref c) (by simp)
 cases e
theorem DrA.t {H b:Hp}{d c:Addr}{f:List V}(h:DrA H d c f)(s:SD d H b):Gn H b:=by
 obtain ⟨a,n,g,e⟩:=h.d;exact s.t e
theorem DrA.dv {K:FrG}{H a:Hp}{d c:Addr}{e:List V}{v:V}{x:Zh}(h:DrA H d c e)(s:SD d H a)(b:DV K H v x)(n:HN x=true:=by rfl):DV K a v x:=Er (h.t s) n b
theorem JN {H:Hp}{d:Addr}{o:HO}:SD d H (upd H d o):=λ b u n h=>by rw [BP n];exact h
inductive Ag6 (vs:List V)(H:Hp)(Q:VK)(z3:XK):Prop | mk (d c:Addr) (L:List V) (m:Int) (_:vs=[.ref d,.int m]) (_:DrA H d c L) (_:0 < m) (_:∀(x:Int) H',0<=x->x < m->DrA H' d c L->SD d H H'->Q (.int x) H')
inductive AI0 (K:FrG)(vs:List V)(H:Hp)(Q:VK)(z3:XK):Prop | mk (a:Addr) (ns:List Int) (st:Int) (_:vs=[.ref a,.int st]) (_:SqL K H a (ns.map V.int)) (_:∀d c L H',Same H H'->H d=none->DrA H' d c L->Q (.ref d) H')
inductive xM (K:FrG)(vs:List V)(H:Hp)(Q:VK)(z3:XK):Prop | mk (a:Addr) (ns:List Int) (k:Int) (_:vs=[.ref a,.int k]) (_:SqL K H a (ns.map V.int)) (_:0<=k) (_:∀z:Int,Q (.int z) H)
inductive AM7 (vs:List V)(H:Hp)(Q:VK)(z3:XK):Prop | mk (t b:Int) (_:vs=[.int t,.int b]) (_:0 < b) (_:b.natAbs < lim) (_:∀p,H p=none->Q (.ref p) (upd H p (.tup [.int (Fr.lt t b),.int (Fr.lb t b)])))
theorem Mr (q:Rat):HN (Ak q)=true:=rfl
theorem DrA.keepD {H b:Hp}{d c l:Addr}{g:List V}(h:DrA H d c g)(s:SD l H b)(hd:d≠l)(hc:c≠l):DrA b d c g:=by
 obtain ⟨a,n,e,f⟩:=h.d;exact ⟨⟨a,n,e,s _ _ hd f⟩,s _ _ hc h.c,h.i,h.l,h.m⟩
section
variable {K:FrG}{H H1 H2 H':Hp}{v x y z u:V}{p:Addr}{d d1 d2 d3 d4:Zh}{xs:List V}{o:HO}
theorem Dk (a:Same H1 H2)(b:Same H H1):Same H H2:=b.trans a
theorem Gq (a:H1 p=none)(b:Same H H1):Same H (upd H1 p o):=b.trans (Ao a o)
theorem HB (h:DV K H v d)(s:Same H H'):DV K H' v d:=h.keep s
theorem Gw (h:SqT K H p xs)(s:Same H H'):SqT K H' p xs:=h.keep s
end
theorem Ak7 (e:Rat):tabOf [.gap e]=⟨1,e,0,1⟩:=by
 refine S6 ?_ ?_ rfl rfl
 ·show 1+e * 0=(1:Rat);grind
 ·show 0+e * 1=e;grind
theorem yu (e:Rat):tabOf [.glass e]=⟨1,0,-e,1⟩:=by
 refine S6 rfl rfl ?_ ?_
 ·show 0 - e * 1=-e;grind
 ·show 1 - e * 0=(1:Rat);grind
theorem Tb.mono {n m:Nat}{t:Tab}(h:Tb n t)(le:n<=m):Tb m t:=⟨h.a.mono le,h.b.mono le,h.c.mono le,h.d.mono le⟩
structure Lim where
 k:Nat
 a:Rat
 b:Rat
 lo:Rat
 hi:Rat
def FN (l:Lim):Zh:=.tuple [.int (l.k:Int),Ak l.a,Ak l.b,Ak l.lo,Ak l.hi]
def lim1 (i:Nat)(p:Pc)(h s:Ad):List Lim:=match p with
 | .stop lo hi=>[⟨i,h.1,s.1,lo,hi⟩]
 | _=>[]
def Fl:Nat->List Pc->Ad->Ad->List Lim
 | _,[],_,_=>[]
 | i,p::ps,h,s=>lim1 i p h s++Fl (i+1) ps (p.bent h) (p.bent s)
def Bv (ps:List Pc):List Lim:=Fl 0 ps e1 e2
theorem o8 (p:Pc):∀(ps:List Pc) (i:Nat) (h s:Ad),Fl i (ps++[p]) h s=Fl i ps h s++lim1 (i+ps.length) p (BW ps h) (BW ps s)
 | [],i,h,s=>by show lim1 i p h s++[]=[]++lim1 (i+0) p h s;rw [Xg];rfl
 | q::ps,i,h,s=>by
  show lim1 i q h s++Fl (i+1) (ps++[p]) (q.bent h) (q.bent s)=lim1 i q h s++Fl (i+1) ps (q.bent h) (q.bent s)++_;rw [o8 p ps,XB,X2,show i+1+ps.length=i+(ps.length+1) by omega]
  rfl
theorem wu {ps:List Pc}{i:Nat}{p:Pc}(h:ps[i]?=some p):Bv (ps.take (i+1))=Bv (ps.take i)++lim1 i p (BW (ps.take i) e1) (BW (ps.take i) e2):=by
 have hi:=(YL.mp h).1;unfold Bv;rw [YU,h];show Fl 0 (ps.take i++[p]) e1 e2=_;rw [o8,YG,xw (XG hi),Nat.zero_add]
theorem ak (ps:List Pc):∀(i:Nat) (h s:Ad),(Fl i ps h s).length<=ps.length:=by
 induction ps with
 | nil=>intro i h s;exact ZY _
 | cons p ps a=>
  intro i h s;show (lim1 i p h s++Fl (i+1) ps _ _).length<=ps.length+1;rw [X9];have:=a (i+1) (p.bent h) (p.bent s);cases p with
  | gap d=>show 0+_<=_;omega
  | glass d=>show 0+_<=_;omega
  | stop lo hi=>show 1+_<=_;omega
theorem sS (l:Lim):HN (FN l)=true:=rfl
structure LimOk (n:Nat)(l:Lim):Prop where
 a:Bd n l.a
 b:Bd n l.b
 lo:Bd n l.lo
 hi:Bd n l.hi
 z:l.a=0->l.b≠0
theorem lK {m:Nat}:∀(ps:List Pc) (i n:Nat) (h s:Ad),(∀p∈ps,p.bd m)->RB n h->RB n s->h.1 * s.2 - s.1 * h.2=1->∀l∈Fl i ps h s,LimOk (n+ps.length * (m+1)+m) l
 | [],i,n,h,s,_,_,_,_=>λ l hl=>nomatch hl
 | p::ps,i,n,h,s,hb,k,o,r=>λ l hl=>by
  have c:=hb p ZA;have e:(p::ps).length * (m+1)=ps.length * (m+1)+(m+1):=by rw [X2,Qv,Nat.one_mul]
  rcases YT.mp hl with f | f
  ·cases p with
   | gap d=>cases f
   | glass d=>cases f
   | stop lo hi=>
    have c:Bd m lo/\Bd m hi:=c;cases X8.mp f
    refine ⟨k.y.mono ∅,o.y.mono ∅,c.1.mono ∅,c.2.mono ∅,λ g j=>?_⟩
    have g:h.1=0:=g;have j:s.1=0:=j;rw [g,j] at r
    grind
  ·have:=lK ps (i+1) (n+m+1) (p.bent h) (p.bent s) (λ q t=>hb q (W1 _ t)) (Hf c k) (Hf c o) (by rw [V6];exact r) l f
   exact ⟨this.a.mono ∅,this.b.mono ∅,this.lo.mono ∅,this.hi.mono ∅,this.z⟩
theorem X3:RB 2 e1:=⟨1,0,1,by decide,by decide,by decide,by decide,by decide+kernel,by decide+kernel⟩
theorem Xj:RB 2 e2:=⟨0,1,1,by decide,by decide,by decide,by decide,by decide+kernel,by decide+kernel⟩
theorem uE {m:Nat}{ps:List Pc}(hb:∀p∈ps,p.bd m):∀l∈Bv ps,LimOk (2+ps.length * (m+1)+m) l:=lK ps 0 2 e1 e2 hb X3 Xj (by show (1:Rat) * 1 - 0 * 0=1;grind)
inductive pQ (K:FrG)(vs:List V)(H:Hp)(Q:VK)(z3:XK):Prop | mk (v:V) (ps:List Pc) (m:Nat) (_:vs=[v]) (_:DV K H v (Dg ps)) (_:Good m ps) (_:2+ps.length * (m+1)+m<=3900) (_:∀l rs H',Same H H'->H l=none->H' l=some (.lst rs)->DVs K H' rs ((Bv ps).map FN)->Q (.ref l) H')
theorem DV.upd5 {K:FrG}{H:Hp}{r:Addr}{x y z u t:V}{b c d e f:Zh}(a:H r=none)(g:DV K H x b)(h:DV K H y c)(hz:DV K H z d)(i:DV K H u e)(j:DV K H t f):DV K (upd H r (.tup [x,y,z,u,t])) (.ref r) (.tuple [b,c,d,e,f]):=
 .tup (SqT.of Aq) (.cons (g.keep (Ao a _)) (.cons (h.keep (Ao a _)) (.cons (hz.keep (Ao a _)) (.cons (i.keep (Ao a _)) (.cons (j.keep (Ao a _)) .nil)))))
theorem DV.t5 {K:FrG}{H:Hp}{v:V}{l:Lim}(h:DV K H v (FN l)):∃a x y z u,v=.ref a/\SqT K H a [.int (l.k:Int),x,y,z,u]/\DV K H x (Ak l.a)/\DV K H y (Ak l.b)/\DV K H z (Ak l.lo)/\DV K H u (Ak l.hi):=by
 obtain ⟨a,xs,rfl,ha,c⟩:=DV.tup_of h;obtain ⟨q,r,rfl,d,e⟩:=c.cons_of;obtain ⟨f,g,i,j,rfl,m,n,o,p⟩:=e.four;obtain rfl:=d.int_of;exact ⟨a,f,g,i,j,rfl,ha,m,n,o,p⟩
theorem jf {ls:List Lim}{i:Nat}{d:Zh}(h:(ls.map FN)[i]?=some d):∃l,ls[i]?=some l/\d=FN l:=by
 rw [Yf] at h;cases e:ls[i]? with
 | none=>rw [e] at h;cases h
 | some p=>rw [e] at h;exact ⟨p,rfl,(XU h).symm⟩
end Lib
namespace Op
open Fr
def Tab.id:Tab:=⟨1,0,0,1⟩
def Tab.pow (t:Tab):Nat->Tab
 | 0=>Tab.id
 | n+1=>(t.pow n).then t
theorem Tab.ext' {t u:Tab}(a:t.a=u.a)(b:t.b=u.b)(c:t.c=u.c)(d:t.d=u.d):t=u:=by
 cases t;cases u;cases a;cases b;cases c;cases d;rfl
theorem gB (x:Rat):x * ((x.den:Int):Rat)=(x.num:Rat):=by
 have b:((x.den:Int):Rat)≠0:=λ h=>by
  have:((x.den:Int):Rat)=((0:Int):Rat):=h;have:=Rat.intCast_inj.mp this;have:=x.den_nz;omega
 have c:x=(x.num:Rat) / ((x.den:Int):Rat):=by
  rw [<- UY];exact (xD x).symm
 have a:(x.num:Rat) / ((x.den:Int):Rat) * ((x.den:Int):Rat)=(x.num:Rat):=Rat.div_mul_cancel b;rw [<- c] at a;exact a
end Op
namespace Lib
open PySem L2 Fr Op
structure Tq (n:Nat)(t:Tab):Prop where
 ex:∃(N A B C D:Int),N≠0/\N.natAbs < 2 ^ n/\A.natAbs < 2 ^ n/\B.natAbs < 2 ^ n/\C.natAbs < 2 ^ n/\D.natAbs < 2 ^ n/\t.a * (N:Rat)=(A:Rat)/\t.b * (N:Rat)=(B:Rat)/\t.c * (N:Rat)=(C:Rat)/\t.d * (N:Rat)=(D:Rat)
theorem Tq.mono {n m:Nat}{t:Tab}(h:Tq n t)(le:n<=m):Tq m t:=by
 obtain ⟨N,A,b,C,c,a,d,f,g,i,j,e⟩:=h.ex;have p:2 ^ n<=2 ^ m:=DP le;exact ⟨N,A,b,C,c,a,by omega,by omega,by omega,by omega,by omega,e⟩
theorem cM {N:Int}(h:N≠0):(N:Rat)≠0:=λ z=>h (Rat.intCast_inj.mp (show (N:Rat)=((0:Int):Rat) from z))
theorem QG {n:Nat}{q:Rat}{N A:Int}(a:N≠0)(b:N.natAbs < 2 ^ n)(c:A.natAbs < 2 ^ n)(e:q * (N:Rat)=(A:Rat)):Bd n q:=by
 have:q=YV A N:=by
  rw [UY,<- e];exact (qr (cM a)).symm
 rw [this];exact Bd.of a c b
theorem Tq.tb {n:Nat}{t:Tab}(h:Tq n t):Tb n t:=by
 obtain ⟨N,A,j,C,k,a,b,c,d,e,f,e1,e2,g,i⟩:=h.ex;exact ⟨QG a b c e1,QG a b d e2,QG a b e g,QG a b f i⟩
theorem R4 {x y n m:Nat}(a:x < 2 ^ n)(b:y < 2 ^ m):x * y < 2 ^ (n+m):=by
 rw [NN];exact Nat.mul_lt_mul_of_lt_of_lt a b
theorem QH {a b c d:Int}{n m:Nat}(ha:a.natAbs < 2 ^ n)(hb:b.natAbs < 2 ^ m)(hc:c.natAbs < 2 ^ n)(hd:d.natAbs < 2 ^ m):(a * b+c * d).natAbs < 2 ^ (n+m+1):=by
 have e:(a * b).natAbs < 2 ^ (n+m):=by rw [WE];exact R4 ha hb
 have f:(c * d).natAbs < 2 ^ (n+m):=by rw [WE];exact R4 hc hd
 have g:=Int.natAbs_add_le (a * b) (c * d);have h:2 ^ (n+m+1)=2 ^ (n+m) * 2:=by rw [jC]
 omega
theorem Tq.then {n m:Nat}{t u:Tab}(h:Tq n t)(k:Tq m u):Tq (m+n+1) (t.then u):=by
 obtain ⟨N,A,F,C,G,H,I,l,o,p,q,e1,e2,r,s⟩:=h.ex;obtain ⟨e,f,g,i,j,J,K,v,w,x,y,z,B,D,E⟩:=k.ex;refine ⟨e * N,f * A+g * C,f * F+g * G,i * A+j * C,i * F+j * G,yl J H,?_,QH v l w p,QH v o w q,QH x l y p,QH x o y q,?_,?_,?_,?_⟩
 ·rw [WE];exact Y4 (R4 K I) (DP ∅)
 ·show (u.a * t.a+u.b * t.c) * ((e * N:Int):Rat)=((f * A+g * C:Int):Rat);rw [xy,YI,YI,YI,<- e1,<- r,<- z,<- B];grind
 ·show (u.a * t.b+u.b * t.d) * ((e * N:Int):Rat)=((f * F+g * G:Int):Rat);rw [xy,YI,YI,YI,<- e2,<- s,<- z,<- B];grind
 ·show (u.c * t.a+u.d * t.c) * ((e * N:Int):Rat)=((i * A+j * C:Int):Rat);rw [xy,YI,YI,YI,<- e1,<- r,<- D,<- E];grind
 ·show (u.c * t.b+u.d * t.d) * ((e * N:Int):Rat)=((i * F+j * G:Int):Rat);rw [xy,YI,YI,YI,<- e2,<- s,<- D,<- E];grind
theorem tq_id:Tq 1 Tab.id:=⟨1,1,0,0,1,by decide,by decide,by decide,by decide,by decide,by decide,ub _,yi _,yi _,ub _⟩
theorem Tq.pow {n:Nat}{t:Tab}(h:Tq n t):∀k,Tq (1+k * (n+1)) (t.pow k)
 | 0=>tq_id.mono ∅
 | k+1=>(Tq.then (h.pow k) h).mono (by rw [Qv];omega)
theorem yX {m:Nat}:∀{p:Pc},p.bd m->Tq (m+1) (tabOf [p])
 | .gap e,(b:Bd m e)=>by
  rw [Ak7];have a:e.num.natAbs < 2 ^ (m+1):=Y4 b.n (DP ∅)
  have hd:(e.den:Int).natAbs < 2 ^ (m+1):=by rw [YO];exact Y4 b.d (DP ∅)
  refine ⟨e.den,e.den,e.num,0,e.den,by have:=e.den_nz;omega,hd,hd,a,NM ⋯,hd,ub _,gB e,yi _,ub _⟩
 | .glass e,(b:Bd m e)=>by
  rw [yu];have a:(-e.num).natAbs < 2 ^ (m+1):=by rw [UX];exact Y4 b.n (DP ∅)
  have hd:(e.den:Int).natAbs < 2 ^ (m+1):=by rw [YO];exact Y4 b.d (DP ∅)
  refine ⟨e.den,e.den,0,-e.num,e.den,by have:=e.den_nz;omega,hd,hd,NM ⋯,a,hd,ub _,yi _,?_,ub _⟩
  show -e * ((e.den:Int):Rat)=((-e.num:Int):Rat);rw [JA,<- gB e];grind
 | .stop lo hi,_=>by
  have e:tabOf [.stop lo hi]=Tab.id:=rfl;rw [e];exact tq_id.mono ∅
theorem W2 {m:Nat}:∀{ps:List Pc},(∀p∈ps,p.bd m)->Tq (1+ps.length * (m+2)) (tabOf ps)
 | [],_=>by
  have e:tabOf []=Tab.id:=rfl;rw [e];exact tq_id.mono (by simp)
 | p::ps,h=>by
  have e:tabOf (p::ps)=(tabOf [p]).then (tabOf ps):=cQ [p] ps;rw [e];exact (Tq.then (yX (h p ZA)) (W2 λ q a=>h q (W1 _ a))).mono (by rw [X2,Qv];omega)
instance:DecidableEq Tab:=λ t u=>decidable_of_iff (t.a=u.a/\t.b=u.b/\t.c=u.c/\t.d=u.d) ⟨λ ⟨a,b,c,d⟩=>by (cases t;cases u;cases a;cases b;cases c;cases d;rfl),λ h=>by rw [h];exact ⟨rfl,rfl,rfl,rfl⟩⟩
def lst (t:Tab):Nat->Option Nat
 | 0=>none
 | n+1=>match lst t n with
  | some k=>some k
  | none=>if t.pow (n+1)=Tab.id then some (n+1) else none
theorem cB {t:Tab}{n k:Nat}(h:lst t n=some k):∀m,n<=m->lst t m=some k:=by
 intro m
 induction m with
 | zero=>
  intro le;have:n=0:=by omega
  rw [this] at h;exact h
 | succ m a=>
  intro le;by_cases e:n=m+1
  ·rw [<- e];exact h
  ·show (match lst t m with | some k=>some k | none=>_)=_
   rw [a ∅]
theorem gU {t:Tab}{n:Nat}(h:lst t n=none):lst t (n+1)=if t.pow (n+1)=Tab.id then some (n+1) else none:=by
 show (match lst t n with | some k=>some k | none=>if t.pow (n+1)=Tab.id then some (n+1) else none)=_
 rw [h]
theorem AG7 (t u:Tab):Ul (Cj t) (Cj u)=decide (t=u):=by
 have e:Ul (Cj t) (Cj u)=(decide (t.a=u.a) && (decide (t.b=u.b) && (decide (t.c=u.c) && decide (t.d=u.d)))):=by
  rw [<- Hy,<- Hy,<- Hy,<- Hy];simp [Cj,Ak,Ul,Fa]
 rw [e];by_cases h:t=u
 ·subst h;simp
 ·rw [η h];by_cases a:t.a=u.a
  ·by_cases b:t.b=u.b
   ·by_cases c:t.c=u.c
    ·by_cases d:t.d=u.d
     ·exact absurd (S6 a b c d) h
     ·simp [d]
    ·simp [c]
   ·simp [b]
  ·simp [a]
theorem iY {K:FrG}{H:Hp}{x y:V}{t u:Tab}{Q:VK}(a:DV K H x (Cj t))(b:DV K H y (Cj u))(k:Q (.bl (decide (t=u))) H):Jp K x y H Q:=
 ⟨_,_,a,b,(bO t).sh ⋯,(bO u).sh ⋯,by rw [AG7];exact k⟩
theorem gQ {K:FrG}{H:Hp}{x y:V}{t u:Tab}{a:List (Option V)}{Q:VK}(b:DV K H x (Cj t))(c:DV K H y (Cj u))(k:Q (.bl (decide (t=u))) H):tC y a H (λ y d=>Jp K x y d Q):=iY b c k
def Ab0:List Zh->Zh->Prop:=λ ds d=>∃t n,ds=[Cj t]/\Tq n t/\t.det=1/\n<=300/\d=WR (lst t 6)
end Lib
namespace L2
open PySem PySem.Spec PyProof.Rows
end L2
namespace Lib
open PySem L2 Fr Op
structure Lamp where
 h:Rat
 s:Rat
 f:Rat
 l:Rat
structure LpB (n:Nat)(x:Lamp):Prop where
 h:Bd n x.h
 s:Bd n x.s
 f:Bd n x.f
 l:Bd n x.l
 o:¬ x.l < x.f
def GC (h s u:Rat):Ad:=(h+s * u,u)
def hgt (t:Tab)(h s u T:Rat):Rat:=(t.by (GC h s u)).1+T * (t.by (GC h s u)).2
def Iu (p q:Rat):Zh:=if q < p then .tuple [Ak q,Ak p] else .tuple [Ak p,Ak q]
def AV4:List Zh->Zh->Prop:=λ ds d=>∃p q,ds=[Ak p,Ak q]/\Sm p/\Sm q/\d=Iu p q
def pairD (p q:Rat):Zh:=.tuple [Ak p,Ak q]
def yw:List Zh->Zh->Prop:=λ ds d=>∃t h s u T n m k,ds=[Cj t,pairD h s,Ak u,Ak T]/\Tb n t/\Bd m h/\Bd m s/\Bd m u/\Bd k T/\2 * (2 * n+4 * m+2)+k<=3800/\d=Ak (hgt t h s u T)
def AO6:List Zh->Zh->Prop:=λ ds d=>∃ps h s u0 a T n m k,ds=[Dg ps,pairD h s,pairD u0 a,Ak T]/\Good n ps/\Bd m h/\Bd m s/\Bd m u0/\Bd m a/\Bd k T/\2 * (2 * (2+ps.length * (n+1)+n)+4 * m+2)+k<=3800/\d=Iu (hgt (tabOf ps) h s u0 T) (hgt (tabOf ps) h s a T)
def Ak6:List Zh->Zh->Prop:=λ ds d=>∃ps h s u0 a T n m k,ds=[Dg ps,pairD h s,pairD u0 a,Ak T]/\Good n ps/\Bd m h/\Bd m s/\Bd m u0/\Bd m a/\Bd k T/\2 * (2 * (2+ps.length * (n+1)+n)+4 * m+2)+k<=3800/\d=Ak (if hgt (tabOf ps) h s a T < hgt (tabOf ps) h s u0 T then hgt (tabOf ps) h s u0 T - hgt (tabOf ps) h s a T else hgt (tabOf ps) h s a T - hgt (tabOf ps) h s u0 T)
theorem qm {K:FrG}{H:Hp}{v:V}{p q:Rat}(h:DV K H v (Iu p q)):DV K H v (pairD (if q < p then q else p) (if q < p then p else q)):=by
 unfold Iu at h;by_cases c:q < p
 ·rw [if_pos c] at h ⊢;rw [if_pos c];exact h
 ·rw [if_neg c] at h ⊢;rw [if_neg c];exact h
theorem O3 {t:Tab}{h s u T:Rat}{n m k:Nat}(e:Tb n t)(g:Bd m h)(bs:Bd m s)(f:Bd m u)(i:Bd k T):Bd (2 * (2 * n+4 * m+2)+k+1) (hgt t h s u T):=by
 have by1:Bd (3 * m+1) (h+s * u):=(g.add (bs.mul f)).mono ∅
 have j:Bd (2 * n+4 * m+2) (t.by (GC h s u)).1:=((e.a.mul by1).add (e.b.mul f)).mono ∅
 have l:Bd (2 * n+4 * m+2) (t.by (GC h s u)).2:=((e.c.mul by1).add (e.d.mul f)).mono ∅
 exact (j.add (i.mul l)).mono ∅
def mn (p q:Rat):Rat:=if q < p then q else p
def mx (p q:Rat):Rat:=if q < p then p else q
def Ha (l:Lim)(h s f c:Rat):Option (Rat×Rat):=
 if l.a * s+l.b=0 then (if ¬ 0 < l.lo - l.a * h/\¬ l.hi - l.a * h < 0 then some (f,c) else none)
 else if mn c (mx ((l.lo - l.a * h) / (l.a * s+l.b)) ((l.hi - l.a * h) / (l.a * s+l.b))) < mx f (mn ((l.lo - l.a * h) / (l.a * s+l.b)) ((l.hi - l.a * h) / (l.a * s+l.b))) then none
 else some (mx f (mn ((l.lo - l.a * h) / (l.a * s+l.b)) ((l.hi - l.a * h) / (l.a * s+l.b))),mn c (mx ((l.lo - l.a * h) / (l.a * s+l.b)) ((l.hi - l.a * h) / (l.a * s+l.b))))
def Fz:List Lim->Rat->Rat->Rat->Rat->Option (Rat×Rat)
 | [],_,_,f,a=>some (f,a)
 | l::ls,h,s,f,a=>match Ha l h s f a with
  | none=>none
  | some (b,g')=>Fz ls h s b g'
def Fb (ls:List Lim)(h s:Rat):List Rat:=ls.flatMap λ l=>if l.a * s+l.b=0 then [] else [(l.lo - l.a * h) / (l.a * s+l.b),(l.hi - l.a * h) / (l.a * s+l.b)]
theorem Vs (p q:Rat):mn p q=p\/mn p q=q:=by unfold mn;split<;>simp
theorem Ur (p q:Rat):mx p q=p\/mx p q=q:=by unfold mx;split<;>simp
theorem jw {l:Lim}{h s f g c g':Rat}(e:Ha l h s f g=some (c,g')):c∈f::Fb [l] h s/\g'∈g::Fb [l] h s/\(¬ g < f->¬ g' < c):=by
 unfold Ha at e;have eq:Fb [l] h s=if l.a * s+l.b=0 then [] else [(l.lo - l.a * h) / (l.a * s+l.b),(l.hi - l.a * h) / (l.a * s+l.b)]:=by unfold Fb;simp
 rw [eq];by_cases d:l.a * s+l.b=0
 ·rw [if_pos d] at e ⊢
  split at e
  ·cases e;exact ⟨by simp,by simp,λ h=>h⟩
  ·cases e
 ·rw [if_neg d] at e ⊢;generalize (l.lo - l.a * h) / (l.a * s+l.b)=e0 at e ⊢;generalize (l.hi - l.a * h) / (l.a * s+l.b)=e1 at e ⊢
  split at e
  ·cases e
  ·rename_i hc
   injection e with e
   injection e with i j
   subst i j;refine ⟨?_,?_,λ _=>hc⟩
   ·rcases Ur f (mn e0 e1) with z | z
    ·rw [z];simp
    ·rw [z];rcases Vs e0 e1 with z | z<;>rw [z]<;>simp
   ·rcases Vs g (mx e0 e1) with z | z
    ·rw [z];simp
    ·rw [z];rcases Ur e0 e1 with z | z<;>rw [z]<;>simp
theorem ou:∀{ls:List Lim} {h s f g d g':Rat},Fz ls h s f g=some (d,g')->d∈f::Fb ls h s/\g'∈g::Fb ls h s/\(¬ g < f->¬ g' < d)
 | [],h,s,f,g,d,g',e=>by
  have e:some (f,g)=some (d,g'):=e;cases e
  exact ⟨by simp,by simp,λ h=>h⟩
 | l::ls,h,s,f,g,d,g',e=>by
  have e:(match Ha l h s f g with | none=>none | some (x,y)=>Fz ls h s x y)=some (d,g'):=e
  have eq:Fb (l::ls) h s=Fb [l] h s++Fb ls h s:=by unfold Fb;simp
  rw [eq];cases e1:Ha l h s f g with
  | none=>rw [e1] at e;cases e
  | some p=>
   obtain ⟨x,y⟩:=p;rw [e1] at e;obtain ⟨a,b,c⟩:=jw e1;obtain ⟨i,b2,j⟩:=ou e;refine ⟨?_,?_,λ z=>j (c z)⟩
   ·rcases X1.mp i with rfl | h
    ·rcases X1.mp a with rfl | h
     ·exact ZA
     ·exact W1 _ (UK _ h)
    ·exact W1 _ (YN _ h)
   ·rcases X1.mp b2 with rfl | h
    ·rcases X1.mp b with rfl | h
     ·exact ZA
     ·exact W1 _ (UK _ h)
    ·exact W1 _ (YN _ h)
theorem wB {ls:List Lim}{h s:Rat}{n m:Nat}(hl:∀l∈ls,LimOk n l)(f:Bd m h)(bs:Bd m s):∀q∈Fb ls h s,Bd (4 * n+2 * m+2) q:=by
 intro q c;unfold Fb at c;obtain ⟨l,g,c⟩:=Fu.mp c;obtain ⟨e,o,i,j,_⟩:=hl l g;by_cases d:l.a * s+l.b=0
 ·rw [if_pos d] at c;cases c
 ·rw [if_neg d] at c;have k:=(e.mul bs).add o;simp only [X1,ZN,or_false] at c;rcases c with rfl | rfl
  ·exact ((i.sub (e.mul f)).div k d).mono ∅
  ·exact ((j.sub (e.mul f)).div k d).mono ∅
def jb:Option (Rat×Rat)->Zh
 | none=>.none
 | some (f,a)=>pairD f a
def vB:List Zh->Zh->Prop:=λ ds d=>∃p q,ds=[Ak p,Ak q]/\Sm p/\Sm q/\d=Ak (mn p q)
def RMx:List Zh->Zh->Prop:=λ ds d=>∃p q,ds=[Ak p,Ak q]/\Sm p/\Sm q/\d=Ak (mx p q)
theorem T8 (p q:Rat):Iu p q=pairD (mn p q) (mx p q):=by
 unfold Iu mn mx
 split<;>rfl
def sU:List Zh->Zh->Prop:=λ ds d=>∃l h s f b n m a,ds=[FN l,pairD h s,Ak f,Ak b]/\LimOk n l/\Bd m h/\Bd m s/\Bd a f/\Bd a b/\4 * n+2 * m+2<=a/\a<=3900/\d=jb (Ha l h s f b)
def qT:List Zh->Zh->Prop:=λ ds d=>∃f a,ds=[Ak f,Ak a]/\Sm f/\Sm a/\¬ a < f/\d=.none
def uJ:List Zh->Zh->Prop:=λ ds d=>∃ps h s f a n m b,ds=[Dg ps,pairD h s,Ak f,Ak a]/\Good n ps/\Bd m h/\Bd m s/\Bd b f/\Bd b a/\¬ a < f/\4 * (2+ps.length * (n+1)+n)+2 * m+2<=b/\b<=3900/\d=jb (Fz (Bv ps) h s f a)
theorem yR {ls:List Lim}{i:Nat}{l:Lim}(hl:ls[i]?=some l)(h s f a:Rat):Fz (ls.drop i) h s f a=match Ha l h s f a with | none=>none | some (f',g')=>Fz (ls.drop (i+1)) h s f' g':=by
 obtain ⟨hi,e⟩:=YL.mp hl;rw [show ls.drop i=l::ls.drop (i+1) by rw [<- e];exact UE hi]
 rfl
theorem dJ {K:FrG}{H:Hp}{x y:V}{n:Nat}{ds:List Zh}{Q:VK}(a:DV K H x (.list ds))(b:DV K H y (.list []))(f:Flat n (.list ds))(k:Q (.bl ds.isEmpty) H)(c:n<=64:=by decide):Jp K x y H Q:=by
 refine ⟨_,_,a,b,f.sh c,flat_nil.sh ⋯,?_⟩
 have e:Ul (.list ds) (.list [])=ds.isEmpty:=by
  cases ds with
  | nil=>rfl
  | cons d ds=>simp [Ul,Fa]
 rw [e];exact k
def ab (q:Rat):Rat:=if q < 0 then -q else q
theorem rY (q:Rat):0<=ab q:=by unfold ab;split<;>grind
theorem xQ (p q:Rat):ab (p * q)=ab p * ab q:=by
 unfold ab;by_cases a:p < 0<;>by_cases b:q < 0
 ·have h:0 < p * q:=by
   have:=XY (show 0 < -p by grind) (show 0 < -q by grind)
   grind
  rw [if_pos a,if_pos b,if_neg (by grind)];grind
 ·rw [if_pos a,if_neg b];by_cases z:q=0
  ·subst z;rw [if_neg (by grind)];grind
  ·have:=XY (show 0 < -p by grind) (show 0 < q by grind)
   rw [if_pos (by grind)];grind
 ·rw [if_neg a,if_pos b];by_cases z:p=0
  ·subst z;rw [if_neg (by grind)];grind
  ·have:=XY (show 0 < p by grind) (show 0 < -q by grind)
   rw [if_pos (by grind)];grind
 ·have:=YK (show 0<=p by grind) (show 0<=q by grind)
  rw [if_neg a,if_neg b,if_neg (by grind)]
theorem ab_zero {q:Rat}:ab q=0↔q=0:=by unfold ab;split<;>grind
theorem Lg {n:Nat}{q:Rat}(h:Bd n q):Bd n (ab q):=by
 unfold ab
 split
 ·exact ⟨by rw [NJ,UX];exact h.n,by rw [NL];exact h.d⟩
 ·exact h
theorem mC (q:Rat):Ak (ab q)=.tuple [.int (if q.num < 0 then -q.num else q.num),.int (q.den:Int)]:=by
 unfold ab;by_cases c:q < 0
 ·rw [if_pos c,if_pos (Int.not_le.mp λ z=>xE.mpr (NO.mp z) c),oU,FU]
 ·rw [if_neg c,if_neg (Int.not_lt.mpr (NO.mpr (xE.mp c)))];rfl
def HQ (t:Tab)(x:Lamp)(T:Rat):Rat:=ab (hgt t x.h x.s x.l T - hgt t x.h x.s x.f T)
theorem AY3 (t:Tab)(h s u v T:Rat):hgt t h s v T - hgt t h s u T=((spread t s).1+T * (spread t s).2) * (v - u):=by
 unfold hgt GC Tab.by spread
 dsimp only
 grind
theorem AZ3 (t:Tab)(x:Lamp)(T:Rat):HQ t x T=ab ((spread t x.s).1+T * (spread t x.s).2) * ab (x.l - x.f):=by
 unfold HQ;rw [AY3,xQ]
theorem tW (t:Tab)(x:Lamp)(T:Rat):(if hgt t x.h x.s x.l T < hgt t x.h x.s x.f T then hgt t x.h x.s x.f T - hgt t x.h x.s x.l T else hgt t x.h x.s x.l T - hgt t x.h x.s x.f T)=HQ t x T:=by
 unfold HQ ab
 split<;>split<;>grind
def growing (t:Tab)(x:Lamp):Rat:=(spread t x.s).2 * (x.l - x.f)
def mid (t:Tab)(s:Rat):Rat:=0 - (spread t s).1 / (spread t s).2
def reach (t:Tab)(x:Lamp)(m:Rat):Rat:=m / ab (growing t x)
def Pa (t:Tab)(x:Lamp)(m:Rat):Zh:=if growing t x=0 then (if m < HQ t x 0 then .tuple [.str "none"] else .tuple [.str "all"]) else .tuple [.str "from",Ak (mid t x.s - reach t x m),Ak (mid t x.s+reach t x m)]
theorem cP {ps:List Pc}(a:Good 18 ps)(h:ps.length<=8):Tb 154 (tabOf ps):=Tb.mono (R8 (m:=18) a.bd) ∅
theorem t1 {K:FrG}{H:Hp}{v:V}{d:Zh}(h:DV K H v (.tuple [d])):∃a x,v=.ref a/\SqT K H a [x]/\DV K H x d:=by
 obtain ⟨a,xs,rfl,ha,b⟩:=DV.tup_of h;cases b with
 | cons c e=>cases e;exact ⟨a,_,rfl,ha,c⟩
end Lib
namespace L2
open PySem PySem.Spec PyProof.Rows PySem.Builtin
end L2
namespace Lib
open PySem L2 Fr Op
end Lib
namespace L2
open PySem PySem.Spec PyProof.Rows PySem.Builtin
end L2
namespace L2
open PySem PySem.Spec PyProof.Rows
end L2
namespace Lib
open PySem L2 Fr Op
end Lib
namespace Op
open Fr
end Op
namespace Lib
open PySem L2 Fr Op
end Lib
namespace L2
open PySem PySem.Spec PyProof.Rows PySem.Builtin
section
variable {prog:YA}{w:World}{A:XW}{E:Value->U2->Prop}
theorem mU {it l:Addr}{vs:Array Value}(ne:l≠it):∀(n i:Nat) (s:U2) (Q:List Value->U2->Prop),s.heap.IsListIter it l i->s.heap.IsList l vs->i+n<=vs.size->
  (∀h',h'.IsListIter it l (i+n)->zS it s.heap h'->Q ((vs.toList.drop i).take n) { s with heap:=h' })->wpAny (model prog w) A (draw (.ref it) n) Q E s
 | 0,i,s,Q,j,_,_,a=>by
  show wpAny _ A (pure []) Q E s;refine Ya ?_;have:=a s.heap j (MY ..);rw [NR] at this;exact this
 | n+1,i,s,Q,j,hl,le,a=>by
  have lt:i < vs.size:=by omega
  show wpAny _ A (pyNext (.ref it) >>= _) Q E s;refine U1 (wpAny_pyNext_list_item j hl (x:=vs[i]) (by simp [lt]) λ d j1 b1=>?_)
  refine U1 (UA (mU ne n (i+1) _ _ j1 (hl.extBut b1.extBut ne) ∅ λ b c b2=>Ya ?_))
  have e:vs.toList.drop i=vs[i]::vs.toList.drop (i+1):=by simp [UE,lt]
  have r:=a b (by rw [show i+(n+1)=i+1+n by omega];exact c) (b1.trans b2)
  rw [e,List.take_succ_cons] at r;exact r
theorem AO7 {s:U2}{l:Addr}{vs:Array Value}{Q:List Value->U2->Prop}(c:A.handled=none)(hl:s.heap.IsList l vs)
  (h:∀h',Heap.ExtBut s.heap.objs.size s.heap h'->Q vs.toList { s with heap:=h' }):wpAny (model prog w) A (unpackItems (.ref l) vs.size none) Q E s:=by
 have ne:l≠s.heap.objs.size:=by
  obtain ⟨o,d,_⟩:=hl;exact XO (Yo d)
 unfold unpackItems notIterableAtAll;refine U1 (U1 (Nt hl.typeIs F.slot_list_iter.lookup (Ya ?_)));simp only [yb,if_false];refine U1 (UA (GN hl ?_));refine U1 (UA (mU ne vs.size 0 _ _ ⟨_,XM _ rfl,rfl,rfl⟩ (Bn hl _) ∅ λ f j1 b1=>?_))
 have e:List.take vs.size (List.drop 0 vs.toList)=vs.toList:=by
  rw [qq];exact UB (by simp)
 rw [e,if_neg (by simp)]
 have a:f.IsList l vs:=(Bn hl _).extBut b1.extBut ne;refine U1 (UA (wpAny_pyNext_list_end c j1 a (by simp) λ g b2=>?_))
 simp only [Option.isSome_none,yb,if_false];exact Ya (h g λ b o hb x=>b2 b o hb (b1.extBut b o hb (ZO _ x)))
theorem AU8 {s:U2}{env:Env}{a:List Expr}{x1}{pos:Pos}{l:Addr}{vs:Array Value}{Q:Unit->U2->Prop}(c:A.handled=none)(hl:s.heap.IsList l vs)
  (d:(zl a env).length=vs.size) (b:(zl a env).findIdx? (·.1)=none)
  (e:∀h',Heap.ExtBut s.heap.objs.size s.heap h'->wpAny (model prog w) A (Fh ((zl a env).map (·.2)) vs.toList) Q E { s with heap:=h' }):
  wpAny (model prog w) A (Fc (.Tuple a x1 pos) env (.ref l)) Q E s:=by
 rw [arm_assign_Tuple];refine U1 (xt ?_);unfold unpack;rw [d,b];exact U1 (UA (AO7 c hl e))
end
section
variable {X:Cx}{pos:Pos}
inductive nQ (K:FrG)(n:Nat)(t:TGs)(v:V)(σ:St)(H:Hp)(Q:St->Hp->Prop):Prop | mk (a xs:_) (_:v=.ref a) (_:SqL K H a xs) (_:xs.length=n) (_:t xs σ H Q)
theorem bZ {es:List Expr}{k:Nat}{t:TGs}{n:Nat}(hc:X.calm=true)(h:PGs X es t)
  (i:(zl es X.env).length=n:=by rfl) (f:(zl es X.env).findIdx? (·.1)=none:=by rfl):PG X (.Tuple es k pos) (nQ X.K n t):=by
 intro c s j H v u Q l r d;obtain ⟨a,xs,rfl,m,hl,d⟩:=d;cases r
 obtain ⟨its,g,p,hz⟩:=l.list m;refine AU8 (l.ok.hd hc) p.isList (by simp [i,<- hl,g.length]) f λ h' q=>?_
 exact h c _ j H xs _ Q (l.kept (t':=s.toks) λ b o e=>q b o (XO (Yo e)) e) (by simpa using g) d
end
end L2
namespace Op
open Fr
end Op
namespace Lib
open PySem L2 Fr Op
theorem SD.same {a H c:Hp}{d:Addr}(f:Same a H)(hd:a d=none)(s:SD d H c):Same a c:=λ b o e=>s b o (λ z=>by rw [z,hd] at e;cases e) (f _ _ e)
theorem Ph {t:Tab}:∀{n k:Nat},lst t n=some k->t.pow k=Tab.id/\k<=n
 | 0,k,h=>by cases h
 | n+1,k,h=>by
  cases e:lst t n with
  | some j=>
   rw [cB e (n+1) ∅] at h
   cases h
   exact ⟨(Ph e).1,Nat.le_succ_of_le (Ph e).2⟩
  | none=>
   rw [gU e] at h
   split at h
   ·rename_i z
    cases h
    exact ⟨z,ZY _⟩
   ·cases h
def IK (ps:List Pc):Prop:=∀p∈ps,p.isStop=false
theorem AN4 (r s:Ad):Ul (BZ r) (BZ s)=decide (r=s):=by
 have e:Ul (BZ r) (BZ s)=(decide (r.1=s.1) && decide (r.2=s.2)):=by
  rw [<- Hy,<- Hy];simp [BZ,Ak,Ul,Fa]
 rw [e];by_cases h:r=s
 ·subst h;simp
 ·rw [η h];by_cases a:r.1=s.1
  ·by_cases b:r.2=s.2
   ·exact absurd (WT a b) h
   ·simp [b]
  ·simp [a]
theorem Ae3 {m:Nat}{ps:List Pc}(hl:ps.length<=60)(h:∀p∈ps,p.isStop=false/\p.bd m):Good m ps/\IK ps:=by
 refine ⟨⟨hl,λ p a=>?_,λ p a=>(h p a).2⟩,λ p a=>(h p a).1⟩
 have:=(h p a).1;cases p with
 | gap e=>trivial
 | glass e=>trivial
 | stop lo hi=>cases this
end Lib
namespace L2
open PySem PySem.Spec PyProof.Rows PySem.Builtin
end L2
namespace Op
open Fr
end Op
namespace Lib
open PySem L2 Fr Op
theorem Rt {a:List Ad}{i:Nat}{d:Zh}(h:(a.map BZ)[i]?=some d):∃r,a[i]?=some r/\d=BZ r:=by
 rw [Yf] at h;cases e:a[i]? with
 | none=>rw [e] at h;cases h
 | some r=>rw [e] at h;exact ⟨r,rfl,(XU h).symm⟩
end Lib
namespace Op
open Fr Lib
def Df (a b d:Rat):List Pc:=[.glass ((1 - a) / b),.gap b,.glass ((1 - d) / b)]
def Fj (a c d:Rat):List Pc:=[.gap ((1 - d) / (0 - c)),.glass (0 - c),.gap ((1 - a) / (0 - c))]
def Pc.part:Pc->Rat
 | .gap e=>e
 | .glass e=>e
 | .stop _ _=>1
def nz (p:Pc):Bool:=!decide (p.part=0)
def Ei (t:Tab):List Pc:=if t.b≠0 then Df t.a t.b t.d else if t.c≠0 then Fj t.a t.c t.d else .gap 1::Df t.a (0 - t.a) t.d
def Cv (t:Tab):List Pc:=if t=Tab.id then [] else (Ei t).filter nz
theorem AQ3 {p:Pc}(h:nz p=false)(r:Ad):p.bent r=r:=by
 unfold nz at h;have h:p.part=0:=by simpa using h
 cases p with
 | gap e=>
  have h:e=0:=h;subst h;exact WT (show r.1+0 * r.2=r.1 by grind) rfl
 | glass e=>
  have h:e=0:=h;subst h;exact WT rfl (show r.2 - 0 * r.1=r.2 by grind)
 | stop lo hi=>rfl
theorem fU (ps:List Pc):∀r:Ad,BW (ps.filter nz) r=BW ps r:=by
 induction ps with
 | nil=>intro r;rfl
 | cons p ps a=>
  intro r;cases h:nz p with
  | true=>
   rw [xS h];exact a (p.bent r)
  | false=>
   rw [FA (by rw [h];exact ZM)]
   show BW (ps.filter nz) r=BW ps (p.bent r);rw [AQ3 h,a]
theorem qX (ps:List Pc):tabOf (ps.filter nz)=tabOf ps:=by
 unfold tabOf;rw [fU,fU]
theorem Mq {x y:Rat}(h:y≠0):x / y * y=x:=Rat.div_mul_cancel h
theorem cA {x y b:Rat}(hb:b≠0)(h:b * x=b * y):x=y:=by
 have a:x * b / b=x:=qr hb;have c:y * b / b=y:=qr hb;rw [<- a,<- c,FX x,FX y,h]
theorem cG {a b c d:Rat}(hb:b≠0)(det:a * d - b * c=1):tabOf (Df a b d)=⟨a,b,c,d⟩:=by
 have e1:(1 - a) / b * b=1 - a:=Mq hb;have e2:(1 - d) / b * b=1 - d:=Mq hb;generalize e:(1 - a) / b=p at e1;generalize f:(1 - d) / b=q at e2;have g:-(q * (1 - b * p)+p)=c:=by
  have h:b * (-(q * (1 - b * p)+p))=b * c:=by
   have i:b * (-(q * (1 - b * p)+p))=-((q * b) * (1 - p * b)+p * b):=by grind
   rw [i,e1,e2]
   grind
  exact cA hb h
 unfold Df;rw [e,f];refine Tab.ext' ?_ ?_ ?_ ?_
 ·show 1+b * (0 - p * 1)=a;grind
 ·show 0+b * (1 - p * 0)=b;grind
 ·show (0 - p * 1) - q * (1+b * (0 - p * 1))=c;rw [<- g];grind
 ·show (1 - p * 0) - q * (0+b * (1 - p * 0))=d;grind
theorem yK {a b c d:Rat}(hc:c≠0)(det:a * d - b * c=1):tabOf (Fj a c d)=⟨a,b,c,d⟩:=by
 have e:(0 - c)≠0:=by grind
 have e1:(1 - d) / (0 - c) * (0 - c)=1 - d:=Mq e;have e2:(1 - a) / (0 - c) * (0 - c)=1 - a:=Mq e;generalize g:(1 - d) / (0 - c)=p at e1;generalize h:(1 - a) / (0 - c)=q at e2;generalize f:(0 - c)=s at e e1 e2;have i:p+q * (1 - s * p)=b:=by
  have j:s * (p+q * (1 - s * p))=s * b:=by
   have k:s * (p+q * (1 - s * p))=p * s+(q * s) * (1 - p * s):=by grind
   rw [k,e1,e2]
   grind
  exact cA e j
 unfold Fj;rw [g,h,f];refine Tab.ext' ?_ ?_ ?_ ?_
 ·show (1+p * 0)+q * (0 - s * (1+p * 0))=a;grind
 ·show (0+p * 1)+q * (1 - s * (0+p * 1))=b;rw [<- i];grind
 ·show 0 - s * (1+p * 0)=c;grind
 ·show 1 - s * (0+p * 1)=d;grind
theorem AI4 {t:Tab}(det:t.det=1):tabOf (Ei t)=t:=by
 unfold Tab.det at det;unfold Ei;by_cases hb:t.b=0
 ·rw [if_neg (by simpa using hb)]
  by_cases hc:t.c=0
  ·rw [if_neg (by simpa using hc)]
   have f:t.a * t.d=1:=by rw [hb] at det;grind
   have ha:t.a≠0:=λ z=>by rw [z] at f;grind
   have g:(0 - t.a)≠0:=by grind
   have h:=cG (a:=t.a) (b:=0 - t.a) (c:=0) (d:=t.d) g (by grind)
   have e:tabOf (.gap 1::Df t.a (0 - t.a) t.d)=(tabOf [.gap 1]).then (tabOf (Df t.a (0 - t.a) t.d)):=cQ [.gap 1] _;rw [e,h];refine Tab.ext' ?_ ?_ ?_ ?_
   ·show t.a * (1+1 * 0)+(0 - t.a) * 0=t.a;grind
   ·show t.a * (0+1 * 1)+(0 - t.a) * 1=t.b;grind
   ·show 0 * (1+1 * 0)+t.d * 0=t.c;grind
   ·show 0 * (0+1 * 1)+t.d * 1=t.d;grind
  ·rw [if_pos (by simpa using hc)]
   exact yK hc det
 ·rw [if_pos (by simpa using hb)]
  exact cG hb det
theorem yP {t:Tab}(det:t.det=1):tabOf (Cv t)=t:=by
 unfold Cv;by_cases h:t=Tab.id
 ·rw [if_pos h,h];rfl
 ·rw [if_neg h,qX,AI4 det]
def due (t:Tab):Nat:=if t.b=0/\t.c=0 then (if t.a=1 then 0 else 4) else if t.a=1/\t.d=1 then 1 else if t.a=1\/t.d=1 then 2 else 3
theorem Qh {x y:Rat}(a:y≠0):(!decide ((1 - x) / y=0))=!decide (x=1):=by
 by_cases h:x=1
 ·subst h;have e:((1:Rat) - 1) / y=0:=by rw [show (1:Rat) - 1=0 by grind];rw [Rat.div_def,yi]
  simp [e]
 ·have:¬ (1 - x) / y=0:=λ z=>by
   have b:=Mq (x:=1 - x) a;rw [z,yi] at b;exact h (by grind)
  simp [this,h]
theorem fD {a b d:Rat}(hb:b≠0):((Df a b d).filter nz).length=if a=1/\d=1 then 1 else if a=1\/d=1 then 2 else 3:=by
 have c:nz (.glass ((1 - a) / b))=!decide (a=1):=Qh hb;have e:nz (.gap b)=true:=by show (!decide (b=0))=true;simp [hb]
 have f:nz (.glass ((1 - d) / b))=!decide (d=1):=Qh hb;unfold Df;rw [UN,UN,UN,c,e,f];by_cases ha:a=1<;>by_cases hd:d=1<;>simp [ha,hd]
theorem AR0 {a c d:Rat}(hc:c≠0):((Fj a c d).filter nz).length=if a=1/\d=1 then 1 else if a=1\/d=1 then 2 else 3:=by
 have b:(0 - c)≠0:=by grind
 have e:nz (.gap ((1 - d) / (0 - c)))=!decide (d=1):=Qh b;have f:nz (.glass (0 - c))=true:=by show (!decide ((0 - c)=0))=true;simp [b]
 have g:nz (.gap ((1 - a) / (0 - c)))=!decide (a=1):=Qh b;unfold Fj;rw [UN,UN,UN,e,f,g];by_cases ha:a=1<;>by_cases hd:d=1<;>simp [ha,hd]
theorem xP {t:Tab}(det:t.det=1):(Cv t).length=due t:=by
 unfold Tab.det at det;unfold Cv due;by_cases h:t=Tab.id
 ·rw [if_pos h];subst h;rfl
 ·rw [if_neg h];unfold Ei;by_cases hb:t.b=0
  ·rw [if_neg (by simpa using hb)]
   by_cases hc:t.c=0
   ·rw [if_neg (by simpa using hc),if_pos ⟨hb,hc⟩]
    have f:t.a * t.d=1:=by rw [hb] at det;grind
    have j:t.a≠0:=λ z=>by rw [z] at f;grind
    have e:¬ t.a=1:=λ z=>h (Tab.ext' z hb hc (by rw [z] at f;show t.d=1;grind))
    have g:¬ t.d=1:=λ z=>e (by rw [z] at f;grind)
    have i:(0 - t.a)≠0:=by grind
    have l:=fD (a:=t.a) (d:=t.d) i;rw [if_neg (λ z=>e z.1),if_neg (λ z=>z.elim e g)] at l
    rw [if_neg e,xS (by rfl),X2,l]
   ·rw [if_pos (by simpa using hc),if_neg (λ z=>hc z.2)]
    exact AR0 hc
  ·rw [if_pos (by simpa using hb),if_neg (λ z=>hb z.1)]
   exact fD hb
end Op
namespace Lib
open PySem L2 Fr Op
theorem TX {K:FrG}{H:Hp}{x y:V}{p q:Rat}{a:List (Option V)}{Q:VK}(b:DV K H x (Ak p))(c:DV K H y (Ak q))(k:Q (.bl (!decide (p=q))) H):tC y a H (λ y d=>Qi K x y d Q):=jG b c k
def AW8:List Zh->Zh->Prop:=λ ds d=>∃q,ds=[Ak q]/\Sm q/\d=Ak (0 - q)
def AS8:List Zh->Zh->Prop:=λ ds d=>∃x y n,ds=[Ak x,Ak y]/\Bd n x/\Bd n y/\n<=1902/\y≠0/\d=Ak ((1 - x) / y)
inductive zT (K:FrG)(vs:List V)(H:Hp)(Q:VK)(z3:XK):Prop | mk (v:V) (a b c d:Rat) (n:Nat) (_:vs=[v]) (_:DV K H v (Cj ⟨a,b,c,d⟩)) (_:Tb n ⟨a,b,c,d⟩) (_:n<=1902) (_:b≠0) (_:∀l H' xs,Same H H'->H l=none->H' l=some (.lst xs)->DVs K H' xs ((Df a b d).map Bm)->Q (.ref l) H')
inductive Ab6 (K:FrG)(vs:List V)(H:Hp)(Q:VK)(z3:XK):Prop | mk (v:V) (a b c d:Rat) (n:Nat) (_:vs=[v]) (_:DV K H v (Cj ⟨a,b,c,d⟩)) (_:Tb n ⟨a,b,c,d⟩) (_:n<=1900) (_:c≠0) (_:∀l H' xs,Same H H'->H l=none->H' l=some (.lst xs)->DVs K H' xs ((Fj a c d).map Bm)->Q (.ref l) H')
inductive AL1 (K:FrG)(vs:List V)(H:Hp)(Q:VK)(z3:XK):Prop | mk (v:V) (t:Tab) (n:Nat) (_:vs=[v]) (_:DV K H v (Cj t)) (_:Tb n t) (_:n<=1900) (_:t.det=1) (_:∀l H' xs,Same H H'->H l=none->H' l=some (.lst xs)->DVs K H' xs ((Cv t).map Bm)->Q (.ref l) H')
theorem AV5 (t:Tab):IK (Ei t)/\(Ei t).length<=4:=by
 unfold Ei IK
 split
 ·exact ⟨λ p a=>by unfold Df at a;simp only [X1,ZN,or_false] at a;rcases a with rfl | rfl | rfl<;>rfl,by show 3<=4;decide⟩
 ·split
  ·exact ⟨λ p a=>by unfold Fj at a;simp only [X1,ZN,or_false] at a;rcases a with rfl | rfl | rfl<;>rfl,by show 3<=4;decide⟩
  ·exact ⟨λ p a=>by unfold Df at a;simp only [X1,ZN,or_false] at a;rcases a with rfl | rfl | rfl | rfl<;>rfl,by show 4<=4;decide⟩
theorem AK4 {t:Tab}(hi:¬ t=Tab.id)(hb:¬ t.b=0):(Df t.a t.b t.d).filter nz=Cv t:=by
 unfold Cv Ei;rw [if_neg hi,if_pos hb]
theorem AZ6 {t:Tab}(hi:¬ t=Tab.id)(hb:t.b=0)(hc:¬ t.c=0):(Fj t.a t.c t.d).filter nz=Cv t:=by
 unfold Cv Ei;rw [if_neg hi,if_neg (by simpa using hb),if_pos hc]
theorem AH3 {t:Tab}(hi:¬ t=Tab.id)(hb:t.b=0)(hc:t.c=0):(.gap 1::Df t.a (0 - t.a) t.d).filter nz=Cv t:=by
 unfold Cv Ei;rw [if_neg hi,if_neg (by simpa using hb),if_neg (by simpa using hc)]
theorem di {t:Tab}(det:t.det=1)(hb:t.b=0):¬ 0 - t.a=0:=λ z=>by
 unfold Tab.det at det;have:t.a=0:=by grind
 rw [this,hb] at det
 grind
theorem ie (a b d:Rat):IK (Df a b d):=λ p c=>by
 unfold Df at c;simp only [X1,ZN,or_false] at c;rcases c with rfl | rfl | rfl<;>rfl
theorem yJ (a c d:Rat):IK (Fj a c d):=λ p b=>by
 unfold Fj at b;simp only [X1,ZN,or_false] at b;rcases b with rfl | rfl | rfl<;>rfl
theorem xu (a b d:Rat):IK (.gap 1::Df a b d):=λ p c=>by
 rcases X1.mp c with rfl | c
 ·rfl
 ·exact ie a b d p c
theorem AG5 (t:Tab):due t<=4:=by
 unfold due
 split
 ·split<;>decide
 ·split
  ·decide
  ·split<;>decide
theorem ni {t:Tab}{p:Pc}(h:p∈Cv t):nz p=true/\p∈Ei t:=by
 unfold Cv at h
 split at h
 ·cases h
 ·exact ⟨(Uw.mp h).2,(Uw.mp h).1⟩
theorem uM {t:Tab}{n:Nat}(det:t.det=1)(tb:Tb n t)(i:1<=n):∀p∈Ei t,p.bd (2 * n+6):=by
 intro p e;have b1:∀{x:Rat},Bd n x->Bd (n+2) (1 - x):=λ h=>((Ex 1 ⋯).sub h).mono ∅
 have f:∀{x:Rat},Bd n x->Bd (n+2) (0 - x):=λ h=>((Ed 1 ⋯).sub h).mono ∅
 unfold Ei at e
 split at e
 ·rename_i hb
  unfold Df at e;simp only [X1,ZN,or_false] at e;rcases e with rfl | rfl | rfl
  ·exact ((b1 tb.a).div tb.b hb).mono ∅
  ·exact tb.b.mono ∅
  ·exact ((b1 tb.d).div tb.b hb).mono ∅
 ·split at e
  ·rename_i hb hc
   have g:(0 - t.c)≠0:=by grind
   unfold Fj at e;simp only [X1,ZN,or_false] at e;rcases e with rfl | rfl | rfl
   ·exact ((b1 tb.d).div (f tb.c) g).mono ∅
   ·exact (f tb.c).mono ∅
   ·exact ((b1 tb.a).div (f tb.c) g).mono ∅
  ·rename_i hb hc
   have hb:t.b=0:=by simpa using hb
   have g:=di det hb;unfold Df at e;simp only [X1,ZN,or_false] at e;rcases e with rfl | rfl | rfl | rfl
   ·exact Ex _ ∅
   ·exact ((b1 tb.a).div (f tb.a) g).mono ∅
   ·exact (f tb.a).mono ∅
   ·exact ((b1 tb.d).div (f tb.a) g).mono ∅
theorem yh {t:Tab}{n:Nat}(det:t.det=1)(tb:Tb n t)(b:1<=n):Good (2 * n+6) (Cv t)/\IK (Cv t):=by
 refine Ae3 ?_ λ p a=>⟨(AV5 t).1 p (ni a).2,uM det tb b p (ni a).2⟩
 have:=xP det;have:=AG5 t;omega
end Lib
namespace L2
open PySem PySem.Spec PyProof.Rows PySem.Builtin
end L2
namespace Lib
open PySem L2 Fr Op
end Lib
namespace L2
open PySem PySem.Spec PyProof.Rows
end L2
namespace Lib
open PySem L2 Fr Op
end Lib
namespace L2
open PySem PySem.Spec PyProof.Rows
end L2
namespace Lib
open PySem L2 Fr Op
end Lib
namespace L2
open PySem PySem.Spec PyProof.Rows
end L2
namespace L2
open PySem PySem.Spec PyProof.Rows PySem.Builtin
open PySem.AutoSeq1 (wpAny_loadPart')
end L2
namespace L2
open PySem PySem.Spec PySem.Calls PyProof.Rows PySem.W Builtin Builtin.ObjectAttr
end L2
namespace L2
open PySem PySem.Spec PySem.Calls PyProof.Rows PySem.W
end L2
namespace Lib
open PySem L2 Fr Op
end Lib
namespace L2
open PySem PySem.Spec PyProof.Rows
end L2
namespace L2
open PySem PySem.Spec PyProof.Rows PySem.Builtin PySem.Builtin.Str
end L2
namespace Lib
open PySem L2 Fr Op
end Lib
namespace L2
open PySem PySem.Spec PyProof.Rows PySem.Builtin PySem.SeqAt
inductive xj (K:FrG)(neg:Bool)(x:V)(y:V)(H:Hp)(Q:VK):Prop | mk (p xs dx ds:_) (_:y=.ref p) (_:SqL K H p xs) (_:DV K H x dx) (_:DVs K H xs ds) (_:dx.canLay0=true) (_:dx.depth<=60) (_:WG ds=true) (_:Q (.bl (if neg then !ds.any (λ d=>Ul d dx) else ds.any (λ d=>Ul d dx))) H)
theorem je {h:Heap}:∀{us:List Value} {ds:List Zh} {as:List Addr},ReadsAll h us ds as->∀u∈us,∃d as,d∈ds/\Reads h u d as
 | _,_,_,.nil,u,a=>nomatch a
 | _,_,_,.cons r b,u,a=>by
  rcases X1.mp a with rfl | a
  ·exact ⟨_,_,ZA,r⟩
  ·obtain ⟨d,as,hd,c⟩:=je b u a;exact ⟨d,as,W1 _ hd,c⟩
theorem Xn:∀{ds:List Zh},WG ds=true->∀d∈ds,d.canLay0=true
 | [],_,d,h=>nomatch h
 | e::ds,c,d,h=>by
  rw [WG] at c;rcases X1.mp h with rfl | h
  ·exact (WJ.mp c).1
  ·exact Xn (WJ.mp c).2 d h
noncomputable def Jz (h:Heap) (a:Zh) (u:Value):Bool:=@dite Bool (∃d as,Reads h u d as/\d.canLay0=true) (Classical.propDecidable _) (λ c=>Ul (Classical.choose c) a) (λ _=>false)
theorem mH {h:Heap}{a d:Zh}{u:Value}{as:List Addr}(r:Reads h u d as)(c:d.canLay0=true):Jz h a u=Ul d a:=by
 unfold Jz;have e:∃d as,Reads h u d as/\d.canLay0=true:=⟨d,as,r,c⟩;rw [dif_pos e];obtain ⟨b,f,_⟩:=Classical.choose_spec e;rw [<- PySem.SeqAt.Reads.unique d _ u as b c r f]
theorem iJ {h:Heap}{a:Zh}:∀{us:List Value} {ds:List Zh} {as:List Addr},ReadsAll h us ds as->WG ds=true->us.any (Jz h a)=ds.any (λ d=>Ul d a)
 | _,_,_,.nil,_=>rfl
 | _,_,_,.cons r b,c=>by
  rw [WG] at c;rw [JR,JR,iJ b (WJ.mp c).2,mH r (WJ.mp c).1]
section
variable {X:Cx}
theorem lU (t:X.A.units+64 < cLine):OpR X (Uh .NotIn) (xj X.K true):=by
 intro i s z H x y v u Q g j ry h;obtain ⟨p,xs,a,ds,rfl,k,l,hd,c,dp,cs,q⟩:=h;cases ry
 obtain ⟨its,r,pl,hz⟩:=g.list k;obtain ⟨m,n⟩:=l.reads g c j;obtain ⟨B,e⟩:=DVs.reads g hd cs r;refine SeqAt.notIn_listAt (Jz s.heap a) pl.isList (λ w o=>?_) ⟨.bl _,H,g,rfl,?_⟩
 ·obtain ⟨d,as,b,f⟩:=je e w (by simpa using o)
  rw [mH f (Xn cs d b)];refine eqAt_reads d a X.A.in1 s w v as m f n (Xn cs d b) c ?_;have:X.A.in1.units=X.A.units+1:=rfl;have:=Nat.min_le_right d.depth a.depth;omega
 ·rw [show its.toArray.any (Jz s.heap a)=its.any (Jz s.heap a) by simp,iJ e cs]
  exact q
end
end L2
namespace Op
open Fr
def JG (a b:Ad):Bool:=if a.1=b.1 then decide (a.2 < b.2) else decide (a.1 < b.1)
def Av (s e r:Ad):Rat:=(e.1 - s.1) * (r.2 - s.2) - (e.2 - s.2) * (r.1 - s.1)
def Ck (cs:List Ad)(i:Nat):Ad:=cs.getD i (0,0)
def Ey (cs:List Ad)(i:Nat):Ad:=if i=0 then Ck cs (cs.length - 1) else Ck cs (i - 1)
end Op
namespace Lib
open PySem L2 Fr Op
structure Rn (n:Nat)(r:Ad):Prop where
 y:Bd n r.1
 u:Bd n r.2
def zV:List Zh->Zh->Prop:=λ ds d=>∃a b n,ds=[BZ a,BZ b]/\Rn n a/\Rn n b/\n<=4000/\d=.bool (JG a b)
theorem Tu {cs:List Ad}{i:Nat}{c:Ad}(h:cs[i]?=some c):Ck cs i=c:=by
 unfold Ck;rw [QA,h];rfl
theorem Kh {cs:List Ad}{i:Nat}(h:i < cs.length):Ck cs i∈cs:=by
 rw [Tu (Yi h)];exact List.getElem_mem h
theorem yF {cs:List Ad}{i:Nat}(h:i < cs.length):Ey cs i∈cs:=by
 unfold Ey
 split
 ·exact Kh ∅
 ·exact Kh ∅
theorem KQ {K:FrG}{H:Hp}{xs:List V}{cs:List Ad}(h:DVs K H xs (cs.map BZ)){i:Nat}(hi:i < cs.length):∃v,xs[i]?=some v/\DV K H v (BZ (Ck cs i)):=by
 have hl:=h.len;rw [Y2] at hl;obtain ⟨d,hd,hv⟩:=h.get (i:=i) (Yi (show i < xs.length by omega))
 obtain ⟨c,hc,rfl⟩:=Rt hd;rw [<- Tu hc] at hv;exact ⟨_,Yi (show i < xs.length by omega),hv⟩
theorem m9 {xs:List V}{v:V}(h:xs[xs.length - 1]?=some v):atI xs (-1)=some v:=VM (by rw [QO];exact h)
theorem wD {K:FrG}{H:Hp}{xs:List V}{cs:List Ad}(h:DVs K H xs (cs.map BZ)){i:Nat}(hi:i < cs.length):∃v,atI xs ((i:Int) - 1)=some v/\DV K H v (BZ (Ey cs i)):=by
 have hl:=h.len;rw [Y2] at hl;cases i with
 | zero=>
  obtain ⟨v,hv,hd⟩:=KQ h (i:=cs.length - 1) ∅
  refine ⟨v,?_,hd⟩;rw [show (((0:Nat):Int) - 1)=-1 from rfl]
  exact m9 (by rw [hl];exact hv)
 | succ j=>
  obtain ⟨v,hv,hd⟩:=KQ h (i:=j) ∅
  refine ⟨v,?_,hd⟩;rw [show (((j+1:Nat):Int) - 1)=(j:Int) by omega]
  exact Bu hv
theorem dm (cs:List Ad)(r:Ad):(cs.map BZ).any (λ d=>Ul d (BZ r))=cs.any (λ c=>decide (c=r)):=by
 induction cs with
 | nil=>rfl
 | cons c cs a=>rw [YJ,JR,JR,a,AN4]
theorem oR (cs:List Ad):WG (cs.map BZ)=true:=by
 induction cs with
 | nil=>rfl
 | cons c cs a=>
  rw [YJ,WG,a];rfl
end Lib
namespace Op
open Fr
abbrev Be:=Rat×Rat×Rat
def Ai (e:Be)(r:Ad):Rat:=e.1 * r.1+e.2.1 * r.2+e.2.2
def Bf (t:Rat)(a b:Ad):Ad:=(a.1+t * (b.1 - a.1),a.2+t * (b.2 - a.2))
def Eg (e:Be)(p q:Ad):Rat:=Ai e p / (Ai e p - Ai e q)
def Bl (e:Be)(p q:Ad):Ad:=Bf (Eg e p q) p q
theorem K4 (e:Be)(t:Rat)(a b:Ad):Ai e (Bf t a b)=(1 - t) * Ai e a+t * Ai e b:=by
 unfold Ai Bf;dsimp only
 grind
theorem Jo (p q:Ad)(t:Rat)(a b:Ad):Av p q (Bf t a b)=(1 - t) * Av p q a+t * Av p q b:=by
 unfold Av Bf;dsimp only
 grind
theorem rZ (p q r:Ad):Av q r p=Av p q r:=by unfold Av;grind
theorem oF (p q r:Ad):Av p r q=- Av p q r:=by unfold Av;grind
theorem Ib (p q:Ad):Av p q q=0:=by unfold Av;grind
theorem M4 (p q:Ad):Av p q p=0:=by unfold Av;grind
theorem yM (t:Rat)(p q z:Ad):Av p (Bf t p q) z=t * Av p q z:=by
 unfold Av Bf;dsimp only
 grind
theorem V0 (t:Rat)(p q z:Ad):Av (Bf t p q) q z=(1 - t) * Av p q z:=by
 unfold Av Bf;dsimp only
 grind
theorem Dy {a b:Rat}(h:a * b < 0):(a < 0/\0 < b)\/(0 < a/\b < 0):=by
 rcases (show a < 0\/a=0\/0 < a by grind) with ha | ha | ha
 ·rcases (show b < 0\/b=0\/0 < b by grind) with hb | hb | hb
  ·have:=XY (show 0 < -a by grind) (show 0 < -b by grind)
   exfalso;grind
  ·subst hb;exfalso;grind
  ·exact .inl ⟨ha,hb⟩
 ·subst ha;exfalso;grind
 ·rcases (show b < 0\/b=0\/0 < b by grind) with hb | hb | hb
  ·exact .inr ⟨ha,hb⟩
  ·subst hb;exfalso;grind
  ·have:=XY ha hb;exfalso;grind
theorem IW {a b:Rat}(ha:a < 0)(hb:0 < b):a * b < 0:=by
 have:=XY (show 0 < -a by grind) hb
 grind
theorem Gb {e:Be}{p q:Ad}(h:Ai e p * Ai e q < 0):0 < Eg e p q/\Eg e p q < 1:=by
 unfold Eg;generalize Ai e p=a at h ⊢;generalize Ai e q=b at h ⊢;have hd:a - b≠0:=by rcases Dy h with ⟨d,f⟩ | ⟨d,f⟩<;>grind
 have e1:a / (a - b) * (a - b)=a:=by grind
 rcases Dy h with ⟨d,f⟩ | ⟨d,f⟩
 ·constructor
  ·rcases (show a / (a - b)<=0\/0 < a / (a - b) by grind) with c | c
   ·have:=YK (show 0<=-(a / (a - b)) by grind) (show 0<=-(a - b) by grind)
    grind
   ·exact c
  ·rcases (show 1<=a / (a - b)\/a / (a - b) < 1 by grind) with c | c
   ·have:=YK (show 0<=a / (a - b) - 1 by grind) (show 0<=-(a - b) by grind)
    grind
   ·exact c
 ·constructor
  ·rcases (show a / (a - b)<=0\/0 < a / (a - b) by grind) with c | c
   ·have:=YK (show 0<=-(a / (a - b)) by grind) (show 0<=(a - b) by grind)
    grind
   ·exact c
  ·rcases (show 1<=a / (a - b)\/a / (a - b) < 1 by grind) with c | c
   ·have:=YK (show 0<=a / (a - b) - 1 by grind) (show 0<=(a - b) by grind)
    grind
   ·exact c
theorem Gj {e:Be}{p q:Ad}(h:Ai e p * Ai e q < 0):Ai e (Bl e p q)=0:=by
 unfold Bl;rw [K4];unfold Eg;generalize Ai e p=a at h ⊢;generalize Ai e q=b at h ⊢;have hd:a - b≠0:=by rcases Dy h with ⟨c,d⟩ | ⟨c,d⟩<;>grind
 grind
theorem Jl {e:Be}{s t:Ad}(l:Ai e s=0)(m:Ai e t=0)(n:s≠t)(he:e.1≠0\/e.2.1≠0):∃k:Rat,k≠0/\∀z,Av s t z=k * Ai e z:=by
 obtain ⟨a,b,c⟩:=e;obtain ⟨d,f⟩:=s;obtain ⟨t1,t2⟩:=t;unfold Ai at l m ⊢;unfold Av;dsimp only at l m he ⊢
 have i:t1 - d≠0\/t2 - f≠0:=by
  rcases (show t1 - d=0\/t1 - d≠0 by grind) with c1 | c1
  ·rcases (show t2 - f=0\/t2 - f≠0 by grind) with o | o
   ·exact absurd (show ((d,f):Ad)=(t1,t2) by rw [show t1=d by grind,show t2=f by grind]) n
   ·exact .inr o
  ·exact .inl c1
 rcases he with he | he
 ·refine ⟨-(t2 - f) / a,?_,λ z=>?_⟩
  ·intro h;have j:t2 - f=0:=by grind
   have p:a * (t1 - d)=0:=by grind
   rcases i with g | g
   ·grind
   ·exact g j
  ·grind
 ·refine ⟨(t1 - d) / b,?_,λ z=>?_⟩
  ·intro h;have j:t1 - d=0:=by grind
   have p:b * (t2 - f)=0:=by grind
   rcases i with g | g
   ·exact g j
   ·grind
  ·grind
def Bo (l:Ad):List Ad->List (Ad×Ad)
 | []=>[]
 | q::r=>(l,q)::Bo q r
def Bc (ps:List Ad):List (Ad×Ad):=match ps.getLast? with
 | none=>[]
 | some l=>Bo l ps
theorem Ry (l q:Ad):∀ps:List Ad,Bo l (ps++[q])=Bo l ps++[(((l::ps).getLast (by simp)),q)]
 | []=>rfl
 | p::r=>by
  show (l,p)::Bo p (r++[q])=_;rw [Ry p q r];rfl
theorem iT {l:Ad}{ps:List Ad}{x:Ad×Ad}(h:x∈Bo l ps):(x.1=l\/x.1∈ps)/\x.2∈ps:=by
 induction ps generalizing l with
 | nil=>cases h
 | cons q r b=>
  rcases X1.mp (show x∈(l,q)::Bo q r from h) with rfl | h
  ·exact ⟨.inl rfl,by simp⟩
  ·obtain ⟨a,c⟩:=b h;exact ⟨.inr (by rcases a with a | a<;>simp [a]),W1 _ c⟩
theorem Ds {ps:List Ad}{x:Ad×Ad}(h:x∈Bc ps):x.1∈ps/\x.2∈ps:=by
 unfold Bc at h;cases e:ps.getLast? with
 | none=>rw [e] at h;cases h
 | some l=>
  rw [e] at h;obtain ⟨a,b⟩:=iT h;refine ⟨?_,b⟩;rcases a with a | a
  ·rw [a];exact ui e
  ·exact a
theorem bH {l q:Ad}:∀{ps:List Ad},q∈ps->∃p,(p,q)∈Bo l ps
 | [],h=>nomatch h
 | z::r,h=>by
  rcases X1.mp h with rfl | h
  ·exact ⟨l,by simp [Bo]⟩
  ·obtain ⟨p,a⟩:=bH (l:=z) h;exact ⟨p,W1 _ a⟩
theorem Qk {q:Ad}{ps:List Ad}(h:q∈ps):∃p,(p,q)∈Bc ps:=by
 unfold Bc;cases e:ps.getLast? with
 | none=>rw [JI] at e;subst e;cases h
 | some l=>exact bH h
theorem mJ {p:Ad}:∀{l:Ad} {ps:List Ad},p∈l::ps->(∃q,(p,q)∈Bo l ps)\/(l::ps).getLast (by simp)=p
 | l,[],h=>by rw [X8.mp h];exact .inr rfl
 | l,z::r,h=>by
  rcases X1.mp h with rfl | h
  ·exact .inl ⟨z,by simp [Bo]⟩
  ·rcases mJ h with ⟨q,a⟩ | a
   ·exact .inl ⟨q,W1 _ a⟩
   ·exact .inr (by rw [wn (by simp)];exact a)
theorem o4 {p:Ad}{ps:List Ad}(h:p∈ps):∃q,(p,q)∈Bc ps:=by
 cases ps with
 | nil=>cases h
 | cons z r=>
  have e:(z::r).getLast?=some ((z::r).getLast (by simp)):=XZ (by simp)
  unfold Bc;rw [e];show ∃q,(p,q)∈((z::r).getLast (by simp),z)::Bo z r
  rcases mJ (l:=z) (ps:=r) h with ⟨q,a⟩ | a
  ·exact ⟨q,W1 _ a⟩
  ·exact ⟨z,by rw [a];simp⟩
structure ES (ps:List Ad):Prop where
 nd:ps.Nodup
 st:∀x∈Bc ps,∀z∈ps,z≠x.1->z≠x.2->0 < Av x.1 x.2 z
theorem ES.ge {ps:List Ad}(h:ES ps){x:Ad×Ad}(b:x∈Bc ps){z:Ad}(hz:z∈ps):0<=Av x.1 x.2 z:=by
 by_cases c1:z=x.1
 ·rw [c1,M4];exact Rat.le_refl
 ·by_cases a:z=x.2
  ·rw [a,Ib];exact Rat.le_refl
  ·have:=h.st x b z hz c1 a
   grind
theorem yr {l:Ad}{ps:List Ad}{x:Ad×Ad}(nd:(l::ps).Nodup)(h:x∈Bo l ps):x.1≠x.2:=by
 induction ps generalizing l with
 | nil=>cases h
 | cons q r a=>
  rcases X1.mp (show x∈(l,q)::Bo q r from h) with rfl | h
  ·intro e;have:=(XJ.mp nd).1;exact this (by rw [show l=q from e];simp)
  ·exact a (XJ.mp nd).2 h
theorem Gv {ps:List Ad}{x:Ad×Ad}(nd:ps.Nodup)(a:2<=ps.length)(h:x∈Bc ps):x.1≠x.2:=by
 cases ps with
 | nil=>simp at a
 | cons z r=>
  have e:(z::r).getLast?=some ((z::r).getLast (by simp)):=XZ (by simp)
  unfold Bc at h;rw [e] at h;rcases X1.mp (show x∈((z::r).getLast (by simp),z)::Bo z r from h) with rfl | h
  ·cases r with
   | nil=>simp at a
   | cons y r=>
    intro e;have b:(z::y::r).getLast (by simp)=z:=e
    rw [wn (by simp)] at b
    exact (XJ.mp nd).1 (by rw [<- b];exact List.getLast_mem _)
  ·exact yr nd h
theorem third {ps:List Ad}(nd:ps.Nodup)(j:3<=ps.length)(p q:Ad):∃z∈ps,z≠p/\z≠q:=by
 match ps,nd,j with
 | a::b::c::r,nd,_=>
  have g:=(XJ.mp nd).1;have k:=(XJ.mp (XJ.mp nd).2).1;have ab:a≠b:=λ e=>g (by rw [e];simp)
  have h:a≠c:=λ e=>g (by rw [e];simp)
  have i:b≠c:=λ e=>k (by rw [e];simp)
  by_cases d:a=p\/a=q
  ·by_cases f:b=p\/b=q
   ·refine ⟨c,by simp,λ e=>?_,λ e=>?_⟩
    ·rcases d with d | d<;>rcases f with f | f
     ·exact ab (d.trans f.symm)
     ·exact h (d.trans e.symm)
     ·exact i (f.trans e.symm)
     ·exact ab (d.trans f.symm)
    ·rcases d with d | d<;>rcases f with f | f
     ·exact ab (d.trans f.symm)
     ·exact i (f.trans e.symm)
     ·exact h (d.trans e.symm)
     ·exact ab (d.trans f.symm)
   ·exact ⟨b,by simp,λ e=>f (.inl e),λ e=>f (.inr e)⟩
  ·exact ⟨a,by simp,λ e=>d (.inl e),λ e=>d (.inr e)⟩
theorem ES.back {ps:List Ad}(h:ES ps)(c:3<=ps.length){p q:Ad}(d:(p,q)∈Bc ps)(e:(q,p)∈Bc ps):False:=by
 obtain ⟨z,hz,a,b⟩:=third h.nd c p q;have f:=h.st _ d z hz a b;have g:=h.st _ e z hz b a;dsimp only at f g
 have:Av q p z=- Av p q z:=by unfold Av;grind
 grind
theorem ES.mix {ps:List Ad}(h:ES ps)(l:3<=ps.length){p q a b:Ad}(d:(p,q)∈Bc ps)(c:(a,b)∈Bc ps)(n:(a,b)≠(p,q)){t:Rat}(m:0 < t)(t1:t < 1):0 < Av p q (Bf t a b):=by
 rw [Jo];have ha:=h.ge d (Ds c).1;have hb:=h.ge d (Ds c).2;dsimp only at ha hb
 have e:=Gv h.nd ∅ c
 dsimp only at e
 rcases (show Av p q a=0\/0 < Av p q a by grind) with g | g
 ·rcases (show Av p q b=0\/0 < Av p q b by grind) with i | i
  ·exfalso;have j:a=p\/a=q:=by
    by_cases c1:a=p
    ·exact .inl c1
    ·by_cases f:a=q
     ·exact .inr f
     ·have:=h.st _ d a (Ds c).1 c1 f;dsimp only at this
      grind
   have k:b=p\/b=q:=by
    by_cases c1:b=p
    ·exact .inl c1
    ·by_cases f:b=q
     ·exact .inr f
     ·have:=h.st _ d b (Ds c).2 c1 f;dsimp only at this
      grind
   rcases j with rfl | rfl<;>rcases k with rfl | rfl
   ·exact e rfl
   ·exact n rfl
   ·exact h.back l d c
   ·exact e rfl
  ·have:=XY m i;rw [g]
   grind
 ·have o:=XY (show 0 < 1 - t by grind) g
  have r:=YK (show 0<=t by grind) hb
  grind
theorem between {f:Ad->Rat}{t:Rat}{s z m:Ad}(hf:f m=(1 - t) * f s+t * f z)(a:0 < t)(t1:t < 1)(b:0<=f s)(hz:0<=f z)(d:f m=0):f s=0/\f z=0:=by
 rw [d] at hf;have e:=YK (show 0<=1 - t by grind) b
 have g:=YK (show 0<=t by grind) hz
 have b1:(1 - t) * f s=0:=by grind
 have b2:t * f z=0:=by grind
 constructor
 ·rcases (show f s=0\/0 < f s by grind) with c | c
  ·exact c
  ·have:=XY (show 0 < 1 - t by grind) c
   grind
 ·rcases (show f z=0\/0 < f z by grind) with c | c
  ·exact c
  ·have:=XY a c
   grind
def Cg (e:Be)(x:Ad×Ad):List Ad:=(if Ai e x.1 * Ai e x.2 < 0 then [Bl e x.1 x.2] else [])++(if 0<=Ai e x.2 then [x.2] else [])
def CN (e:Be)(ps:List Ad):List Ad:=(Bc ps).flatMap (Cg e)
theorem emit_mem {e:Be}{x:Ad×Ad}{z:Ad}:z∈Cg e x↔(Ai e x.1 * Ai e x.2 < 0/\z=Bl e x.1 x.2)\/(0<=Ai e x.2/\z=x.2):=by
 unfold Cg;by_cases c1:Ai e x.1 * Ai e x.2 < 0<;>by_cases a:0<=Ai e x.2<;>simp [c1,a]
theorem cut_mem {e:Be}{ps:List Ad}{z:Ad}:z∈CN e ps↔(z∈ps/\0<=Ai e z)\/∃x∈Bc ps,Ai e x.1 * Ai e x.2 < 0/\z=Bl e x.1 x.2:=by
 unfold CN;rw [Fu]
 constructor
 ·rintro ⟨x,c,hz⟩
  rcases emit_mem.mp hz with ⟨a,b⟩ | ⟨a,b⟩
  ·exact .inr ⟨x,c,a,b⟩
  ·rw [b];exact .inl ⟨(Ds c).2,a⟩
 ·rintro (⟨a,b⟩ | ⟨x,c,a,b⟩)
  ·obtain ⟨p,d⟩:=Qk a;exact ⟨(p,z),d,emit_mem.mpr (.inr ⟨b,rfl⟩)⟩
  ·exact ⟨x,c,emit_mem.mpr (.inl ⟨a,b⟩)⟩
theorem T7 {e:Be}{ps:List Ad}{z:Ad}(h:z∈CN e ps):0<=Ai e z:=by
 rcases cut_mem.mp h with ⟨_,h⟩ | ⟨x,_,a,rfl⟩
 ·exact h
 ·rw [Gj a];exact Rat.le_refl
theorem oZ (l:Ad):∀ps:List Ad,(Bo l ps).map qv=ps
 | []=>rfl
 | q::r=>by show q::(Bo q r).map qv=q::r;rw [oZ q r]
theorem Nz (ps:List Ad):(Bc ps).map qv=ps:=by
 unfold Bc;cases e:ps.getLast? with
 | none=>rw [JI] at e;rw [e];rfl
 | some l=>exact oZ l ps
theorem cY {t:Rat}{p q:Ad}(h:p≠q)(c:0 < t):Bf t p q≠p:=λ e=>by
 apply h
 have a:=congrArg Prod.fst e;have b:=congrArg qv e;unfold Bf at a b;dsimp only at a b
 have d:t * (q.1 - p.1)=0:=by grind
 have f:t * (q.2 - p.2)=0:=by grind
 exact WT (by grind) (by grind)
theorem iz {t:Rat}{p q:Ad}(h:p≠q)(t1:t < 1):Bf t p q≠q:=λ e=>by
 apply h
 have a:=congrArg Prod.fst e;have b:=congrArg qv e;unfold Bf at a b;dsimp only at a b
 have c:(1 - t) * (q.1 - p.1)=0:=by grind
 have d:(1 - t) * (q.2 - p.2)=0:=by grind
 exact WT (by grind) (by grind)
theorem N5 (p q:Ad)(t:Rat):Av p q (Bf t p q)=0:=by rw [Jo,M4,Ib];grind
section
variable {e:Be}{ps:List Ad}(h:ES ps)(h3:3<=ps.length)
include h h3
theorem az {x:Ad×Ad}(b:x∈Bc ps)(hc:Ai e x.1 * Ai e x.2 < 0){z:Ad}(hz:z∈ps):Bl e x.1 x.2≠z:=λ a=>by
 have t:=Gb hc;have n:=Gv h.nd ∅ b
 have d:Av x.1 x.2 z=0:=by rw [<- a];exact N5 _ _ _
 by_cases c1:z=x.1
 ·exact cY n t.1 (a.trans c1)
 ·by_cases c:z=x.2
  ·exact iz n t.2 (a.trans c)
  ·have:=h.st x b z hz c1 c
   grind
theorem Pj {x y:Ad×Ad}(c:x∈Bc ps)(d:y∈Bc ps)(n:x≠y)(hc:Ai e x.1 * Ai e x.2 < 0)(hd:Ai e y.1 * Ai e y.2 < 0):Bl e x.1 x.2≠Bl e y.1 y.2:=λ f=>by
 have t:=Gb hd;have g:0 < Av x.1 x.2 (Bl e y.1 y.2):=h.mix (p:=x.1) (q:=x.2) (a:=y.1) (b:=y.2) h3 c d (λ z=>n z.symm) t.1 t.2
 rw [<- f] at g;have i:Av x.1 x.2 (Bl e x.1 x.2)=0:=N5 _ _ _
 grind
theorem Sd:(CN e ps).Nodup:=by
 unfold CN;show wT _ _;rw [List.pairwise_flatMap];refine ⟨λ x f=>?_,?_⟩
 ·unfold Cg;by_cases c1:Ai e x.1 * Ai e x.2 < 0
  ·by_cases c:0<=Ai e x.2
   ·rw [if_pos c1,if_pos c];refine wT.cons (λ z hz=>?_) (wa _ _)
    rw [X8.mp hz];exact az h h3 f c1 (Ds f).2
   ·rw [if_pos c1,if_neg c];exact wa _ _
  ·by_cases c:0<=Ai e x.2
   ·rw [if_neg c1,if_pos c];exact wa _ _
   ·rw [if_neg c1,if_neg c];exact MV
 ·have nd:=h.nd;rw [<- Nz ps] at nd;have pw:(Bc ps).Pairwise (λ a b=>a.2≠b.2):=List.pairwise_map.mp nd
  refine wT.imp_of_mem (λ {a b} ha hb g=>?_) pw
  intro x f y j d;have i:a≠b:=λ z=>g (by rw [z])
  rcases emit_mem.mp f with ⟨c1,rfl⟩ | ⟨c1,rfl⟩<;>rcases emit_mem.mp j with ⟨c,e2⟩ | ⟨c,e2⟩
  ·exact Pj h h3 ha hb i c1 c (d.trans e2)
  ·exact az h h3 ha c1 (Ds hb).2 (d.trans e2)
  ·exact az h h3 hb c (Ds ha).2 (e2.symm.trans d.symm)
  ·exact g (d.trans e2)
end
inductive Qs (e:Be)(ps:List Ad)(s t:Ad):Prop
 | old (p q:Ad) (k:Rat):(p,q)∈Bc ps->0 < k->(∀z,Av s t z=k * Av p q z)->(s=p\/(s=Bl e p q/\Ai e p < 0))->(t=q\/(t=Bl e p q/\Ai e q < 0))->(Ai e p * Ai e q < 0->s=Bl e p q\/t=Bl e p q)->Qs e ps s t
 | cut (p q:Ad) (k:Rat):Ai e s=0->Ai e t=0->(p,q)∈Bc ps->Ai e q < 0->0 < k->(∀z,Av s q z=k * Av p q z)->Qs e ps s t
def U3 (e:Be)(ps:List Ad)(s l:Ad):Prop:=(0<=Ai e l/\s=l)\/(Ai e l < 0/\Ai e s=0/\∃p q k,(p,q)∈Bc ps/\Ai e q < 0/\0 < k/\∀z,Av s q z=k * Av p q z)
theorem lR (e:Be)(l q:Ad):
  (0<=Ai e l/\0<=Ai e q/\¬ Ai e l * Ai e q < 0/\Cg e (l,q)=[q])\/(0 < Ai e l/\Ai e q < 0/\Ai e l * Ai e q < 0/\Cg e (l,q)=[Bl e l q])\/(Ai e l=0/\Ai e q < 0/\Cg e (l,q)=[])\/
  (Ai e l < 0/\0 < Ai e q/\Ai e l * Ai e q < 0/\Cg e (l,q)=[Bl e l q,q])\/(Ai e l < 0/\Ai e q=0/\Cg e (l,q)=[q])\/(Ai e l < 0/\Ai e q < 0/\Cg e (l,q)=[]):=by
 unfold Cg;dsimp only
 generalize Ai e l=a;generalize Ai e q=b;rcases (show a < 0\/a=0\/0 < a by grind) with ha | ha | ha<;>rcases (show b < 0\/b=0\/0 < b by grind) with hb | hb | hb
 ·have n:¬ a * b < 0:=λ z=>by rcases Dy z with h | h<;>grind
  exact .inr (.inr (.inr (.inr (.inr ⟨ha,hb,by rw [if_neg n,if_neg (by grind)];rfl⟩))))
 ·have n:¬ a * b < 0:=λ z=>by rcases Dy z with h | h<;>grind
  exact .inr (.inr (.inr (.inr (.inl ⟨ha,hb,by rw [if_neg n,if_pos (by grind)];rfl⟩))))
 ·have n:=IW ha hb;exact .inr (.inr (.inr (.inl ⟨ha,hb,n,by rw [if_pos n,if_pos (by grind)];rfl⟩)))
 ·have n:¬ a * b < 0:=λ z=>by rcases Dy z with h | h<;>grind
  exact .inr (.inr (.inl ⟨ha,hb,by rw [if_neg n,if_neg (by grind)];rfl⟩))
 ·have n:¬ a * b < 0:=λ z=>by rcases Dy z with h | h<;>grind
  exact .inl ⟨by grind,by grind,n,by rw [if_neg n,if_pos (by grind)];rfl⟩
 ·have n:¬ a * b < 0:=λ z=>by rcases Dy z with h | h<;>grind
  exact .inl ⟨by grind,by grind,n,by rw [if_neg n,if_pos (by grind)];rfl⟩
 ·have n:a * b < 0:=by have:=IW hb ha;grind
  exact .inr (.inl ⟨ha,hb,n,by rw [if_pos n,if_neg (by grind)];rfl⟩)
 ·have n:¬ a * b < 0:=λ z=>by rcases Dy z with h | h<;>grind
  exact .inl ⟨by grind,by grind,n,by rw [if_neg n,if_pos (by grind)];rfl⟩
 ·have n:¬ a * b < 0:=λ z=>by rcases Dy z with h | h<;>grind
  exact .inl ⟨by grind,by grind,n,by rw [if_neg n,if_pos (by grind)];rfl⟩
theorem jq {e:Be}{ps:List Ad}:∀(qs:List Ad) (l s:Ad),(∀x∈Bo l qs,x∈Bc ps)->U3 e ps s l->∀y∈Bo s ((Bo l qs).flatMap (Cg e)),Qs e ps y.1 y.2
 | [],_,_,_,_,_,h=>nomatch h
 | q::r,l,s,D,i,y,c=>by
  have f:(l,q)∈Bc ps:=D (l,q) (by simp [Bo])
  have E:∀x∈Bo q r,x∈Bc ps:=λ x F=>D x (W1 _ F)
  have c:y∈Bo s (Cg e (l,q)++(Bo q r).flatMap (Cg e)):=c;have j:=λ s' (G:U3 e ps s' q)=>jq r q s' E G y
  rcases lR e l q with ⟨a,b,n,d⟩ | ⟨a,b,n,d⟩ | ⟨a,b,d⟩ | ⟨a,b,n,d⟩ | ⟨a,b,d⟩ | ⟨a,b,d⟩
  ·have g:s=l:=by
    rcases i with ⟨_,h⟩ | ⟨h,_⟩
    ·exact h
    ·exfalso;grind
   rw [d] at c;rcases X1.mp (show y∈(s,q)::Bo q ((Bo q r).flatMap (Cg e)) from c) with rfl | c
   ·exact .old l q 1 f ⋯ (λ z=>by dsimp only;rw [g];grind) (.inl g) (.inl rfl) (λ z=>absurd z n)
   ·exact j q (.inl ⟨b,rfl⟩) c
  ·have g:s=l:=by
    rcases i with ⟨_,h⟩ | ⟨h,_⟩
    ·exact h
    ·exfalso;grind
   have t:=Gb n;rw [d] at c;rcases X1.mp (show y∈(s,Bl e l q)::Bo (Bl e l q) ((Bo q r).flatMap (Cg e)) from c) with rfl | c
   ·exact .old l q (Eg e l q) f t.1 (λ z=>by dsimp only;rw [g];exact yM _ _ _ _) (.inl g) (.inr ⟨rfl,b⟩) (λ _=>.inr rfl)
   ·exact j _ (.inr ⟨b,Gj n,l,q,1 - Eg e l q,f,b,by grind,λ z=>V0 _ _ _ _⟩) c
  ·have g:s=l:=by
    rcases i with ⟨_,h⟩ | ⟨h,_⟩
    ·exact h
    ·exfalso;grind
   rw [d] at c;exact j s (.inr ⟨b,by rw [g];exact a,l,q,1,f,b,by decide,λ z=>by rw [g];grind⟩) c
  ·obtain ⟨m,o,u,v,w,A,B,C⟩:Ai e s=0/\∃p q k,(p,q)∈Bc ps/\Ai e q < 0/\0 < k/\∀z,Av s q z=k * Av p q z:=by
    rcases i with ⟨h,_⟩ | ⟨_,h⟩
    ·exfalso;grind
    ·exact h
   have t:=Gb n;rw [d] at c;rcases X1.mp (show y∈(s,Bl e l q)::(Bl e l q,q)::Bo q ((Bo q r).flatMap (Cg e)) from c) with rfl | c
   ·exact .cut o u v m (Gj n) w A B C
   ·rcases X1.mp c with rfl | c
    ·exact .old l q (1 - Eg e l q) f (by grind) (λ z=>V0 _ _ _ _) (.inr ⟨rfl,a⟩) (.inl rfl) (λ _=>.inl rfl)
    ·exact j q (.inl ⟨by grind,rfl⟩) c
  ·obtain ⟨m,o,u,v,w,A,B,C⟩:Ai e s=0/\∃p q k,(p,q)∈Bc ps/\Ai e q < 0/\0 < k/\∀z,Av s q z=k * Av p q z:=by
    rcases i with ⟨h,_⟩ | ⟨_,h⟩
    ·exfalso;grind
    ·exact h
   rw [d] at c;rcases X1.mp (show y∈(s,q)::Bo q ((Bo q r).flatMap (Cg e)) from c) with rfl | c
   ·exact .cut o u v m b w A B C
   ·exact j q (.inl ⟨by grind,rfl⟩) c
  ·have m:Ai e s=0/\∃p q k,(p,q)∈Bc ps/\Ai e q < 0/\0 < k/\∀z,Av s q z=k * Av p q z:=by
    rcases i with ⟨h,_⟩ | ⟨_,h⟩
    ·exfalso;grind
    ·exact h
   rw [d] at c;exact j s (.inr ⟨b,m⟩) c
theorem AI6 {P:List Ad->Prop}(h0:P [])(h1:∀xs x,P xs->P (xs++[x]))(l:List Ad):P l:=by
 have:∀n (l:List Ad),l.length=n->P l:=by
  intro n
  induction n with
  | zero=>intro l hl;rw [List.length_eq_zero_iff.mp hl];exact h0
  | succ n ih=>
   intro l hl;rcases ww l with rfl | ⟨xs,x,rfl⟩
   ·simp at hl
   ·have:=h1 xs x (ih xs (by simp at hl;exact hl))
    simpa using this
 exact this _ l rfl
theorem AN7 {e:Be}{ps:List Ad}(l:Ad)(qs:List Ad)(hE:∀x∈Bo l qs,x∈Bc ps)(v:Ad)(hv:((Bo l qs).flatMap (Cg e)).getLast?=some v):U3 e ps v ((l::qs).getLast (by simp)):=by
 induction qs using AI6 generalizing v with
 | h0=>cases hv
 | h1 xs q ih=>
  have e1:(l::(xs++[q])).getLast (by simp)=q:=by
   have h1:(l::(xs++[q])).getLast?=some q:=Um (l:=l::xs) (a:=q);rw [XZ (by simp)] at h1
   exact XU h1
  rw [e1];rw [Ry] at hE hv;generalize hp:(l::xs).getLast (by simp)=p at hE hv
  have hpq:(p,q)∈Bc ps:=hE _ (by simp)
  have ih':=ih (λ x hx=>hE x (UK _ hx))
  rw [hp] at ih';rw [List.flatMap_append,show ([(p,q)]:List (Ad×Ad)).flatMap (Cg e)=Cg e (p,q) by simp] at hv
  rcases lR e p q with ⟨a,b,n,em⟩ | ⟨a,b,n,em⟩ | ⟨a,b,em⟩ | ⟨a,b,n,em⟩ | ⟨a,b,em⟩ | ⟨a,b,em⟩
  ·rw [em,Um] at hv;cases hv
   exact .inl ⟨b,rfl⟩
  ·rw [em,Um] at hv;cases hv
   exact .inr ⟨b,Gj n,p,q,1 - Eg e p q,hpq,b,by have:=(Gb n).2;grind,λ z=>V0 _ _ _ _⟩
  ·rw [em,Xg] at hv;rcases ih' v hv with ⟨_,h⟩ | ⟨h,_⟩
   ·exact .inr ⟨b,by rw [h];exact a,p,q,1,hpq,b,by decide,λ z=>by rw [h];grind⟩
   ·exfalso;grind
  ·rw [em,show ((Bo l xs).flatMap (Cg e))++[Bl e p q,q]=((Bo l xs).flatMap (Cg e)++[Bl e p q])++[q] by simp,Um] at hv
   cases hv
   exact .inl ⟨by grind,rfl⟩
  ·rw [em,Um] at hv;cases hv
   exact .inl ⟨by grind,rfl⟩
  ·rw [em,Xg] at hv;rcases ih' v hv with ⟨h,_⟩ | ⟨_,h⟩
   ·exfalso;grind
   ·exact .inr ⟨b,h⟩
theorem X6 {e:Be}{ps:List Ad}{y:Ad×Ad}(a:y∈Bc (CN e ps)):Qs e ps y.1 y.2:=by
 cases b:ps.getLast? with
 | none=>
  rw [JI] at b;subst b;cases a
 | some l=>
  have c:Bc ps=Bo l ps:=by unfold Bc;rw [b]
  have g:CN e ps=(Bo l ps).flatMap (Cg e):=by unfold CN;rw [c]
  unfold Bc at a;cases hv:(CN e ps).getLast? with
  | none=>rw [hv] at a;cases a
  | some v=>
   rw [hv] at a;dsimp only at a
   rw [g] at a hv;have f:=AN7 (ps:=ps) l ps (λ x d=>by rw [c];exact d) v hv
   have e2:(l::ps).getLast (by simp)=l:=by
    cases ps with
    | nil=>cases b
    | cons z r=>
     rw [wn (by simp)]
     have:=XZ (l:=z::r) (by simp)
     rw [this] at b;exact XU b
   rw [e2] at f;exact jq ps l v (λ x d=>by rw [c];exact d) f y a
section
variable {e:Be}{ps:List Ad}(h:ES ps)(h3:3<=ps.length)
include h h3
theorem Lf {x:Ad×Ad}(c:x∈Bc ps){z:Ad}(hz:z∈CN e ps):0<=Av x.1 x.2 z:=by
 rcases cut_mem.mp hz with ⟨f,_⟩ | ⟨y,d,hc,rfl⟩
 ·exact h.ge c f
 ·have t:=Gb hc;unfold Bl;rw [Jo];have a:=h.ge c (Ds d).1;have b:=h.ge c (Ds d).2;have g:=YK (show 0<=1 - Eg e y.1 y.2 by grind) a
  have i:=YK (show 0<=Eg e y.1 y.2 by grind) b
  grind
theorem Va (he:e.1≠0\/e.2.1≠0){s z m:Ad}(C:s∈CN e ps)(hz:z∈CN e ps)(D:m∈CN e ps)(E:Ai e s=0)(F:Ai e z=0)(G:Ai e m=0)(o:s≠z){t:Rat}(H:0 < t)(t1:t < 1)(I:m=Bf t s z):False:=by
 obtain ⟨k,R,J⟩:=Jl E F o he;have a:∀x∈Bc ps,Av x.1 x.2 m=0->Ai e x.1=0/\Ai e x.2=0:=by
  intro x i K;have L:=Lf h h3 i C;have M:=Lf h h3 i hz;have hb:=between (f:=Av x.1 x.2) (t:=t) (s:=s) (z:=z) (m:=m) (by rw [I];exact Jo _ _ _ _ _) H t1 L M K
  have n:=Gv h.nd ∅ i
  have N:Av s z x.1=0:=by
   have j:=hb.1;have l:=hb.2;unfold Av at j l ⊢;have nn:x.2.1 - x.1.1≠0\/x.2.2 - x.1.2≠0:=by
    rcases (show x.2.1 - x.1.1=0\/x.2.1 - x.1.1≠0 by grind) with c1 | c1
    ·rcases (show x.2.2 - x.1.2=0\/x.2.2 - x.1.2≠0 by grind) with b | b
     ·exact absurd (WT (by grind) (by grind)) n
     ·exact .inr b
    ·exact .inl c1
   rcases nn with nn | nn<;>grind
  have O:Av s z x.2=0:=by
   have j:=hb.1;have l:=hb.2;unfold Av at j l ⊢;have nn:x.2.1 - x.1.1≠0\/x.2.2 - x.1.2≠0:=by
    rcases (show x.2.1 - x.1.1=0\/x.2.1 - x.1.1≠0 by grind) with c1 | c1
    ·rcases (show x.2.2 - x.1.2=0\/x.2.2 - x.1.2≠0 by grind) with b | b
     ·exact absurd (WT (by grind) (by grind)) n
     ·exact .inr b
    ·exact .inl c1
   rcases nn with nn | nn<;>grind
  rw [J] at N O
  constructor
  ·rcases (show Ai e x.1=0\/Ai e x.1≠0 by grind) with c | c
   ·exact c
   ·exfalso;grind
  ·rcases (show Ai e x.2=0\/Ai e x.2≠0 by grind) with c | c
   ·exact c
   ·exfalso;grind
 rcases cut_mem.mp D with ⟨u,_⟩ | ⟨y,P,hc,e2⟩
 ·obtain ⟨p,d⟩:=Qk u;obtain ⟨q,g⟩:=o4 u;have v:=(a (p,m) d (by dsimp only;exact Ib _ _)).1
  have w:=(a (m,q) g (by dsimp only;exact M4 _ _)).2
  dsimp only at v w
  have nm:=Gv h.nd ∅ g
  have np:=Gv h.nd ∅ d
  dsimp only at nm np
  have A:p≠q:=λ z=>h.back h3 d (by rw [z];exact g)
  have st:=h.st (p,m) d q (Ds g).2 (λ z=>A z.symm) (λ z=>nm z.symm)
  dsimp only at st
  obtain ⟨S,Q,B⟩:=Jl v G np he;rw [B,w] at st
  grind
 ·have r:=a y P (by rw [e2];exact N5 _ _ _)
  rw [r.1,r.2] at hc
  grind
end
theorem qp {s z m:Ad}(f:s≠z)(g:Av s z m=0):∃t,m=Bf t s z:=by
 obtain ⟨a,b⟩:=s;obtain ⟨c,d⟩:=z;obtain ⟨e,h⟩:=m;unfold Av at g;unfold Bf;dsimp only at g ⊢
 rcases (show c - a=0\/c - a≠0 by grind) with c1 | c1
 ·rcases (show d - b=0\/d - b≠0 by grind) with i | i
  ·exact absurd (show ((a,b):Ad)=(c,d) by rw [show c=a by grind,show d=b by grind]) f
  ·refine ⟨(h - b) / (d - b),?_⟩;have j:e=a:=by grind
   rw [j];refine WT ?_ ?_<;>dsimp only<;>grind
 ·refine ⟨(e - a) / (c - a),?_⟩;refine WT ?_ ?_<;>dsimp only
  ·grind
  ·have:(h - b) * (c - a)=(d - b) * (e - a):=by grind
   have k:(e - a) / (c - a) * (c - a)=e - a:=by grind
   grind
theorem MF {a b:Rat}(hb:0 < b):(a / b) * b=a:=by grind
theorem Ox {a b:Rat}(ha:0 < a)(hb:0 < b):0 < a / b:=by
 have d:=MF (a:=a) hb;generalize a / b=c at d;rcases (show c<=0\/0 < c by grind) with z | z
 ·have:=YK (show 0<=-c by grind) (show 0<=b by grind)
  grind
 ·exact z
theorem R6 {a b:Rat}(d:a < b)(hb:0 < b):a / b < 1:=by
 have e:=MF (a:=a) hb;generalize a / b=c at e;rcases (show 1<=c\/c < 1 by grind) with z | z
 ·have:=YK (show 0<=c - 1 by grind) (show 0<=b by grind)
  grind
 ·exact z
theorem Ae4 {s z:Ad}{t u:Rat}(a:u * (1 - t)=-t):s=Bf u (Bf t s z) z:=by
 unfold Bf;refine WT ?_ ?_<;>dsimp only<;>grind
theorem yC {s z:Ad}{t u:Rat}(a:u * t=1):z=Bf u s (Bf t s z):=by
 unfold Bf;refine WT ?_ ?_<;>dsimp only<;>grind
theorem VJ (s z:Ad):Bf 0 s z=s:=by unfold Bf;exact WT (by dsimp only;grind) (by dsimp only;grind)
theorem Xy (s z:Ad):Bf 1 s z=z:=by unfold Bf;exact WT (by dsimp only;grind) (by dsimp only;grind)
theorem bj {s z m:Ad}(b:s≠z)(d:s≠m)(e:z≠m)(f:Av s z m=0):(∃t,0 < t/\t < 1/\m=Bf t s z)\/(∃t,0 < t/\t < 1/\s=Bf t m z)\/(∃t,0 < t/\t < 1/\z=Bf t s m):=by
 obtain ⟨t,a⟩:=qp b f;have g:t≠0:=λ c=>d (by rw [a,c,VJ])
 have t1:t≠1:=λ c=>e (by rw [a,c,Xy])
 clear b d e f;rcases (show t < 0\/(0 < t/\t < 1)\/1 < t by grind) with c | c | c
 ·exact .inr (.inl ⟨(-t) / (1 - t),Ox (by grind) (by grind),R6 (by grind) (by grind),by rw [a];exact Ae4 (MF (by grind))⟩)
 ·exact .inl ⟨t,c.1,c.2,a⟩
 ·exact .inr (.inr ⟨1 / t,Ox (by grind) (by grind),R6 (by grind) (by grind),by rw [a];exact yC (MF (by grind))⟩)
section
variable {e:Be}{ps:List Ad}(h:ES ps)(h3:3<=ps.length)
include h h3
theorem ju (he:e.1≠0\/e.2.1≠0){s z m:Ad}(n:s∈CN e ps)(hz:z∈CN e ps)(f:m∈CN e ps)(g:Ai e s=0)(i:Ai e z=0)(a:s≠z)(j:m≠s)(l:m≠z):0 < Ai e m:=by
 rcases (show Ai e m=0\/0 < Ai e m by have:=T7 f;grind) with c | c
 ·exfalso;obtain ⟨k,q,o⟩:=Jl g i a he;have p:Av s z m=0:=by rw [o,c];grind
  rcases bj a (JE j) (JE l) p with ⟨t,b,t1,d⟩ | ⟨t,b,t1,d⟩ | ⟨t,b,t1,d⟩
  ·exact Va h h3 he n hz f g i c a b t1 d
  ·exact Va h h3 he f hz n c i g l b t1 d
  ·exact Va h h3 he n f hz g c i (JE j) b t1 d
 ·exact c
theorem bF (he:e.1≠0\/e.2.1≠0)(G:2<=(CN e ps).length):ES (CN e ps):=by
 have nd:=Sd (e:=e) h h3;refine ⟨nd,λ y i z hz j l=>?_⟩
 have f:=Gv nd G i;obtain ⟨s,t⟩:=y;have u:=(Ds i).1;have mt:=(Ds i).2;have v:=X6 i;dsimp only at f u mt v j l ⊢
 cases v with
 | old p q k d w o m n g=>
  rw [o];have x:0 < Av p q z:=by
   rcases cut_mem.mp hz with ⟨A,B⟩ | ⟨y,C,hc,r⟩
   ·refine h.st (p,q) d z A ?_ ?_
    ·intro c;dsimp only at c
     rcases m with m | ⟨_,m⟩
     ·exact j (c.trans m.symm)
     ·rw [c] at B;grind
    ·intro c;dsimp only at c
     rcases n with n | ⟨_,n⟩
     ·exact l (c.trans n.symm)
     ·rw [c] at B;grind
   ·by_cases c:y=(p,q)
    ·subst c;rcases g hc with g | g
     ·exact absurd (r.trans g.symm) j
     ·exact absurd (r.trans g.symm) l
    ·rw [r];have t':=Gb hc;exact h.mix h3 d (a:=y.1) (b:=y.2) C c t'.1 t'.2
  exact XY w x
 | cut p q k D rt d I w o=>
  obtain ⟨c,c0,hc⟩:=Jl D rt f he;have J:Av s t q=c * Ai e q:=hc q;have K:Av s q t=k * Av p q t:=o t;have E:=Lf h h3 d mt;dsimp only at E
  have L:Av s q t=- Av s t q:=oF s t q;have M:=YK (show 0<=k by grind) E
  have H:0 < c:=by
   rcases (show c < 0\/0 < c by grind) with F | F
   ·have:=XY (show 0 < -c by grind) (show 0 < - Ai e q by grind)
    grind
   ·exact F
  rw [hc];exact XY H (ju h h3 he u mt hz D rt f j l)
theorem jQ {w:Ad}(l:w∈ps)(j:0 < Ai e w):3<=(CN e ps).length:=by
 obtain ⟨p,g⟩:=Qk l;obtain ⟨q,i⟩:=o4 l;have np:=Gv h.nd ∅ g
 have m:=Gv h.nd ∅ i
 dsimp only at np m
 have o:p≠q:=λ z=>h.back h3 g (by rw [z];exact i)
 have u:w∈CN e ps:=cut_mem.mpr (.inl ⟨l,by grind⟩)
 obtain ⟨a,ha,r,B,v⟩:∃a∈CN e ps,a≠w/\Av p w a=0/\0 < Av w q a:=by
  have k:0 < Av w q p:=h.st (w,q) i p (Ds g).1 np o;rcases (show 0<=Ai e p\/Ai e p < 0 by grind) with c | c
  ·exact ⟨p,cut_mem.mpr (.inl ⟨(Ds g).1,c⟩),np,M4 _ _,k⟩
  ·have n:=IW c j;have t:=Gb n;refine ⟨Bl e p w,cut_mem.mpr (.inr ⟨(p,w),g,n,rfl⟩),iz np t.2,N5 _ _ _,?_⟩;unfold Bl;rw [Jo,M4];have:=XY (show 0 < 1 - Eg e p w by grind) k
   grind
 obtain ⟨b,hb,A,tb⟩:∃b∈CN e ps,b≠w/\Av w q b=0:=by
  rcases (show 0<=Ai e q\/Ai e q < 0 by grind) with c | c
  ·exact ⟨q,cut_mem.mpr (.inl ⟨(Ds i).2,c⟩),JE m,Ib _ _⟩
  ·have n:Ai e w * Ai e q < 0:=by have:=IW c j;grind
   have t:=Gb n;exact ⟨Bl e w q,cut_mem.mpr (.inr ⟨(w,q),i,n,rfl⟩),cY m t.1,N5 _ _ _⟩
 have s:a≠b:=λ z=>by rw [z,tb] at v;grind
 have nd:=Sd (e:=e) h h3;generalize CN e ps=cs at *
 match cs,nd,u,ha,hb with
 | [],_,d,_,_=>cases d
 | [x],_,d,f,h3=>
  exfalso;exact r ((X8.mp f).trans (X8.mp d).symm)
 | [x,y],_,d,f,h3=>
  exfalso;simp only [X1,ZN,or_false] at d f h3;rcases d with d | d<;>rcases f with f | f<;>rcases h3 with h3 | h3<;>first
   | exact r (f.trans d.symm)
   | exact A (h3.trans d.symm)
   | exact s (f.trans h3.symm)
 | _::_::_::_,_,_,_,_=>simp
end
structure Aff (f:Ad->Rat):Prop where
 ex:∃a b c:Rat,∀r:Ad,f r=a * r.1+b * r.2+c
theorem Q3 (e:Be):Aff (Ai e):=⟨e.1,e.2.1,e.2.2,λ _=>rfl⟩
theorem cL (p q:Ad):Aff (Av p q):=⟨-(q.2 - p.2),q.1 - p.1,(q.2 - p.2) * p.1 - (q.1 - p.1) * p.2,λ r=>by unfold Av;grind⟩
structure Mean (a b c x:Ad):Prop where
 ex:∃u v w:Rat,0<=u/\0<=v/\0<=w/\u+v+w=1/\x.1=u * a.1+v * b.1+w * c.1/\x.2=u * a.2+v * b.2+w * c.2
theorem Mean.aff {a b c x:Ad}{f:Ad->Rat}(hf:Aff f):∀{u v w:Rat},u+v+w=1->x.1=u * a.1+v * b.1+w * c.1->x.2=u * a.2+v * b.2+w * c.2->f x=u * f a+v * f b+w * f c:=by
 intro u v w g d e;obtain ⟨A,i,C,h⟩:=hf.ex;rw [h x,h a,h b,h c,d,e]
 grind
theorem rK {u v w a b c:Rat}(d:0<=u)(hv:0<=v)(e:0<=w)(ha:0<=a)(hb:0<=b)(hc:0<=c):0<=u * a+v * b+w * c:=by
 have f:=YK d ha;have g:=YK hv hb;have h:=YK e hc
 grind
theorem Mean.ge {a b c x:Ad}(m:Mean a b c x){f:Ad->Rat}(hf:Aff f)(ha:0<=f a)(hb:0<=f b)(hc:0<=f c):0<=f x:=by
 obtain ⟨u,v,w,d,hv,e,g,h,i⟩:=m.ex;rw [Mean.aff hf g h i];exact rK d hv e ha hb hc
theorem zx {a b c x:Ad}(T:0 < Av a b c)(d:0<=Av b c x)(f:0<=Av c a x)(g:0<=Av a b x):Mean a b c x:=by
 have s:Av b c x+Av c a x+Av a b x=Av a b c:=by unfold Av;grind
 have ge:∀y:Rat,0<=y->0<=y / Av a b c:=λ y i=>by
  rcases (show y=0\/0 < y by grind) with c | c
  ·rw [c];grind
  ·have:=Ox c T;grind
 refine ⟨Av b c x / Av a b c,Av c a x / Av a b c,Av a b x / Av a b c,ge _ d,ge _ f,ge _ g,?_,?_,?_⟩
 ·have:Av a b c≠0:=by grind
  have e:Av b c x / Av a b c+Av c a x / Av a b c+Av a b x / Av a b c=(Av b c x+Av c a x+Av a b x) / Av a b c:=by grind
  rw [e,s]
  grind
 ·have:Av a b c≠0:=by grind
  have h:Av b c x * a.1+Av c a x * b.1+Av a b x * c.1=Av a b c * x.1:=by unfold Av;grind
  have e:Av b c x / Av a b c * a.1+Av c a x / Av a b c * b.1+Av a b x / Av a b c * c.1=(Av b c x * a.1+Av c a x * b.1+Av a b x * c.1) / Av a b c:=by grind
  rw [e,h]
  grind
 ·have:Av a b c≠0:=by grind
  have h:Av b c x * a.2+Av c a x * b.2+Av a b x * c.2=Av a b c * x.2:=by unfold Av;grind
  have e:Av b c x / Av a b c * a.2+Av c a x / Av a b c * b.2+Av a b x / Av a b c * c.2=(Av b c x * a.2+Av c a x * b.2+Av a b x * c.2) / Av a b c:=by grind
  rw [e,h]
  grind
theorem fan {a x:Ad}:∀(l:Ad) (qs:List Ad),0<=Av a l x->Av a ((l::qs).getLast (by simp)) x<=0->(∃y∈Bo l qs,0<=Av a y.1 x/\Av a y.2 x<=0)\/(qs=[]/\Av a l x=0)
 | l,[],d,b=>.inr ⟨rfl,by have:Av a l x<=0:=b;grind⟩
 | l,q::r,d,b=>by
  rcases (show 0<=Av a q x\/Av a q x < 0 by grind) with c | c
  ·rcases fan q r c (by rw [wn (by simp)] at b;exact b) with ⟨y,e,f⟩ | ⟨_,g⟩
   ·exact .inl ⟨y,W1 _ e,f⟩
   ·exact .inl ⟨(l,q),by simp [Bo],d,by dsimp only;grind⟩
  ·exact .inl ⟨(l,q),by simp [Bo],d,by dsimp only;grind⟩
theorem mR {ps:List Ad}(h:ES ps)(l:3<=ps.length){x:Ad}(g:∀y∈Bc ps,0<=Av y.1 y.2 x):∃a∈ps,∃b∈ps,∃c∈ps,Mean a b c x:=by
 match ps,h,l,g with
 | d::e::f::r,h,l,g=>
  have q:(d::e::f::r).getLast?=some ((d::e::f::r).getLast (by simp)):=XZ (by simp)
  have k:Bc (d::e::f::r)=((e::f::r).getLast (by simp),d)::(d,e)::Bo e (f::r):=by
   unfold Bc;rw [q];rfl
  have e1:=g (d,e) (by rw [k];simp)
  have e2:=g ((e::f::r).getLast (by simp),d) (by rw [k];simp)
  dsimp only at e1 e2
  have s:Av d ((e::f::r).getLast (by simp)) x<=0:=by
   have:Av ((e::f::r).getLast (by simp)) d x=- Av d ((e::f::r).getLast (by simp)) x:=by unfold Av;grind
   grind
  rcases fan e (f::r) e1 s with ⟨y,m,t,w⟩ | ⟨u,_⟩
  ·have j:y∈Bc (d::e::f::r):=by rw [k];exact W1 _ (W1 _ m)
   obtain ⟨i,v⟩:=iT m;have nd:=h.nd;have n:=(XJ.mp nd).1;have o:y.1∈e::f::r:=by rcases i with i | i<;>simp [i]
   have p:y.2∈e::f::r:=W1 _ v;have T:=h.st y j d (by simp) (λ z=>n (by rw [z];exact o)) (λ z=>n (by rw [z];exact p))
   refine ⟨d,by simp,y.1,W1 _ o,y.2,W1 _ p,zx ?_ (g y j) ?_ t⟩
   ·rw [<- rZ];exact T
   ·have:Av y.2 d x=- Av d y.2 x:=by unfold Av;grind
    grind
  ·cases u
def InP:List Ad->Ad->Prop
 | [],_=>False
 | [p],x=>x=p
 | [p,q],x=>∃t,0<=t/\t<=1/\x=Bf t p q
 | p::q::r::s,x=>∀y∈Bc (p::q::r::s),0<=Av y.1 y.2 x
theorem InP.three {ps:List Ad}(a:3<=ps.length){x:Ad}:InP ps x↔∀y∈Bc ps,0<=Av y.1 y.2 x:=by
 match ps,a with
 | p::q::r::s,_=>exact Iff.rfl
theorem Wo {ps:List Ad}(h:ES ps)(e:3<=ps.length){x:Ad}(g:InP ps x){f:Ad->Rat}(hf:Aff f)(d:∀p∈ps,0<=f p):0<=f x:=by
 obtain ⟨a,ha,b,hb,c,hc,m⟩:=mR h e ((InP.three e).mp g);exact m.ge hf (d a ha) (d b hb) (d c hc)
section
variable {e:Be}{ps:List Ad}(h:ES ps)(h3:3<=ps.length)(he:e.1≠0\/e.2.1≠0)
include h h3 he
theorem zc {w:Ad}(u:w∈ps)(m:0 < Ai e w)(x:Ad):InP (CN e ps) x↔InP ps x/\0<=Ai e x:=by
 have a:=jQ h h3 u m;have i:=bF h h3 he ∅
 constructor
 ·intro b;refine ⟨(InP.three h3).mpr λ y d=>Wo i a b (cL _ _) λ p j=>Lf h h3 d j,Wo i a b (Q3 e) λ p j=>T7 j⟩
 ·rintro ⟨b,v⟩
  rw [InP.three h3]at b;refine (InP.three a).mpr λ y d=>?_
  have g:=Gv i.nd ∅ d
  obtain ⟨s,t⟩:=y;have mt:=(Ds d).2;have n:=X6 d;dsimp only at g mt n ⊢
  cases n with
  | old p q k f z l B C hc=>
   rw [l];exact YK (by grind) (b (p,q) f)
  | cut p q k A rt f D z l=>
   obtain ⟨c,c0,hc⟩:=Jl A rt g he;have E:Av s t q=c * Ai e q:=hc q;have F:Av s q t=k * Av p q t:=l t;have o:=Lf h h3 f mt;dsimp only at o
   have G:Av s q t=- Av s t q:=oF s t q;have H:=YK (show 0<=k by grind) o
   have I:0 < c:=by
    rcases (show c < 0\/0 < c by grind) with r | r
    ·have:=XY (show 0 < -c by grind) (show 0 < - Ai e q by grind)
     grind
    ·exact r
   rw [hc];exact YK (by grind) v
end
def FW (e:Be):List (Ad×Ad)->List Ad->List Ad
 | [],a=>a
 | x::r,a=>FW e r ((if Ai e x.1 * Ai e x.2 < 0/\Bl e x.1 x.2∉a then a++[Bl e x.1 x.2] else a)++(if 0<=Ai e x.2 then [x.2] else []))
def Dm (e:Be)(ps:List Ad):List Ad:=FW e (Bc ps) []
theorem jl (e:Be):∀(xs:List (Ad×Ad)) (a:List Ad),(a++xs.flatMap (Cg e)).Nodup->FW e xs a=a++xs.flatMap (Cg e)
 | [],a,_=>by simp [FW]
 | x::r,a,h=>by
  rw [GI,<- XB] at h ⊢;have hl:=(GL.mp h).1;rw [FW];have e1:(if Ai e x.1 * Ai e x.2 < 0/\Bl e x.1 x.2∉a then a++[Bl e x.1 x.2] else a)++(if 0<=Ai e x.2 then [x.2] else [])=a++Cg e x:=by
   unfold Cg at hl ⊢;by_cases c:Ai e x.1 * Ai e x.2 < 0
   ·rw [if_pos c] at hl ⊢;have nm:Bl e x.1 x.2∉a:=λ m=>(GL.mp hl).2.2 _ m _ (by simp) rfl
    rw [if_pos ⟨c,nm⟩,XB]
   ·rw [if_neg c,if_neg (λ z=>c z.1)]
    rfl
  rw [e1];exact jl e r _ h
theorem wL {e:Be}{ps:List Ad}(h:(CN e ps).Nodup):Dm e ps=CN e ps:=by
 have:=jl e (Bc ps) [] (by rw [Jn];exact h)
 unfold Dm;rw [this];rfl
theorem ES.no_three {ps:List Ad}(h:ES ps)(q:3<=ps.length){a b c:Ad}(ha:a∈ps)(hb:b∈ps)(hc:c∈ps)(e:a≠b)(g:b≠c)(i:a≠c){t:Rat}(k:0 < t)(t1:t < 1)(l:b=Bf t a c):False:=by
 obtain ⟨p,d⟩:=Qk hb;have n:=h.ge d ha;have o:=h.ge d hc;have j:Av p b b=(1 - t) * Av p b a+t * Av p b c:=by
  have:=Jo p b t a c;rw [<- l] at this;exact this
 rw [Ib] at j;obtain ⟨r,u⟩:=between (f:=Av p b) (s:=a) (z:=c) (m:=b) (by rw [Ib];exact j) k t1 n o (Ib p b)
 have e1:a=p:=by
  by_cases c1:a=p
  ·exact c1
  ·have:=h.st _ d a ha c1 e;dsimp only at this
   grind
 have e2:c=p:=by
  by_cases c1:c=p
  ·exact c1
  ·have:=h.st _ d c hc c1 (λ z=>g z.symm)
   dsimp only at this
   grind
 exact i (e1.trans e2.symm)
theorem ES.no_line {ps:List Ad}(h:ES ps)(j:3<=ps.length){e:Be}(he:e.1≠0\/e.2.1≠0){a b c:Ad}(ha:a∈ps)(hb:b∈ps)(hc:c∈ps)(d:a≠b)(f:b≠c)(g:a≠c)(l:Ai e a=0)(rb:Ai e b=0)(m:Ai e c=0):False:=by
 obtain ⟨k,p,n⟩:=Jl l rb d he;have o:Av a b c=0:=by rw [n,m];grind
 rcases bj d g f o with ⟨t,i,t1,e⟩ | ⟨t,i,t1,e⟩ | ⟨t,i,t1,e⟩
 ·exact h.no_three j ha hc hb g (λ z=>f z.symm) d i t1 e
 ·exact h.no_three j hc ha hb (λ z=>g z.symm) d (λ z=>f z.symm) i t1 e
 ·exact h.no_three j ha hb hc d f g i t1 e
theorem ES.nil:ES []:=⟨List.nodup_nil,λ x a=>nomatch a⟩
theorem ES.one (p:Ad):ES [p]:=⟨by simp,λ x a z hz b c=>by
 have:=(Ds a).1;simp only [X8] at this hz;exact absurd (hz.trans this.symm) b⟩
theorem ES.two {p q:Ad}(n:p≠q):ES [p,q]:=⟨by simpa using n,λ x a z hz b c=>by
 have a:x∈[(q,p),(p,q)]:=a;simp only [X1,ZN,or_false] at a hz;rcases a with rfl | rfl<;>rcases hz with rfl | rfl<;>first | exact absurd rfl b | exact absurd rfl c⟩
theorem Jm (l:List Ad):l=[]\/(∃p,l=[p])\/(∃p q,l=[p,q])\/3<=l.length:=by
 match l with
 | []=>exact .inl rfl
 | [p]=>exact .inr (.inl ⟨p,rfl⟩)
 | [p,q]=>exact .inr (.inr (.inl ⟨p,q,rfl⟩))
 | p::q::r::s=>exact .inr (.inr (.inr (by simp)))
theorem fX (e:Be):∀(xs:List (Ad×Ad)),(∀x∈xs,¬ Ai e x.1 * Ai e x.2 < 0)->xs.flatMap (Cg e)=(xs.map qv).filter (λ z=>decide (0<=Ai e z))
 | [],_=>rfl
 | x::r,h=>by
  rw [GI,fX e r λ x a=>h x (W1 _ a),YJ,UN]
  unfold Cg;rw [if_neg (h x (ZA ..))];by_cases c:0<=Ai e x.2
  ·rw [if_pos c,if_pos (ζ c)];rfl
  ·rw [if_neg c,if_neg (by simpa using c)];rfl
section
variable {e:Be}{ps:List Ad}
theorem Oh (a:∀p∈ps,¬ 0 < Ai e p):CN e ps=ps.filter (λ z=>decide (0<=Ai e z)):=by
 unfold CN;rw [fX e (Bc ps),Nz];intro x b c;have d:=a _ (Ds b).1;have f:=a _ (Ds b).2;rcases Dy c with h | h<;>grind
theorem Ak0 (h:ES ps)(a:∀p∈ps,¬ 0 < Ai e p):(CN e ps).Nodup:=by
 rw [Oh a];exact h.nd.filter _
end
theorem pX {p q x:Ad}{t:Rat}(d:0<=t)(t1:t<=1)(e:x=Bf t p q){f:Ad->Rat}(hf:Aff f)(g:0<=f p)(i:0<=f q):0<=f x:=by
 obtain ⟨a,b,c,h⟩:=hf;have e2:f x=(1 - t) * f p+t * f q:=by rw [e,h,h,h];unfold Bf;dsimp only;grind
 rw [e2];have j:=YK (show 0<=1 - t by grind) g
 have k:=YK d i
 grind
theorem Rx {ps:List Ad}(h:ES ps){x:Ad}(a:InP ps x){f:Ad->Rat}(hf:Aff f)(b:∀p∈ps,0<=f p):0<=f x:=by
 rcases Jm ps with rfl | ⟨p,rfl⟩ | ⟨p,q,rfl⟩ | c
 ·exact a.elim
 ·have a:x=p:=a;rw [a];exact b p (by simp)
 ·obtain ⟨t,d,t1,e⟩:∃t,0<=t/\t<=1/\x=Bf t p q:=a;exact pX d t1 e hf (b p (by simp)) (b q (by simp))
 ·exact Wo h c a hf b
theorem wz {u v w a b c:Rat}(d:0<=u)(hv:0<=v)(e:0<=w)(ha:a<=0)(hb:b<=0)(hc:c<=0)(h:0<=u * a+v * b+w * c):u * a=0/\v * b=0/\w * c=0:=by
 have f:=YK d (show 0<=-a by grind)
 have g:=YK hv (show 0<=-b by grind)
 have i:=YK e (show 0<=-c by grind)
 grind
theorem Mg {u a:Rat}(h:u * a=0):u=0\/a=0:=by
 rcases xz.mp h with h | h
 ·exact .inl h
 ·exact .inr h
theorem share {u:Rat}{a p q:Ad}(b:0<=u)(h:u=0\/a=p\/a=q):∃t,0<=t/\t<=u/\u * a.1=(u - t) * p.1+t * q.1/\u * a.2=(u - t) * p.2+t * q.2:=by
 rcases h with rfl | rfl | rfl
 ·exact ⟨0,by grind,by grind,by grind,by grind⟩
 ·exact ⟨0,by grind,by grind,by grind,by grind⟩
 ·exact ⟨u,by grind,by grind,by grind,by grind⟩
section
variable {e:Be}{ps:List Ad}(h:ES ps)(h3:3<=ps.length)(he:e.1≠0\/e.2.1≠0)(hn:∀p∈ps,¬ 0 < Ai e p)
include h h3 he hn
theorem jV:(CN e ps).length<=2:=by
 rw [Oh hn];have mem:∀z∈ps.filter (λ z=>decide (0<=Ai e z)),z∈ps/\Ai e z=0:=λ z hz=>by
  have:=Uw.mp hz;have i:=hn z this.1;have j:0<=Ai e z:=of_decide_eq_true this.2;exact ⟨this.1,by grind⟩
 have nd:(ps.filter (λ z=>decide (0<=Ai e z))).Nodup:=h.nd.filter _
 generalize ps.filter (λ z=>decide (0<=Ai e z))=l at mem nd
 match l,mem,nd with
 | [],_,_=>simp
 | [_],_,_=>simp
 | [_,_],_,_=>simp
 | a::b::c::r,mem,nd=>
  exfalso;obtain ⟨d,f⟩:=mem a (by simp)
  obtain ⟨b1,b2⟩:=mem b (by simp)
  obtain ⟨c1,g⟩:=mem c (by simp)
  simp only [XJ,X1,not_or] at nd;exact h.no_line h3 he d b1 c1 nd.1.1 nd.2.1.1 nd.1.2.1 f b2 g
theorem dM:ES (CN e ps):=by
 have l:=jV h h3 he hn;have nd:=Ak0 h hn;rcases Jm (CN e ps) with c | ⟨p,c⟩ | ⟨p,q,c⟩ | c
 ·rw [c];exact ES.nil
 ·rw [c];exact ES.one p
 ·rw [c] at nd ⊢;exact ES.two (by simpa using nd)
 ·omega
theorem xH (x:Ad):InP (CN e ps) x↔InP ps x/\0<=Ai e x:=by
 have t:=dM h h3 he hn
 constructor
 ·intro j;refine ⟨(InP.three h3).mpr λ y E=>Rx t j (cL _ _) λ p k=>?_,Rx t j (Q3 e) λ p k=>T7 k⟩
  rw [Oh hn] at k;exact h.ge E (Uw.mp k).1
 ·rintro ⟨j,A⟩
  obtain ⟨a,ha,b,hb,c,hc,m⟩:=mR h h3 ((InP.three h3).mp j);obtain ⟨u,v,w,n,hv,o,F,r,s⟩:=m.ex;rw [Mean.aff (Q3 e) F r s] at A;obtain ⟨G,H,I⟩:=wz n hv o (show Ai e a<=0 by have:=hn a ha;grind) (show Ai e b<=0 by have:=hn b hb;grind) (show Ai e c<=0 by have:=hn c hc;grind) A
  have i:∀{u:Rat} {a:Ad},a∈ps->u * Ai e a=0->u=0\/a∈CN e ps:=λ ha z=>by
   rcases Mg z with z | z
   ·exact .inl z
   ·refine .inr ?_;rw [Oh hn];exact Uw.mpr ⟨ha,ζ (by grind)⟩
  have d:=i ha G;have f:=i hb H;have g:=i hc I;have l:=jV h h3 he hn;rcases Jm (CN e ps) with c | ⟨p,c⟩ | ⟨p,q,c⟩ | c
  ·rw [c] at d f g;simp only [ZN,or_false] at d f g
   grind
  ·rw [c] at d f g ⊢;simp only [X8] at d f g;show x=p;obtain ⟨t1,_,_,B,C⟩:=share (p:=p) (q:=p) n (d.imp id .inl);obtain ⟨t2,_,_,b1,b2⟩:=share (p:=p) (q:=p) hv (f.imp id .inl);obtain ⟨t3,_,_,c1,D⟩:=share (p:=p) (q:=p) o (g.imp id .inl);exact WT (by rw [r];grind) (by rw [s];grind)
  ·rw [c] at d f g ⊢;simp only [X1,ZN,or_false] at d f g;obtain ⟨t1,J,K,B,C⟩:=share (p:=p) (q:=q) n d;obtain ⟨t2,L,M,b1,b2⟩:=share (p:=p) (q:=q) hv f;obtain ⟨t3,N,O,c1,D⟩:=share (p:=p) (q:=q) o g;refine ⟨t1+t2+t3,by grind,by grind,?_⟩
   unfold Bf;exact WT (by rw [r,B,b1,c1];dsimp only;grind) (by rw [s,C,b2,D];dsimp only;grind)
  ·omega
end
theorem lW {e:Be}{p q:Ad}(h:Ai e p * Ai e q < 0):Bl e q p=Bl e p q:=by
 have n:Ai e p - Ai e q≠0:=by rcases Dy h with z | z<;>grind
 have a:Ai e q - Ai e p≠0:=by grind
 have b:Eg e q p=1 - Eg e p q:=by unfold Eg;grind
 unfold Bl Bf;rw [b];exact WT (by dsimp only;grind) (by dsimp only;grind)
theorem Zw (e:Be)(p q:Ad):Dm e [p,q]=
  if Ai e p * Ai e q < 0 then (if 0<=Ai e p then [Bl e p q,p] else [Bl e p q,q]) else (if 0<=Ai e p then [p] else [])++(if 0<=Ai e q then [q] else []):=by
 have e1:Dm e [p,q]=FW e [(q,p),(p,q)] []:=rfl;rw [e1];unfold FW FW FW;dsimp only
 have b:Ai e q * Ai e p=Ai e p * Ai e q:=FX _ _;rw [b];by_cases c:Ai e p * Ai e q < 0
 ·have d:(if Ai e p * Ai e q < 0/\Bl e q p∉([]:List Ad) then []++[Bl e q p] else [])=[Bl e p q]:=by
   rw [if_pos ⟨c,ZN⟩,lW c];rfl
  rw [d,if_pos c];by_cases c1:0<=Ai e p
  ·have a:¬ 0<=Ai e q:=by rcases Dy c with z | z<;>grind
   rw [if_pos c1,if_neg a,if_pos c1,if_neg (λ z=>z.2 (by simp))]
   rfl
  ·have a:0<=Ai e q:=by rcases Dy c with z | z<;>grind
   rw [if_neg c1,if_pos a,if_neg c1,if_neg (λ z=>z.2 (by simp))]
   rfl
 ·rw [if_neg c,if_neg (λ z=>c z.1),if_neg (λ z=>c z.1)]
  rfl
theorem dH {e:Be}{p q x:Ad}(g:Ai e p < 0)(i:0 < Ai e q):(∃t,0<=t/\t<=1/\x=Bf t (Bl e p q) q)↔(∃t,0<=t/\t<=1/\x=Bf t p q)/\0<=Ai e x:=by
 have hc:Ai e p * Ai e q < 0:=IW g i;obtain ⟨c0,c1⟩:=Gb hc;have j:=Gj hc;have f:(1 - Eg e p q) * Ai e p+Eg e p q * Ai e q=0:=by rw [<- K4];exact j
 unfold Bl;generalize Eg e p q=c at c0 c1 f
 constructor
 ·rintro ⟨t,d,t1,rfl⟩
  have e1:Bf t (Bf c p q) q=Bf (c+t * (1 - c)) p q:=by unfold Bf;exact WT (by dsimp only;grind) (by dsimp only;grind)
  have n:=YK d (show 0<=1 - c by grind)
  have o:=YK (show 0<=1 - t by grind) (show 0<=1 - c by grind)
  refine ⟨⟨c+t * (1 - c),by grind,by grind,e1⟩,?_⟩
  rw [K4,K4,f];have:=YK d (show 0<=Ai e q by grind)
  grind
 ·rintro ⟨⟨t,d,t1,rfl⟩,k⟩
  rw [K4] at k;have l:0 < Ai e q - Ai e p:=by grind
  have ct:c<=t:=by
   rcases (show c<=t\/t < c by grind) with h | h
   ·exact h
   ·exfalso;have:=XY (show 0 < c - t by grind) l
    grind
  refine ⟨(t - c) / (1 - c),?_,?_,?_⟩
  ·rcases (show t=c\/0 < t - c by grind) with h | h
   ·rw [h];grind
   ·have:=Ox h (show 0 < 1 - c by grind);grind
  ·rcases (show t=1\/t < 1 by grind) with h | h
   ·rw [h];grind
   ·have:=R6 (a:=t - c) (b:=1 - c) (by grind) (by grind);grind
  ·have m:(t - c) / (1 - c) * (1 - c)=t - c:=MF (by grind)
   generalize (t - c) / (1 - c)=s at m;have e1:Bf s (Bf c p q) q=Bf (c+s * (1 - c)) p q:=by unfold Bf;exact WT (by dsimp only;grind) (by dsimp only;grind)
   rw [e1,m]
   congr 1
   grind
theorem Ad5 (t:Rat)(p q:Ad):Bf t p q=Bf (1 - t) q p:=by unfold Bf;exact WT (by dsimp only;grind) (by dsimp only;grind)
theorem AS4 {p q x:Ad}:(∃t,0<=t/\t<=1/\x=Bf t p q)↔(∃t,0<=t/\t<=1/\x=Bf t q p):=by
 constructor<;>rintro ⟨t,a,t1,e⟩<;>exact ⟨1 - t,by grind,by grind,by rw [e,Ad5]⟩
theorem mq {e:Be}{p q:Ad}(h:Ai e p * Ai e q < 0):Bl e p q≠p/\Bl e p q≠q:=by
 have r:=Gj h;refine ⟨λ z=>?_,λ z=>?_⟩
 ·rw [z] at r;rw [r] at h;grind
 ·rw [z] at r;rw [r] at h;grind
theorem AM4 {e:Be}{p q:Ad}(n:p≠q):ES (Dm e [p,q])/\∀x,InP (Dm e [p,q]) x↔InP [p,q] x/\0<=Ai e x:=by
 rw [Zw];by_cases c:Ai e p * Ai e q < 0
 ·rw [if_pos c];by_cases c1:0<=Ai e p
  ·rw [if_pos c1];refine ⟨ES.two (mq c).1,λ x=>?_⟩
   have f:Ai e q < 0/\0 < Ai e p:=by rcases Dy c with z | z<;>grind
   have i:=dH (x:=x) f.1 f.2;rw [lW c] at i;show (∃t,0<=t/\t<=1/\x=Bf t (Bl e p q) p)↔(∃t,0<=t/\t<=1/\x=Bf t p q)/\_;rw [i,AS4]
  ·rw [if_neg c1];have f:Ai e p < 0/\0 < Ai e q:=by rcases Dy c with z | z<;>grind
   exact ⟨ES.two (mq c).2,λ x=>dH f.1 f.2⟩
 ·rw [if_neg c];have room:∀t,Ai e (Bf t p q)=(1 - t) * Ai e p+t * Ai e q:=λ t=>K4 e t p q
  by_cases c1:0<=Ai e p
  ·by_cases a:0<=Ai e q
   ·rw [if_pos c1,if_pos a];refine ⟨ES.two n,λ x=>⟨λ b=>⟨b,?_⟩,λ b=>b.1⟩⟩
    exact Rx (ES.two n) b (Q3 e) λ r j=>by
     simp only [X1,ZN,or_false] at j;rcases j with rfl | rfl<;>assumption
   ·have z:Ai e p=0:=by
     rcases (show Ai e p=0\/0 < Ai e p by grind) with h | h
     ·exact h
     ·exfalso;exact c (by have:=IW (show Ai e q < 0 by grind) h;rw [FX];exact this)
    rw [if_pos c1,if_neg a];refine ⟨ES.one p,λ x=>?_⟩
    show x=p↔(∃t,0<=t/\t<=1/\x=Bf t p q)/\_
    constructor
    ·rintro rfl
     exact ⟨⟨0,by grind,by grind,(VJ _ _).symm⟩,c1⟩
    ·rintro ⟨⟨t,g,t1,rfl⟩,d⟩
     rw [room,z] at d;have:t=0:=by
      rcases (show t=0\/0 < t by grind) with h | h
      ·exact h
      ·have:=XY h (show 0 < - Ai e q by grind);grind
     rw [this,VJ]
  ·by_cases a:0<=Ai e q
   ·have z:Ai e q=0:=by
     rcases (show Ai e q=0\/0 < Ai e q by grind) with h | h
     ·exact h
     ·exfalso;exact c (IW (show Ai e p < 0 by grind) h)
    rw [if_neg c1,if_pos a];refine ⟨ES.one q,λ x=>?_⟩
    show x=q↔(∃t,0<=t/\t<=1/\x=Bf t p q)/\_
    constructor
    ·rintro rfl
     exact ⟨⟨1,by grind,by grind,(Xy _ _).symm⟩,a⟩
    ·rintro ⟨⟨t,g,t1,rfl⟩,d⟩
     rw [room,z] at d;have:t=1:=by
      rcases (show t=1\/0 < 1 - t by grind) with h | h
      ·exact h
      ·have:=XY h (show 0 < - Ai e p by grind);grind
     rw [this,Xy]
   ·rw [if_neg c1,if_neg a];refine ⟨ES.nil,λ x=>⟨λ b=>b.elim,?_⟩⟩
    rintro ⟨⟨t,g,t1,rfl⟩,d⟩
    rw [room] at d;have k:=YK g (show 0<=- Ai e q by grind)
    have l:=YK (show 0<=1 - t by grind) (show 0<=- Ai e p by grind)
    rcases (show t=0\/0 < t by grind) with h | h
    ·rw [h] at d;grind
    ·have:=XY h (show 0 < - Ai e q by grind);grind
theorem VR (e:Be)(p:Ad):Dm e [p]=if 0<=Ai e p then [p] else []:=by
 have e1:Dm e [p]=FW e [(p,p)] []:=rfl;rw [e1];unfold FW FW;dsimp only
 have c:¬ Ai e p * Ai e p < 0:=λ z=>by rcases Dy z with h | h<;>grind
 rw [if_neg (λ z=>c z.1)]
 rfl
theorem aB {e:Be}{ps:List Ad}(h:ES ps)(a:3<=ps.length):Dm e ps=CN e ps:=wL (Sd h a)
theorem Ab1 {e:Be}{ps:List Ad}(h:ES ps)(he:e.1≠0\/e.2.1≠0):ES (Dm e ps)/\∀x,InP (Dm e ps) x↔InP ps x/\0<=Ai e x:=by
 rcases Jm ps with rfl | ⟨p,rfl⟩ | ⟨p,q,rfl⟩ | b
 ·exact ⟨ES.nil,λ x=>⟨λ a=>a.elim,λ a=>a.1⟩⟩
 ·rw [VR];by_cases c:0<=Ai e p
  ·rw [if_pos c];exact ⟨ES.one p,λ x=>⟨λ a=>⟨a,by rw [show x=p from a];exact c⟩,λ a=>a.1⟩⟩
  ·rw [if_neg c];exact ⟨ES.nil,λ x=>⟨λ a=>a.elim,λ a=>c (by rw [<- show x=p from a.1];exact a.2)⟩⟩
 ·exact AM4 (by simpa using h.nd)
 ·rw [aB h b];by_cases c:∃w∈ps,0 < Ai e w
  ·obtain ⟨w,f,d⟩:=c;exact ⟨bF h b he (by have:=jQ h b f d;omega),zc h b he f d⟩
  ·have g:∀p∈ps,¬ 0 < Ai e p:=λ p i z=>c ⟨p,i,z⟩
   exact ⟨dM h b he g,xH h b he g⟩
def JK (e:Be)(x:Ad×Ad):Bool:=decide (Ai e x.1 * Ai e x.2 < 0)
theorem lJ (e:Be):∀xs:List (Ad×Ad),(xs.flatMap (Cg e)).length=(xs.filter (JK e)).length+((xs.map qv).filter (λ z=>decide (0<=Ai e z))).length
 | []=>rfl
 | x::r=>by
  rw [GI,X9,lJ e r,YJ,UN,UN];unfold Cg JK;by_cases c1:Ai e x.1 * Ai e x.2 < 0<;>by_cases a:0<=Ai e x.2
  ·rw [if_pos c1,if_pos a,if_pos (ζ c1),if_pos (ζ a)];simp only [X9,X2,YH];omega
  ·rw [if_pos c1,if_neg a,if_pos (ζ c1),if_neg (by simpa using a)]
   simp only [X9,X2,YH];omega
  ·rw [if_neg c1,if_pos a,if_neg (by simpa using c1),if_pos (ζ a)]
   simp only [X9,X2,YH];omega
  ·rw [if_neg c1,if_neg a,if_neg (by simpa using c1),if_neg (by simpa using a)]
   simp only [X9,YH];omega
theorem oN {b c:Type}{f:b->c}:∀{l:List b},(l.map f).Nodup->l.Nodup
 | [],_=>List.nodup_nil
 | a::r,h=>by
  rw [YJ,XJ] at h;exact XJ.mpr ⟨λ m=>h.1 (List.mem_map_of_mem m),oN h.2⟩
theorem wy {e:Be}{ps:List Ad}(h:ES ps)(he:e.1≠0\/e.2.1≠0):(Dm e ps).length<=ps.length+1:=by
 rcases Jm ps with rfl | ⟨p,rfl⟩ | ⟨p,q,rfl⟩ | d
 ·exact WI _
 ·rw [VR];split<;>simp
 ·rw [Zw]
  split
  ·split<;>simp
  ·split<;>split<;>simp
 ·rw [aB h d];unfold CN;rw [lJ,Nz];have m:(Bc ps).Nodup:=oN (f:=qv) (by rw [Nz];exact h.nd)
  have nd:((Bc ps).filter (JK e)).Nodup:=m.filter _;have mem:∀x∈(Bc ps).filter (JK e),x∈Bc ps/\Ai e x.1 * Ai e x.2 < 0:=λ x g=>⟨(Uw.mp g).1,of_decide_eq_true (Uw.mp g).2⟩
  have le:=QL (λ z=>decide (0<=Ai e z)) ps
  have two:((Bc ps).filter (JK e)).length<=2:=by
   generalize (Bc ps).filter (JK e)=l at nd mem
   match l,nd,mem with
   | [],_,_=>simp
   | [_],_,_=>simp
   | [_,_],_,_=>simp
   | a::b::c::r,nd,mem=>
    exfalso;obtain ⟨k,i⟩:=mem a (by simp)
    obtain ⟨b1,b2⟩:=mem b (by simp)
    obtain ⟨c1,j⟩:=mem c (by simp)
    simp only [XJ,X1,not_or] at nd;have n:=Pj h d k b1 nd.1.1 i b2;have o:=Pj h d k c1 nd.1.2.1 i j;have s:=Pj h d b1 c1 nd.2.1.1 b2 j;have:=ju h d he (cut_mem.mpr (.inr ⟨a,k,i,rfl⟩)) (cut_mem.mpr (.inr ⟨b,b1,b2,rfl⟩)) (cut_mem.mpr (.inr ⟨c,c1,j,rfl⟩)) (Gj i) (Gj b2) n (λ z=>o z.symm) (λ z=>s z.symm)
    rw [Gj j] at this
    grind
  by_cases c:(Bc ps).filter (JK e)=[]
  ·rw [c];simp only [YH];omega
  ·obtain ⟨x,g⟩:=List.exists_mem_of_ne_nil _ c;obtain ⟨t,u⟩:=mem x g;have neg:∃z∈ps,¬ 0<=Ai e z:=by
    obtain ⟨v,w⟩:=Ds t;rcases Dy u with z | z
    ·exact ⟨_,v,by grind⟩
    ·exact ⟨_,w,by grind⟩
   have lt:(ps.filter (λ z=>decide (0<=Ai e z))).length < ps.length:=by
    rw [List.length_filter_lt_length_iff_exists];obtain ⟨z,hz,nz⟩:=neg;exact ⟨z,hz,by simpa using nz⟩
   omega
structure LinB (L:Nat)(A B C:Int):Prop where
 a:A.natAbs < 2 ^ L
 b:B.natAbs < 2 ^ L
 c:C.natAbs < 2 ^ L
def Ez (A a C:Int)(p:Ad):Prop:=(A:Rat) * p.1+(a:Rat) * p.2+(C:Rat)=0
structure OnL (L:Nat)(p q:Ad):Prop where
 ex:∃A B C:Int,LinB L A B C/\(A≠0\/B≠0)/\Ez A B C p/\Ez A B C q
structure Two (L:Nat)(p:Ad):Prop where
 ex:∃A B C A' B' C':Int,LinB L A B C/\LinB L A' B' C'/\A * B' - A' * B≠0/\Ez A B C p/\Ez A' B' C' p
structure EdB (L:Nat)(e:Be):Prop where
 ex:∃(A B C:Int) (k:Rat),LinB L A B C/\k≠0/\e.1=k * A/\e.2.1=k * B/\e.2.2=k * C
theorem Two.self {f:Nat}{p:Ad}(h:Two f p):OnL f p p:=by
 obtain ⟨A,g,C,i,j,k,e,l,d,c,m⟩:=h.ex;refine ⟨A,g,C,e,?_,c,c⟩;by_cases a:A=0
 ·by_cases b:g=0
  ·exfalso;apply d;rw [a,b];simp
  ·exact .inr b
 ·exact .inl a
theorem OnL.swap {e:Nat}{p q:Ad}(h:OnL e p q):OnL e q p:=by
 obtain ⟨A,f,C,a,b,c,d⟩:=h.ex;exact ⟨A,f,C,a,b,d,c⟩
theorem Uv {A a C:Int}{p q:Ad}(t:Rat)(b:Ez A a C p)(c:Ez A a C q):Ez A a C (Bf t p q):=by
 unfold Ez Bf at *;dsimp only
 grind
theorem EdB.on {f:Nat}{e:Be}(h:EdB f e):∃A a C:Int,LinB f A a C/\((e.1≠0\/e.2.1≠0)->(A≠0\/a≠0))/\(∃k:Rat,k≠0/\∀p:Ad,Ai e p=k * ((A:Rat) * p.1+(a:Rat) * p.2+(C:Rat))):=by
 obtain ⟨A,a,C,k,b,c,e1,e2,d⟩:=h.ex;refine ⟨A,a,C,b,?_,k,c,λ p=>?_⟩
 ·rintro (n | n)
  ·exact .inl λ z=>n (by rw [e1,z];grind)
  ·exact .inr λ z=>n (by rw [e2,z];grind)
 ·unfold Ai;rw [e1,e2,d]
  grind
theorem ji {l:Nat}{e:Be}{p q:Ad}(hl:OnL l p q)(hb:EdB l e)(h:Ai e p * Ai e q < 0):Two l (Bl e p q):=by
 obtain ⟨A,f,C,m,o,g,i⟩:=hl.ex;obtain ⟨a,b,r,s,_,k,t,c⟩:=hb.on;have j:=Gj h;refine ⟨A,f,C,a,b,r,m,s,λ d=>?_,Uv _ g i,?_⟩
 ·have ne:Ai e p≠Ai e q:=by rcases Dy h with z | z<;>grind
  apply ne
  rw [c p,c q];have d':(A:Rat) * b=(a:Rat) * f:=by
   have:A * b=a * f:=by omega
   have:=congrArg (λ z:Int=>(z:Rat)) this
   simpa only [YI] using this
  unfold Ez at g i;have u:(a:Rat) * (p.1 - q.1)+(b:Rat) * (p.2 - q.2)=0:=by
   rcases o with n | n
   ·have n:(A:Rat)≠0:=λ z=>n (by have:=wb.mp z;exact this)
    have:(A:Rat) * ((a:Rat) * (p.1 - q.1)+(b:Rat) * (p.2 - q.2))=0:=by grind
    rcases Mg this with z | z
    ·exact absurd z n
    ·exact z
   ·have n:(f:Rat)≠0:=λ z=>n (by have:=wb.mp z;exact this)
    have:(f:Rat) * ((a:Rat) * (p.1 - q.1)+(b:Rat) * (p.2 - q.2))=0:=by grind
    rcases Mg this with z | z
    ·exact absurd z n
    ·exact z
  congr 1
  grind
 ·rw [c] at j;rcases Mg j with z | z
  ·exact absurd z t
  ·exact z
theorem yf {h:Nat}{e:Be}{s t:Ad}(hb:EdB h e)(he:e.1≠0\/e.2.1≠0)(b:Ai e s=0)(rt:Ai e t=0):OnL h s t:=by
 obtain ⟨A,i,C,c,n,k,d,g⟩:=hb.on;have f:∀z:Ad,Ai e z=0->Ez A i C z:=λ z a=>by
  rw [g] at a;rcases Mg a with z | z
  ·exact absurd z d
  ·exact z
 exact ⟨A,i,C,c,n he,f s b,f t rt⟩
structure PolB (L:Nat)(ps:List Ad):Prop where
 two:∀p∈ps,Two L p
 on:∀x∈Bc ps,OnL L x.1 x.2
theorem OnL.mixL {i:Nat}{p q s t:Ad}(h:OnL i p q)(d:s=p\/s=q\/∃c,s=Bf c p q)(e:t=p\/t=q\/∃c,t=Bf c p q):OnL i s t:=by
 obtain ⟨A,j,C,f,g,a,b⟩:=h.ex;refine ⟨A,j,C,f,g,?_,?_⟩
 ·rcases d with rfl | rfl | ⟨c,rfl⟩
  ·exact a
  ·exact b
  ·exact Uv _ a b
 ·rcases e with rfl | rfl | ⟨c,rfl⟩
  ·exact a
  ·exact b
  ·exact Uv _ a b
theorem AR6 {c:Nat}{e:Be}{ps:List Ad}(h:PolB c ps)(hb:EdB c e)(he:e.1≠0\/e.2.1≠0):PolB c (CN e ps):=by
 refine ⟨λ p d=>?_,λ y f=>?_⟩
 ·rcases cut_mem.mp d with ⟨g,_⟩ | ⟨x,i,hc,rfl⟩
  ·exact h.two p g
  ·exact ji (h.on x i) hb hc
 ·obtain ⟨s,t⟩:=y;have b:=X6 f;dsimp only at b ⊢
  cases b with
  | old p q k a j l m n hc=>
   refine (h.on _ a).mixL ?_ ?_
   ·rcases m with rfl | ⟨rfl,_⟩
    ·exact .inl rfl
    ·exact .inr (.inr ⟨_,rfl⟩)
   ·rcases n with rfl | ⟨rfl,_⟩
    ·exact .inr (.inl rfl)
    ·exact .inr (.inr ⟨_,rfl⟩)
  | cut p q k o rt a r j l=>exact yf hb he o rt
theorem PolB.nil (c:Nat):PolB c []:=by
 refine ⟨λ p a=>?_,λ x b=>?_⟩
 ·cases a
 ·cases b
theorem PolB.one {c:Nat}{p:Ad}(h:Two c p):PolB c [p]:=by
 refine ⟨λ q b=>?_,λ x a=>?_⟩
 ·rw [X8.mp b];exact h
 ·have a:x∈[(p,p)]:=a;rw [X8.mp a];exact h.self
theorem PolB.pair {c:Nat}{p q:Ad}(d:Two c p)(e:Two c q)(h:OnL c p q):PolB c [p,q]:=by
 refine ⟨λ r b=>?_,λ x a=>?_⟩
 ·simp only [X1,ZN,or_false] at b;rcases b with rfl | rfl<;>assumption
 ·have a:x∈[(q,p),(p,q)]:=a;simp only [X1,ZN,or_false] at a;rcases a with rfl | rfl
  ·exact h.swap
  ·exact h
theorem AH5 {b:Nat}{e:Be}{ps:List Ad}(h:ES ps)(a:PolB b ps)(hb:EdB b e)(he:e.1≠0\/e.2.1≠0):PolB b (Dm e ps):=by
 rcases Jm ps with rfl | ⟨p,rfl⟩ | ⟨p,q,rfl⟩ | i
 ·exact PolB.nil b
 ·rw [VR]
  split
  ·exact a
  ·exact PolB.nil b
 ·have d:OnL b p q:=a.on (p,q) (show (p,q)∈[(q,p),(p,q)] by simp)
  have f:=a.two p (by simp)
  have tq:=a.two q (by simp)
  rw [Zw];by_cases c:Ai e p * Ai e q < 0
  ·rw [if_pos c];have g:=ji d hb c
   split
   ·exact PolB.pair g f (d.mixL (.inr (.inr ⟨_,rfl⟩)) (.inl rfl))
   ·exact PolB.pair g tq (d.mixL (.inr (.inr ⟨_,rfl⟩)) (.inr (.inl rfl)))
  ·rw [if_neg c]
   split<;>split
   ·exact a
   ·exact PolB.one f
   ·exact PolB.one tq
   ·exact PolB.nil b
 ·rw [aB h i];exact AR6 a hb he
theorem Two.rb {j:Nat}{p:Ad}(h:Two j p):Rb (2 * j+1) p.1 p.2:=by
 obtain ⟨A,v,C,k,l,m,g,i,d,B,D⟩:=h.ex;have e:∀{x y z w:Int},x.natAbs < 2 ^ j->y.natAbs < 2 ^ j->z.natAbs < 2 ^ j->w.natAbs < 2 ^ j->(x * y - z * w).natAbs < 2 ^ (2 * j+1):=λ E F hz G=>by
  have:=nO (Cz E F) (Cz hz G);rw [<- Nat.two_mul] at this;exact this
 have cd:∀x y z w:Int,((x * y - z * w:Int):Rat)=(x:Rat) * y - (z:Rat) * w:=λ x y z w=>by rw [Rat.intCast_sub,YI,YI]
 unfold Ez at B D;have e1:p.1 * ((A * l - k * v:Int):Rat)=((v * m - l * C:Int):Rat):=by rw [cd,cd];grind
 have e2:p.2 * ((A * l - k * v:Int):Rat)=((k * C - A * m:Int):Rat):=by rw [cd,cd];grind
 have H:((A * l - k * v:Int):Rat)≠0:=λ z=>d (wb.mp z)
 have n:∀(f o U:Int),f≠0->(f:Rat)≠0->f.natAbs < 2 ^ (2 * j+1)->o.natAbs < 2 ^ (2 * j+1)->U.natAbs < 2 ^ (2 * j+1)->p.1 * (f:Rat)=(o:Rat)->p.2 * (f:Rat)=(U:Rat)->Rb (2 * j+1) p.1 p.2:=λ f o U I J q r t K L=>by
  by_cases s:0 < f
  ·refine ⟨o,U,f.natAbs,by omega,q,r,t,?_,?_⟩
   ·rw [show ((f.natAbs:Nat):Int)=f by omega,UY];grind
   ·rw [show ((f.natAbs:Nat):Int)=f by omega,UY];grind
  ·have u:((f.natAbs:Nat):Int)=-f:=by omega
   refine ⟨-o,-U,f.natAbs,by omega,q,by rw [UX];exact r,by rw [UX];exact t,?_,?_⟩
   ·rw [u,UY,JA,JA];grind
   ·rw [u,UY,JA,JA];grind
 exact n _ _ _ d H (e g.a i.b i.a g.b) (e g.b i.c i.b g.c) (e i.a g.c g.a i.c) e1 e2
theorem eZ (l:Ad):∀ps:List Ad,(Bo l ps).length=ps.length
 | []=>rfl
 | p::r=>by show (Bo p r).length+1=r.length+1;rw [eZ p r]
theorem Af4 (ps:List Ad):(Bc ps).length=ps.length:=by
 unfold Bc;cases h:ps.getLast? with
 | none=>rw [JI.mp h];rfl
 | some l=>exact eZ l ps
theorem mK (l:Ad):∀(ps:List Ad) (i:Nat),i < ps.length->(Bo l ps)[i]?=some (if i=0 then l else Ck ps (i - 1),Ck ps i)
 | p::r,0,_=>rfl
 | p::r,i+1,h=>by
  show (Bo p r)[i]?=_;rw [mK p r i (by simpa using h)]
  cases i with
  | zero=>rfl
  | succ j=>rfl
theorem AK6 {ps:List Ad}{i:Nat}(h:i < ps.length):(Bc ps)[i]?=some (Ey ps i,Ck ps i):=by
 unfold Bc;cases hl:ps.getLast? with
 | none=>rw [JI.mp hl] at h;exact absurd h (by simp)
 | some l=>
  show (Bo l ps)[i]?=_;rw [mK l ps i h];unfold Ey;by_cases e:i=0
  ·rw [if_pos e,if_pos e];have:Ck ps (ps.length - 1)=l:=by
    unfold Ck;rw [QA,<- QO,hl];rfl
   rw [this]
  ·rw [if_neg e,if_neg e]
theorem VF {P:List Ad->Prop}(h:∀x r,P (x::r)->P (r++[x])):∀a b:List Ad,P (a++b)->P (b++a)
 | [],b,p=>by rw [Xg];exact p
 | x::a,b,p=>by
  have c:=h x (a++b) p;rw [XB] at c;have d:=VF h a (b++[x]) c;rw [XB] at d;exact d
theorem rot_edges {x:Ad}{r:List Ad}{y:Ad×Ad}:y∈Bc (r++[x])↔y∈Bc (x::r):=by
 have e1:Bc (r++[x])=Bo x (r++[x]):=by
  unfold Bc;rw [List.getLast?_append];rfl
 have e2:Bc (x::r)=((x::r).getLast (by simp),x)::Bo x r:=by
  unfold Bc;rw [XZ (by simp)]
  rfl
 rw [e1,e2,Ry,YT,X1,X1];simp only [ZN,or_false];exact Or.comm
theorem ES.rot {x:Ad}{r:List Ad}(h:ES (x::r)):ES (r++[x]):=by
 refine ⟨?_,λ y c z hz d f=>?_⟩
 ·have nd:=h.nd;rw [XJ] at nd;rw [GL];refine ⟨nd.2,by simp,λ a ha b hb e=>?_⟩
  rw [X8.mp hb] at e;exact nd.1 (e▸ha)
 ·refine h.st y (rot_edges.mp c) z ?_ d f;rw [YT,X8] at hz;rw [X1];exact hz.symm
theorem PolB.rot {c:Nat}{x:Ad}{r:List Ad}(h:PolB c (x::r)):PolB c (r++[x]):=by
 refine ⟨λ p a=>h.two p ?_,λ y b=>h.on y (rot_edges.mp b)⟩
 rw [YT,X8] at a;rw [X1];exact a.symm
def DX (cs:List Ad):Nat->Nat
 | 0=>0
 | i+1=>if JG (Ck cs i) (Ck cs (DX cs i))=true then i else DX cs i
def JS (cs:List Ad):List Ad:=cs.drop (DX cs cs.length)++cs.take (DX cs cs.length)
theorem nP (cs:List Ad):∀m,0 < m->DX cs m < m
 | 0,h=>absurd h ⋯
 | m+1,_=>by
  rw [DX]
  split
  ·omega
  ·cases m with
   | zero=>show 0 < 1;decide
   | succ k=>have:=nP cs (k+1) ∅;omega
theorem Rr (cs:List Ad):∃a b,cs=a++b/\JS cs=b++a:=⟨cs.take (DX cs cs.length),cs.drop (DX cs cs.length),(List.take_append_drop _ _).symm,rfl⟩
theorem qP (cs:List Ad):(JS cs).length=cs.length:=by
 obtain ⟨a,b,e1,e2⟩:=Rr cs;rw [e2,e1,X9,X9];omega
theorem wJ {cs:List Ad}(h:ES cs):ES (JS cs):=by
 obtain ⟨a,b,e1,e2⟩:=Rr cs;rw [e2];exact VF (P:=ES) (λ x r p=>p.rot) a b (e1▸h)
theorem pN {c:Nat}{cs:List Ad}(h:PolB c cs):PolB c (JS cs):=by
 obtain ⟨a,b,e1,e2⟩:=Rr cs;rw [e2];exact VF (P:=PolB c) (λ x r p=>p.rot) a b (e1▸h)
structure Box where
 a:Rat
 b:Rat
 c:Rat
 d:Rat
def Box.four (x:Box):List Ad:=[(x.a,x.c),(x.b,x.c),(x.b,x.d),(x.a,x.d)]
def HF:List Ad->List Ad->List Ad
 | [],a=>a
 | c::cs,a=>HF cs (if c∈a then a else a++[c])
def En (x:Box):List Ad:=HF x.four []
structure Box.ok (x:Box):Prop where
 h:x.a<=x.b
 s:x.c<=x.d
theorem Ii {a b c d:Rat}:((a,b):Ad)=(c,d)↔a=c/\b=d:=Prod.mk.injEq a b c d▸Iff.rfl
theorem ZF {x:Box}(i:x.a < x.b)(j:x.c < x.d):En x=[(x.a,x.c),(x.b,x.c),(x.b,x.d),(x.a,x.d)]:=by
 have e:x.b≠x.a:=by grind
 have f:x.d≠x.c:=by grind
 have g:x.a≠x.b:=by grind
 have h:x.c≠x.d:=by grind
 unfold En Box.four;simp [HF,Ii,e,f,g,h]
theorem Uo {x:Box}(e:x.a=x.b)(h:x.c < x.d):En x=[(x.a,x.c),(x.a,x.d)]:=by
 have f:x.d≠x.c:=by grind
 have g:x.c≠x.d:=by grind
 unfold En Box.four;simp [HF,Ii,<- e,f,g]
theorem RT {x:Box}(h:x.a < x.b)(e:x.c=x.d):En x=[(x.a,x.c),(x.b,x.c)]:=by
 have f:x.b≠x.a:=by grind
 have g:x.a≠x.b:=by grind
 unfold En Box.four;simp [HF,Ii,<- e,f,g]
theorem UL {x:Box}(e:x.a=x.b)(f:x.c=x.d):En x=[(x.a,x.c)]:=by
 unfold En Box.four;simp [HF,Ii,<- e,<- f]
theorem Box.cases {x:Box}(h:x.ok):(x.a < x.b/\x.c < x.d)\/(x.a=x.b/\x.c < x.d)\/(x.a < x.b/\x.c=x.d)\/(x.a=x.b/\x.c=x.d):=by
 have:=h.h;have:=h.s;rcases (show x.a < x.b\/x.a=x.b by grind) with a | a<;>rcases (show x.c < x.d\/x.c=x.d by grind) with b | b
 ·exact .inl ⟨a,b⟩
 ·exact .inr (.inr (.inl ⟨a,b⟩))
 ·exact .inr (.inl ⟨a,b⟩)
 ·exact .inr (.inr (.inr ⟨a,b⟩))
theorem uv {k z:Rat}(a:0 < k):0<=k * z↔0<=z:=by
 constructor
 ·intro h;rcases (show 0<=z\/z < 0 by grind) with c | c
  ·exact c
  ·have:=XY a (show 0 < -z by grind)
   grind
 ·intro h;exact YK (by grind) h
theorem vW {x:Box}(h:x.ok):ES (En x):=by
 rcases Box.cases h with ⟨e,f⟩ | ⟨e,f⟩ | ⟨e,f⟩ | ⟨e,f⟩
 ·rw [ZF e f];have k:x.b≠x.a:=by grind
  have l:x.d≠x.c:=by grind
  have m:x.a≠x.b:=by grind
  have n:x.c≠x.d:=by grind
  have o:=XY (show 0 < x.b - x.a by grind) (show 0 < x.d - x.c by grind)
  refine ⟨by simp [Ii,k,l,m,n],λ y g z hz i j=>?_⟩
  have g:y∈[((x.a,x.d),(x.a,x.c)),((x.a,x.c),(x.b,x.c)),((x.b,x.c),(x.b,x.d)),((x.b,x.d),(x.a,x.d))]:=g;simp only [X1,ZN,or_false] at g hz;unfold Av;rcases g with rfl | rfl | rfl | rfl<;>rcases hz with rfl | rfl | rfl | rfl<;>dsimp only at i j ⊢<;>first | exact absurd rfl i | exact absurd rfl j | grind
 ·rw [Uo e f];exact ES.two (by rw [Ne,Ii];grind)
 ·rw [RT e f];exact ES.two (by rw [Ne,Ii];grind)
 ·rw [UL e f];exact ES.one _
structure Box.bd (n:Nat)(x:Box):Prop where
 a:Bd n x.a
 b:Bd n x.b
 c:Bd n x.c
 d:Bd n x.d
theorem Fx (q:Rat):(q.den:Rat) * q=(q.num:Rat):=by
 have h:q=(q.num:Rat) / (q.den:Rat):=by rw [<- XI,<- UY];exact (xD q).symm
 have d:(q.den:Rat)≠0:=λ z=>q.den_nz (by exact_mod_cast z)
 generalize (q.num:Rat)=a at *;generalize (q.den:Rat)=b at *
 grind
theorem Qg {a:Nat}{p q:Rat}(b:Bd a p)(c:Bd a q)(f:0 < a):Two a (p,q):=by
 have z:(0:Int).natAbs < 2 ^ a:=by show 0 < 2 ^ a;exact Nr a
 refine ⟨(p.den:Int),0,-p.num,0,(q.den:Int),-q.num,⟨b.d,z,by rw [UX];exact b.n⟩,⟨z,c.d,by rw [UX];exact c.n⟩,?_,?_,?_⟩
 ·have g:=p.den_nz;have h:=q.den_nz;rw [Int.zero_mul,Int.sub_zero];intro e;rcases Int.mul_eq_zero.mp e with e | e<;>omega
 ·unfold Ez;have:=Fx p;simp only [XI,JA,wP]
  grind
 ·unfold Ez;have:=Fx q;simp only [XI,JA,wP]
  grind
theorem Xc {a:Nat}{p u v:Rat}(b:Bd a p):OnL a (p,u) (p,v):=by
 have z:(0:Int).natAbs < 2 ^ a:=by show 0 < 2 ^ a;exact Nr a
 have:=Fx p;have c:=p.den_nz;refine ⟨(p.den:Int),0,-p.num,⟨b.d,z,by rw [UX];exact b.n⟩,.inl ∅,?_,?_⟩<;>
 ·unfold Ez;simp only [XI,JA,wP]
  grind
theorem WF {a:Nat}{p u v:Rat}(b:Bd a p):OnL a (u,p) (v,p):=by
 have z:(0:Int).natAbs < 2 ^ a:=by show 0 < 2 ^ a;exact Nr a
 have:=Fx p;have c:=p.den_nz;refine ⟨0,(p.den:Int),-p.num,⟨z,b.d,by rw [UX];exact b.n⟩,.inr ∅,?_,?_⟩<;>
 ·unfold Ez;simp only [XI,JA,wP]
  grind
theorem AG8 {k:Nat}{x:Box}(h:x.ok)(b:x.bd k)(g:0 < k):PolB k (En x):=by
 have c1:=Qg b.a b.c g;have l:=Qg b.b b.c g;have n:=Qg b.b b.d g;have m:=Qg b.a b.d g;rcases Box.cases h with ⟨e,f⟩ | ⟨e,f⟩ | ⟨e,f⟩ | ⟨e,f⟩
 ·rw [ZF e f];refine ⟨λ p j=>?_,λ y i=>?_⟩
  ·simp only [X1,ZN,or_false] at j;rcases j with rfl | rfl | rfl | rfl<;>assumption
  ·have i:y∈[((x.a,x.d),(x.a,x.c)),((x.a,x.c),(x.b,x.c)),((x.b,x.c),(x.b,x.d)),((x.b,x.d),(x.a,x.d))]:=i;simp only [X1,ZN,or_false] at i;rcases i with rfl | rfl | rfl | rfl
   ·exact Xc b.a
   ·exact WF b.c
   ·exact Xc b.b
   ·exact WF b.d
 ·rw [Uo e f];exact PolB.pair c1 m (Xc b.a)
 ·rw [RT e f];exact PolB.pair c1 l (WF b.c)
 ·rw [UL e f];exact PolB.one c1
theorem wO {x:Box}(h:x.ok):(En x).length<=4:=by
 rcases Box.cases h with ⟨a,b⟩ | ⟨a,b⟩ | ⟨a,b⟩ | ⟨a,b⟩
 ·rw [ZF a b];show 4<=4;decide
 ·rw [Uo a b];show 2<=4;decide
 ·rw [RT a b];show 2<=4;decide
 ·rw [UL a b];show 1<=4;decide
theorem zH {n M:Nat}{a b c:Rat}(ha:Bd n a)(hb:Bd n b)(hc:Bd M c):EdB (2 * n+M) (a,b,c):=by
 have f:=a.den_nz;have g:=b.den_nz;have h:=c.den_nz;have e1:=Fx a;have e2:=Fx b;have l:=Fx c;have e:∀{x y z p q r:Nat},x < 2 ^ p->y < 2 ^ q->z < 2 ^ r->x * y * z < 2 ^ (p+q+r):=λ {x y z p q r} i j hz=>by
  rw [NN,NN];have k:x * y < 2 ^ p * 2 ^ q:=wE i j;exact wE k hz
 have m:(a.den:Rat)≠0:=λ z=>f (by exact_mod_cast z)
 have o:(b.den:Rat)≠0:=λ z=>g (by exact_mod_cast z)
 have s:(c.den:Rat)≠0:=λ z=>h (by exact_mod_cast z)
 refine ⟨a.num * (b.den:Int) * (c.den:Int),(a.den:Int) * b.num * (c.den:Int),(a.den:Int) * (b.den:Int) * c.num,1 / ((a.den:Rat) * (b.den:Rat) * (c.den:Rat)),⟨?_,?_,?_⟩,?_,?_,?_,?_⟩
 ·rw [WE,WE,YO,YO,show 2 * n+M=n+n+M by omega]
  exact e ha.n hb.d hc.d
 ·rw [WE,WE,YO,YO,show 2 * n+M=n+n+M by omega]
  exact e ha.d hb.n hc.d
 ·rw [WE,WE,YO,YO,show 2 * n+M=n+n+M by omega]
  exact e ha.d hb.d hc.n
 ·grind
 ·simp only [YI,XI]
  grind
 ·simp only [YI,XI]
  grind
 ·simp only [YI,XI]
  grind
end Op
namespace Lib
open PySem L2 Fr Op
def Ig (e:Be):Zh:=.tuple [Ak e.1,Ak e.2.1,Ak e.2.2]
def Ia (x:Box):Zh:=.tuple [Ak x.a,Ak x.b,Ak x.c,Ak x.d]
def Hs (cs:List Ad):Zh:=.list (cs.map BZ)
def Jb (l:Lim):Be:=(l.a,l.b,0 - l.lo)
def Oi (l:Lim):Be:=(0 - l.a,0 - l.b,l.hi)
structure LimB (n M:Nat)(l:Lim):Prop where
 a:Bd n l.a
 b:Bd n l.b
 lo:Bd M l.lo
 hi:Bd M l.hi
 z:l.a=0->l.b≠0
structure EdS (n M:Nat)(e:Be):Prop where
 a:Bd n e.1
 b:Bd n e.2.1
 c:Bd M e.2.2
 z:e.1≠0\/e.2.1≠0
theorem Tv (q:Rat):0 - q=-q:=by grind
theorem LimB.up {n M:Nat}{l:Lim}(h:LimB n M l):EdS n M (Jb l):=by
 refine ⟨h.a,h.b,?_,?_⟩
 ·show Bd M (0 - l.lo);rw [Tv];exact h.lo.neg
 ·show l.a≠0\/l.b≠0;by_cases z:l.a=0
  ·exact .inr (h.z z)
  ·exact .inl z
theorem LimB.dn {n M:Nat}{l:Lim}(h:LimB n M l):EdS n M (Oi l):=by
 refine ⟨?_,?_,h.hi,?_⟩
 ·show Bd n (0 - l.a);rw [Tv];exact h.a.neg
 ·show Bd n (0 - l.b);rw [Tv];exact h.b.neg
 ·show 0 - l.a≠0\/0 - l.b≠0;by_cases z:l.a=0
  ·right
   have:=h.z z
   grind
  ·left
   grind
theorem EdS.edb {n M:Nat}{e:Be}(h:EdS n M e):EdB (2 * n+M) e:=zH h.a h.b h.c
structure Poly (L k:Nat)(ps:List Ad):Prop where
 es:ES ps
 pb:PolB L ps
 len:ps.length<=k
theorem Poly.cut {n M k:Nat}{e:Be}{ps:List Ad}(h:Poly (2 * n+M) k ps)(he:EdS n M e):Poly (2 * n+M) (k+1) (Dm e ps):=
 ⟨(Ab1 h.es he.z).1,AH5 h.es h.pb he.edb he.z,ZE (wy h.es he.z) (UO h.len 1)⟩
theorem Poly.rb {b k:Nat}{ps:List Ad}(h:Poly b k ps):∀p∈ps,RB (2 * b+1) p:=λ p a=>(h.pb.two p a).rb
theorem Poly.rn {b k:Nat}{ps:List Ad}(h:Poly b k ps):∀p∈ps,Rn (2 * b+1) p:=λ p a=>⟨(h.rb p a).y,(h.rb p a).u⟩
def Kl (ps:List Ad)(l:Lim):List Ad:=Dm (Oi l) (Dm (Jb l) ps)
def AX0 (ps:List Ad)(l:Lim):Nat->List Ad
 | 0=>ps
 | 1=>Dm (Jb l) ps
 | _=>Kl ps l
def Io (ls:List Lim)(ps:List Ad):List Ad:=ls.foldl Kl ps
def GK (ls:List Lim)(x:Box):List Ad:=JS (Io ls (En x))
theorem yj {ls:List Lim}{i:Nat}{l:Lim}(h:ls[i]?=some l)(ps:List Ad):Io (ls.take (i+1)) ps=Kl (Io (ls.take i) ps) l:=by
 unfold Io;rw [YU,h];show (ls.take i++[l]).foldl Kl ps=_;rw [wm];rfl
theorem Poly.lim {n M k:Nat}{l:Lim}{ps:List Ad}(h:Poly (2 * n+M) k ps)(hl:LimB n M l):Poly (2 * n+M) (k+2) (Kl ps l):=(h.cut hl.up).cut hl.dn
theorem Poly.all {n M:Nat}:∀(ls:List Lim) {k:Nat} {ps:List Ad},Poly (2 * n+M) k ps->(∀l∈ls,LimB n M l)->Poly (2 * n+M) (k+2 * ls.length) (Io ls ps)
 | [],k,ps,h,_=>h
 | l::ls,k,ps,h,hl=>by
  have:=Poly.all ls (h.lim (hl l ZA)) (λ x a=>hl x (W1 _ a))
  rw [X2,show k+2 * (ls.length+1)=k+2+2 * ls.length by omega]
  exact this
theorem eQ {a:Nat}{x:Box}(h:x.ok)(b:x.bd a)(c:0 < a):Poly a 4 (En x):=⟨vW h,AG8 h b c,wO h⟩
structure FieldOk (n M:Nat)(ls:List Lim)(x:Box):Prop where
 ok:x.ok
 bd:x.bd (2 * n+M)
 pos:0 < 2 * n+M
 lim:∀l∈ls,LimB n M l
theorem FieldOk.poly {n M:Nat}{ls:List Lim}{x:Box}(h:FieldOk n M ls x):Poly (2 * n+M) (4+2 * ls.length) (GK ls x):=by
 have p:=Poly.all ls (eQ h.ok h.bd h.pos) h.lim;exact ⟨wJ p.es,pN p.pb,by unfold GK;rw [qP];exact p.len⟩
def _root_.Op.Pc.fd (m M:Nat):Pc->Prop
 | .gap d=>Bd m d
 | .glass d=>Bd m d
 | .stop lo hi=>Bd M lo/\Bd M hi
theorem lZ {m M n:Nat}{r:Ad}:∀{p:Pc},p.fd m M->RB n r->RB (n+m+1) (p.bent r)
 | .gap _,b,h=>Rb.gap h b
 | .glass _,b,h=>Rb.glass h b
 | .stop _ _,_,h=>Rb.mono h ∅
theorem iu {m M:Nat}:∀(ps:List Pc) (i n:Nat) (h s:Ad),(∀p∈ps,p.fd m M)->RB n h->RB n s->h.1 * s.2 - s.1 * h.2=1->∀l∈Fl i ps h s,LimB (n+(ps.length - 1) * (m+1)) M l
 | [],i,n,h,s,_,_,_,_=>λ l hl=>nomatch hl
 | p::ps,i,n,h,s,hb,k,o,r=>λ l hl=>by
  have c:=hb p ZA;rcases YT.mp hl with f | f
  ·cases p with
   | gap d=>cases f
   | glass d=>cases f
   | stop lo hi=>
    have c:Bd M lo/\Bd M hi:=c;cases X8.mp f
    refine ⟨k.y.mono ∅,o.y.mono ∅,c.1,c.2,λ g j=>?_⟩
    have g:h.1=0:=g;have j:s.1=0:=j;rw [g,j] at r
    grind
  ·have:=iu ps (i+1) (n+m+1) (p.bent h) (p.bent s) (λ q t=>hb q (W1 _ t)) (lZ c k) (lZ c o) (by rw [V6];exact r) l f
   have e:n+m+1+(ps.length - 1) * (m+1)<=n+((p::ps).length - 1) * (m+1):=by
    rw [X2,qA];cases ps with
    | nil=>cases f
    | cons q qs=>rw [X2,qA,Qv];omega
   exact ⟨this.a.mono e,this.b.mono e,this.lo,this.hi,this.z⟩
theorem AZ5 {m M:Nat}{ps:List Pc}(hb:∀p∈ps,p.fd m M):∀l∈Bv ps,LimB (2+(ps.length - 1) * (m+1)) M l:=iu ps 0 2 e1 e2 hb X3 Xj (by show (1:Rat) * 1 - 0 * 0=1;grind)
theorem LimB.mono {n M c d:Nat}{l:Lim}(h:LimB n M l)(e:n<=c)(f:M<=d):LimB c d l:=⟨h.a.mono e,h.b.mono e,h.lo.mono f,h.hi.mono f,h.z⟩
theorem fO (x y:Rat):x.num * y.num < 0↔x * y < 0:=by
 have b:=Fx x;have d:=Fx y;have f:(0:Rat) < (x.den:Rat):=by
  have:=x.den_pos
  exact_mod_cast this
 have g:(0:Rat) < (y.den:Rat):=by
  have:=y.den_pos
  exact_mod_cast this
 have e:((x.num * y.num:Int):Rat)=((x.den:Rat) * (y.den:Rat)) * (x * y):=by
  rw [YI,<- b,<- d];grind
 have c:(((x.num * y.num:Int):Rat) < ((0:Int):Rat))↔x.num * y.num < 0:=Rat.intCast_lt_intCast;rw [<- c,e];have a:=XY f g;generalize (x.den:Rat) * (y.den:Rat)=k at a ⊢;show k * (x * y) < 0↔x * y < 0;generalize x * y=z;have:=uv (z:=z) a
 grind
theorem Jh (x:Rat):0<=x.num↔0<=x:=NO
def Hb (e:Be)(a:List Ad)(x:Ad×Ad):List Ad:=(if Ai e x.1 * Ai e x.2 < 0/\Bl e x.1 x.2∉a then a++[Bl e x.1 x.2] else a)++(if 0<=Ai e x.2 then [x.2] else [])
theorem pJ (e:Be):∀(xs:List (Ad×Ad)) (a:List Ad),FW e xs a=xs.foldl (Hb e) a
 | [],a=>rfl
 | x::r,a=>by
  rw [FW,pJ e r];rfl
def Gd (e:Be)(ps:List Ad)(i:Nat):List Ad:=((Bc ps).take i).foldl (Hb e) []
theorem tM (e:Be){ps:List Ad}{i:Nat}(h:i < ps.length):Gd e ps (i+1)=Hb e (Gd e ps i) (Ey ps i,Ck ps i):=by
 unfold Gd;rw [YU,AK6 h];show ((Bc ps).take i++[(Ey ps i,Ck ps i)]).foldl (Hb e) []=_;rw [wm];rfl
theorem qw (e:Be)(ps:List Ad):Gd e ps ps.length=Dm e ps:=by
 unfold Gd Dm;rw [pJ,<- Af4,YX]
theorem AR5 (e:Be)(a:List Ad)(x:Ad×Ad):(Hb e a x).length<=a.length+2:=by
 unfold Hb;rw [X9];have b:(if Ai e x.1 * Ai e x.2 < 0/\Bl e x.1 x.2∉a then a++[Bl e x.1 x.2] else a).length<=a.length+1:=by
  split
  ·rw [X9];simp
  ·omega
 have c:(if 0<=Ai e x.2 then [x.2] else []).length<=1:=by
  split
  ·simp
  ·simp
 omega
theorem eG (e:Be):∀(xs:List (Ad×Ad)) (a:List Ad),(xs.foldl (Hb e) a).length<=a.length+2 * xs.length
 | [],a=>by simp
 | x::r,a=>by
  have:=eG e r (Hb e a x);have b:=AR5 e a x;rw [List.foldl_cons,X2];omega
theorem sE (e:Be)(ps:List Ad)(i:Nat):(Gd e ps i).length<=2 * i:=by
 have h:=eG e ((Bc ps).take i) [];have a:((Bc ps).take i).length<=i:=by rw [YG];omega
 simp only [YH] at h;unfold Gd;omega
def Fd (cs:List Ad)(i:Nat):List Ad:=(cs.take i).foldl (λ a c=>if c∈a then a else a++[c]) []
theorem jj:∀(cs a:List Ad),HF cs a=cs.foldl (λ a c=>if c∈a then a else a++[c]) a
 | [],a=>rfl
 | c::cs,a=>by rw [HF,jj cs];rfl
theorem aa {cs:List Ad}{i:Nat}{c:Ad}(h:cs[i]?=some c):Fd cs (i+1)=if c∈Fd cs i then Fd cs i else Fd cs i++[c]:=by
 unfold Fd;rw [YU,h];show (cs.take i++[c]).foldl _ []=_;rw [wm];rfl
theorem Ac6 (cs:List Ad):Fd cs cs.length=HF cs []:=by
 unfold Fd;rw [jj,YX]
theorem cz (cs:List Ad):∀i,(Fd cs i).length<=i
 | 0=>by simp [Fd]
 | i+1=>by
  have a:=cz cs i;cases h:cs[i]? with
  | none=>
   unfold Fd at a ⊢;rw [YU,h];simp only [Option.toList,Xg];omega
  | some c=>
   rw [aa h]
   split
   ·omega
   ·rw [X9];simp;omega
theorem cF (cs:List Ad)(r:Ad):cs.any (λ c=>decide (c=r))=decide (r∈cs):=by
 rw [xv,List.any_eq_true,decide_eq_true_iff]
 constructor
 ·rintro ⟨c,hc,e⟩
  rw [decide_eq_true_iff] at e;exact e▸hc
 ·intro h;exact ⟨r,h,by simp⟩
def uR:List Zh->Zh->Prop:=λ ds d=>∃p q,ds=[Ak p,Ak q]/\Sm p/\Sm q/\p<=q/\d=.bool true
def Ab9:List Zh->Zh->Prop:=λ ds d=>∃x n,ds=[Ia x]/\x.ok/\x.bd n/\n<=4000/\d=.bool true
def z6:List Zh->Zh->Prop:=λ ds d=>∃x n,ds=[Ia x]/\x.ok/\x.bd n/\n<=4000/\d=.none
def vL:List Zh->Zh->Prop:=λ ds d=>∃x,ds=[Ia x]/\d=Hs (En x)
def AN6:List Zh->Zh->Prop:=λ ds d=>∃l n M,ds=[FN l]/\LimB n M l/\n<=4000/\M<=4000/\d=.list [Ig (Jb l),Ig (Oi l)]
def Ae6:List Zh->Zh->Prop:=λ ds d=>∃e r n M c,ds=[Ig e,BZ r]/\EdS n M e/\Rn c r/\2 * (c+n)+M+2<=4000/\d=Ak (Ai e r)
def AW2:List Zh->Zh->Prop:=λ ds d=>∃p q x y c k,ds=[BZ p,BZ q,Ak x,Ak y]/\Rn c p/\Rn c q/\Bd k x/\Bd k y/\x - y≠0/\3 * k+2 * c+2<=4000/\d=BZ (Bf (x / (x - y)) p q)
def AR4:List Zh->Zh->Prop:=λ ds d=>∃e ps n M c,ds=[Ig e,Hs ps]/\EdS n M e/\(∀p∈ps,Rn c p)/\3 * (2 * (c+n)+M+2)+2 * c+2<=4000/\ps.length<=200/\d=Hs (Dm e ps)
inductive AK2 (K:FrG)(vs:List V)(H:Hp)(Q:VK)(z3:XK):Prop | mk (v:V) (cs:List Ad) (n:Nat) (_:vs=[v]) (_:DV K H v (Hs cs)) (_:(∀c∈cs,Rn n c)) (_:n<=4000) (_:cs.length<=200) (_:∀l rs H',Same H H'->H l=none->H' l=some (.lst rs)->DVs K H' rs ((JS cs).map BZ)->Q (.ref l) H')
inductive yS (K:FrG)(vs:List V)(H:Hp)(Q:VK)(z3:XK):Prop | mk (v u:V) (ps:List Pc) (x:Box) (m n M:Nat) (_:vs=[v,u]) (_:DV K H v (Dg ps)) (_:DV K H u (Ia x)) (_:Good m ps) (_:2+ps.length * (m+1)+m<=3900) (_:FieldOk n M (Bv ps) x) (_:38 * n+19 * M+16<=4000) (_:∀l rs H',Same H H'->H l=none->H' l=some (.lst rs)->DVs K H' rs ((GK (Bv ps) x).map BZ)->Q (.ref l) H')
theorem DV.t4b {K:FrG}{H:Hp}{v:V}{x:Box}(h:DV K H v (Ia x)):∃a e f g i,v=.ref a/\SqT K H a [e,f,g,i]/\DV K H e (Ak x.a)/\DV K H f (Ak x.b)/\DV K H g (Ak x.c)/\DV K H i (Ak x.d):=by
 obtain ⟨a,xs,rfl,ha,j⟩:=DV.tup_of h;obtain ⟨e,f,g,i,rfl,k,l,m,n⟩:=j.four;exact ⟨a,e,f,g,i,rfl,ha,k,l,m,n⟩
theorem DV.t3e {K:FrG}{H:Hp}{v:V}{e:Be}(h:DV K H v (Ig e)):∃a x y z,v=.ref a/\SqT K H a [x,y,z]/\DV K H x (Ak e.1)/\DV K H y (Ak e.2.1)/\DV K H z (Ak e.2.2):=by
 obtain ⟨a,xs,rfl,ha,b⟩:=DV.tup_of h;obtain ⟨x,y,z,rfl,c,d,f⟩:=b.three;exact ⟨a,x,y,z,rfl,ha,c,d,f⟩
theorem pD {K:FrG}{H:Hp}{v:V}{q:Rat}(h:DV K H v (Ak q)):∃a,v=.ref a/\SqT K H a [.int q.num,.int (q.den:Int)]:=by
 obtain ⟨a,xs,rfl,ha,b⟩:=DV.tup_of h;obtain ⟨x,y,rfl,c,d⟩:=b.two;obtain rfl:=c.int_of;obtain rfl:=d.int_of;exact ⟨a,rfl,ha⟩
theorem Wc {K:FrG}{H:Hp}{a:List V}{ps:List Ad}{e:Be}(h:DVs K H a ((ps.map (Ai e)).map Ak)){i:Nat}(hi:i < ps.length):∃v,a[i]?=some v/\DV K H v (Ak (Ai e (Ck ps i))):=by
 have hl:=h.len;rw [Y2,Y2] at hl;obtain ⟨d,hd,hv⟩:=h.get (i:=i) (Yi (show i < a.length by omega))
 rw [Yf,Yf,Yi hi] at hd;have e1:Ck ps i=ps[i]:=Tu (Yi hi);cases hd
 rw [e1];exact ⟨_,Yi (show i < a.length by omega),hv⟩
theorem AW1 {K:FrG}{H:Hp}{a:List V}{ps:List Ad}{e:Be}(h:DVs K H a ((ps.map (Ai e)).map Ak)){i:Nat}(hi:i < ps.length):∃v,atI a ((i:Int) - 1)=some v/\DV K H v (Ak (Ai e (Ey ps i))):=by
 have hl:=h.len;rw [Y2,Y2] at hl;cases i with
 | zero=>
  obtain ⟨v,hv,hd⟩:=Wc h (i:=ps.length - 1) ∅
  refine ⟨v,?_,hd⟩;rw [show (((0:Nat):Int) - 1)=-1 from rfl]
  exact m9 (by rw [hl];exact hv)
 | succ j=>
  obtain ⟨v,hv,hd⟩:=Wc h (i:=j) ∅
  refine ⟨v,?_,hd⟩;rw [show (((j+1:Nat):Int) - 1)=(j:Int) by omega]
  exact Bu hv
theorem AX6 {K:FrG}{H b:Hp}(s:Gn H b){a:Addr}{xs:List V}(h:SqT K H a xs):SqT K b a xs:=by
 rcases h with (h | ⟨o,h⟩) | h
 ·exact .inl (.inl ((s _ _).1 h))
 ·exact .inl (.inr ⟨o,(s _ _).2 o h⟩)
 ·exact .inr h
end Lib
namespace L2
open PySem PySem.Spec PyProof.Rows PySem.Builtin
end L2
namespace Lib
open PySem L2 Fr Op
theorem lL {ps:List Pc}{x:Box}{n M:Nat}(h:FieldOk n M (Bv ps) x):(GK (Bv ps) x).length<=4+2 * ps.length:=by
 have a:=h.poly.len;have b:=ak ps 0 e1 e2;unfold Bv at a ⊢;omega
end Lib
namespace L2
open PySem PySem.Spec PyProof.Rows PySem.Builtin
end L2
namespace Op
open Fr
end Op
namespace Lib
open PySem L2 Fr Op
end Lib
namespace Op
open Fr
end Op
namespace Lib
open PySem L2 Fr Op
end Lib
namespace Op
open Fr
end Op
namespace Lib
open PySem L2 Fr Op
theorem pB:∀(ps:List Pc) (i:Nat) (h s:Ad) (l:Lim),l∈Fl i ps h s->∃(k:Nat) (lo hi:Rat),ps[k]?=some (.stop lo hi)/\l=⟨i+k,(BW (ps.take k) h).1,(BW (ps.take k) s).1,lo,hi⟩
 | [],i,h,s,l,hl=>nomatch hl
 | p::ps,i,h,s,l,hl=>by
  rcases YT.mp (show l∈lim1 i p h s++Fl (i+1) ps (p.bent h) (p.bent s) from hl) with a | a
  ·cases p with
   | gap d=>cases a
   | glass d=>cases a
   | stop lo hi=>exact ⟨0,lo,hi,rfl,X8.mp a⟩
  ·obtain ⟨k,lo,hi,e1,e2⟩:=pB ps (i+1) (p.bent h) (p.bent s) l a;refine ⟨k+1,lo,hi,e1,?_⟩;rw [e2,show i+1+k=i+(k+1) by omega]
   rfl
theorem uY {ps:List Pc}{l:Lim}(hl:l∈Bv ps):∃(k:Nat) (lo hi:Rat),ps[k]?=some (.stop lo hi)/\l=⟨k,(tabOf (ps.take k)).a,(tabOf (ps.take k)).b,lo,hi⟩:=by
 obtain ⟨k,lo,hi,e1,e2⟩:=pB ps 0 Op.e1 Op.e2 l hl;rw [Nat.zero_add] at e2;exact ⟨k,lo,hi,e1,e2⟩
theorem qu (ps:List Pc):tabOf (YC ps)=tabOf ps:=by
 unfold tabOf;rw [o6,o6]
theorem uH {m M:Nat}{ps:List Pc}(h:∀p∈ps,p.fd m M):Tq (1+ps.length * (m+2)) (tabOf ps):=by
 rw [<- qu];have hb:∀p∈YC ps,p.bd m:=λ p a=>by
  obtain ⟨b,c⟩:=Uw.mp a;have:=h p b;cases p with
  | gap d=>exact this
  | glass d=>exact this
  | stop lo hi=>cases c
 exact (W2 hb).mono (Nat.add_le_add_left (ZH _ (QL _ _)) 1)
theorem AI2 {k x y:Rat}(a:k≠0)(b:¬ y=0):x / y=(k * x) / (k * y):=by grind
theorem gZ {a b lo h s:Rat}{n M m:Nat}{t:Tab}(o:Tq n t)(p:a=t.a)(q:b=t.b)(bl:Bd M lo)(d:Bd m h)(bs:Bd m s)(e:¬ a * s+b=0):Bd (n+M+2 * m+1) ((lo - a * h) / (a * s+b)):=by
 obtain ⟨N,A,r,C,R,u,v,f,w,L,O,e1,e2,P,Q⟩:=o.ex;rw [<- p] at e1;rw [<- q] at e2;have x:=cM u;have g:=Fx lo;have y:=Fx h;have ns:=Fx s;have dl:(lo.den:Rat)≠0:=λ z=>lo.den_nz (by exact_mod_cast z)
 have B:(h.den:Rat)≠0:=λ z=>h.den_nz (by exact_mod_cast z)
 have ds:(s.den:Rat)≠0:=λ z=>s.den_nz (by exact_mod_cast z)
 have i:(((lo.num * N * (h.den:Int) - A * h.num * (lo.den:Int)) * (s.den:Int):Int):Rat)=(lo.den:Rat) * (N:Rat) * (h.den:Rat) * (s.den:Rat) * (lo - a * h):=by
  rw [YI,Rat.intCast_sub,YI,YI,YI,YI,XI,XI,XI,<- e1,<- g,<- y]
  grind
 have c:(((lo.den:Int) * (h.den:Int) * (A * s.num+r * (s.den:Int)):Int):Rat)=(lo.den:Rat) * (N:Rat) * (h.den:Rat) * (s.den:Rat) * (a * s+b):=by
  rw [YI,YI,xy,YI,YI,XI,XI,XI,<- e1,<- e2,<- ns]
  grind
 generalize D:(lo.num * N * (h.den:Int) - A * h.num * (lo.den:Int)) * (s.den:Int)=X at i;generalize E:(lo.den:Int) * (h.den:Int) * (A * s.num+r * (s.den:Int))=F at c;have j:(lo.den:Rat) * (N:Rat) * (h.den:Rat) * (s.den:Rat)≠0:=by
  intro z;rcases xz.mp z with z | z
  ·rcases xz.mp z with z | z
   ·rcases xz.mp z with z | z
    ·exact dl z
    ·exact x z
   ·exact B z
  ·exact ds z
 have G:F≠0:=λ z=>by
  rw [z] at c;have c:(0:Rat)=(lo.den:Rat) * (N:Rat) * (h.den:Rat) * (s.den:Rat) * (a * s+b):=c;rcases xz.mp c.symm with z | z
  ·exact j z
  ·exact e z
 have eq:(lo - a * h) / (a * s+b)=YV X F:=by
  rw [UY,i,c];exact AI2 j e
 rw [eq];have H:(A * s.num).natAbs < 2 ^ (n+m):=Cz f bs.n;have I:(r * (s.den:Int)).natAbs < 2 ^ (n+m):=Cz w bs.dn;have J:(lo.num * N * (h.den:Int)).natAbs < 2 ^ (M+n+m):=Cz (Cz bl.n v) d.dn;have K:(A * h.num * (lo.den:Int)).natAbs < 2 ^ (M+n+m):=Y4 (Cz (Cz f d.n) bl.dn) (DP ∅)
 have k:X.natAbs < 2 ^ (n+M+2 * m+1):=by
  rw [<- D];refine Y4 (Cz (m:=M+n+m+1) (n:=m) ?_ bs.dn) (DP ∅)
  rw [jC];omega
 have l:F.natAbs < 2 ^ (n+M+2 * m+1):=by
  rw [<- E];refine Y4 (Cz (m:=M+m) (n:=n+m+1) (Cz bl.dn d.dn) ?_) (DP ∅)
  rw [jC];omega
 exact Bd.of G k l
theorem uK {m M c:Nat}{ps:List Pc}{h s:Rat}(fd:∀p∈ps,p.fd m M)(b:Bd c h)(bs:Bd c s):∀q∈Fb (Bv ps) h s,Bd (1+(ps.length - 1) * (m+2)+M+2 * c+1) q:=λ q a=>by
 obtain ⟨l,hl,a⟩:=Fu.mp a;obtain ⟨k,lo,hi,d,e⟩:=uY hl;have j:=CQ d;have f:=fd _ (ZI d);have tq:Tq (1+(ps.length - 1) * (m+2)) (tabOf (ps.take k)):=(uH (m:=m) (M:=M) λ p i=>fd p (ua i)).mono (by
  rw [YG];exact Nat.add_le_add_left (ZH _ ∅) 1)
 split at a
 ·cases a
 ·rename_i g
  subst e;simp only [X1,ZN,or_false] at a;rcases a with rfl | rfl
  ·exact gZ tq rfl rfl f.1 b bs g
  ·exact gZ tq rfl rfl f.2 b bs g
structure LpV (x:Lamp):Prop where
 h:Bd 12 x.h
 s:Bd 12 x.s
 f:Bd 160 x.f
 l:Bd 160 x.l
 o:¬ x.l < x.f
theorem Jw {t:Tab}{x:Lamp}(e:Tb 154 t)(f:LpV x):Bd 321 (spread t x.s).1/\Bd 321 (spread t x.s).2:=⟨((e.a.mul f.s).add e.b).mono ⋯,((e.c.mul f.s).add e.d).mono ⋯⟩
theorem f9 {t:Tab}{x:Lamp}(b:Tb 154 t)(a:LpV x):Bd 642 (growing t x):=((Jw b a).2.mul (a.l.sub a.f)).mono ⋯
theorem jK {t:Tab}{x:Lamp}(a:Tb 154 t)(b:LpV x)(h:growing t x≠0):Bd 644 (mid t x.s):=by
 have c:(spread t x.s).2≠0:=λ z=>h (by unfold growing;rw [z,yi])
 exact ((Ed 1 ⋯).sub ((Jw a b).1.div (Jw a b).2 c)).mono ⋯
theorem mW {t:Tab}{x:Lamp}{m:Rat}(a:Tb 154 t)(b:LpV x)(h:growing t x≠0)(c:Bd 40 m):Bd 682 (reach t x m):=(c.div (Lg (f9 a b)) λ z=>h (ab_zero.mp z)).mono ⋯
theorem rR {t:Tab}{x:Lamp}{T:Rat}{k:Nat}(b:Tb 154 t)(a:LpV x)(c:Bd k T):Bd (964+k) (HQ t x T):=by
 rw [AZ3];exact ((Lg ((Jw b a).1.add (c.mul (Jw b a).2))).mul (Lg (a.l.sub a.f))).mono ∅
def Aa6:List Zh->Zh->Prop:=λ ds d=>∃ps x m,ds=[Dg ps,pairD x.h x.s,pairD x.f x.l,Ak m]/\Good 18 ps/\ps.length<=8/\LpV x/\0<=m/\Bd 40 m/\d=Pa (tabOf ps) x m
end Lib
namespace L2
open PySem PySem.Spec PyProof.Rows PySem.Builtin PySem.Builtin.Str
theorem gD:∀{zs:List Str} {its:List Value},Vals (zs.map V.str) its->∃l:List (Str×Tok),strValues l=its/\l.map (·.1)=zs
 | [],_,.nil=>⟨[],rfl,rfl⟩
 | z::zs,_,.cons h r=>by
  obtain ⟨t,rfl⟩:=h;obtain ⟨l,a,b⟩:=gD r;exact ⟨(z,t)::l,by show _::strValues l=_;rw [a],by show z::_=_;rw [b]⟩
inductive rJoin (x:V)(vs:List V)(H:Hp)(Q:VK):Prop | mk (sep:Str) (l:Addr) (zs:List Str) (_:x=.str sep) (_:vs=[.ref l]) (_:H l=some (.lst (zs.map V.str))) (_:JoinOk sep zs=true) (_:Q (.str (FB sep zs)) H)
theorem Hn {X:Cx}:MtM X "str.join" rJoin:=by
 intro a s j H x vs v us Q g b c h;obtain ⟨i,l,zs,rfl,rfl,d,ok,q⟩:=h;obtain ⟨t,rfl⟩:=b;obtain ⟨u,rfl,f⟩:=c.one;cases f
 obtain ⟨z,its,n,r,hl,e⟩:=g.lstM d;obtain ⟨ps,rfl,e2⟩:=gD r;exact SC.join ⟨_,e,rfl,_,rfl⟩ e2 ok λ t' k=>⟨.str _,H,g.tok _,⟨t',rfl⟩,q⟩
end L2
namespace L2
open PySem PySem.Spec PyProof.Rows PySem.Builtin
end L2
namespace Lib
open PySem L2 Fr Op
def letS:Str:="abcdefghijklmnopqrstuvwxyz"
def KY (z:Str):Bool:=!(Wp letS z 0 letS.length 1).isEmpty
def nameB (z:Str):Bool:=(decide (1<=z.length) && decide (z.length<=8)) && (QE z).all KY
def Jq:Zh->Bool
 | .str z=>nameB z
 | _=>false
theorem Ah6 {d:Zh}(h:Ow d=false):Jq d=false:=by
 cases d<;>first | rfl | cases h
def Ah0 (d:Zh):Prop:=∀z,d=.str z->z.length<=Y3
inductive t8 (K:FrG)(vs:List V)(H:Hp)(Q:VK)(z3:XK):Prop | mk (v d:_) (_:vs=[v]) (_:DV K H v d) (_:Ah0 d) (_:∀H',Same H H'->Q (.bl (Jq d)) H')
theorem wU {z:Str}(h:nameB z=true):z.length<=8:=by
 unfold nameB at h;rw [zC,zC] at h;exact of_decide_eq_true h.1.2
end Lib
namespace L2
open PySem PySem.Spec PyProof.Rows PySem.Builtin
end L2
namespace L2
open PySem PySem.Spec PyProof.Rows
end L2
namespace Lib
open PySem L2 Fr Op
theorem Nf (p:Pc):HN (Bm p)=true:=by cases p<;>rfl
structure Bx (K:FrG)(H1:Hp)(p:Addr)(ps:List Pc)(Hx:Hp):Prop where
 s:Same H1 Hx
 n:H1 p=none
 ex:∃xs,Hx p=some (.lst xs)/\DVs K Hx xs (ps.map Bm)
theorem PX {a c:Hp}{p:Addr}(s:Same a c)(n:a p=none)(o:HO):Same a (upd c p o):=λ b u e=>by
 rw [BP (Bt e n)];exact s _ _ e
theorem Bx.more {K:FrG}{b a:Hp}{p:Addr}{ps qs:List Pc}{xs zs:List V}(s:Same b a)(n:b p=none)(c:a p=some (.lst xs))(d:DVs K a xs (ps.map Bm))(e:DVs K a zs (qs.map Bm)):Bx K b p (ps++qs) (upd a p (.lst (xs++zs))):=by
 refine ⟨PX s n _,n,xs++zs,Aq,?_⟩;rw [ZB];exact Cp (Gp c _) (by rw [<- ZB];exact De Nf _) (d.append e)
end Lib
namespace L2
open PySem PySem.Spec PyProof.Rows
structure TopFnA (K:FrG)(mg:Str->Option Value)(x nm:Str)(st:Stmt):Prop where
 ex:∃(f:Addr) (fd:UH),Fun K nm nm st f fd/\mg x=some (.ref f)
theorem O7 {K:FrG}{h:Heap}{mg:Str->Option Value}{x nm:Str}{st:Stmt}{f:Addr}{b:Value}{d e:Option Addr}{g:Array (Option Value)}{kV i j cd ct:Value}(X:K.In h)(m:h.Ns ZL mg)
  (a:ZT K ZL x=some (some (.ref f))) (l:K.lookup f=some ⟨b,d,.func (YP nm nm (defArgs st) (defBody st) (defScope st) .none kV i j e cd ct),g⟩) (c:XA K cd nm=true) (k:YE K (.ref f)=true):TopFnA K mg x nm st:=
 ⟨f,_,Dw l c k,ZG X m a⟩
theorem TopFnA.calB {c:Bool}{P:YA}{w:World}{K:FrG}{mg:Str->Option Value}{base:Heap}{x nm:Str}{st:Stmt}{N ps:List Str}{k:Nat}{sp:Sp}(T:TopFnA K mg x nm st)(n:FnScope N ps (defScope st))
  (hb:∀(kV d e:Value) (g:Option Addr) (a ct:Value) (us:List Value),us.length=ps.length->ut (YP nm nm (defArgs st) (defBody st) (defScope st) .none kV d e g a ct) ⟨us,[]⟩=pure (ps.zip us))
  (len:∀vs H Q E,sp vs H Q E->vs.length=ps.length)
  (b:∀(f:Addr) (a:Value) (A:XW) (outer:List Env) (s:U2) (H:Hp) (vs:List V) (Q:VK) (E:XK),RoomB c k (A.deeper (wq nm (defScope st) s.heap.objs.size f a))->sp vs H Q E->
   ∃t,PSs (Eu c P w K mg base N nm (defScope st) f a A outer s H E) (defBody st) t/\t { nx:=λ _ h=>Q .non h,rt:=Q } (start N vs) H):CalB P w K mg base c (k+1) x ps sp:=by
 obtain ⟨f,fd,i,j⟩:=T.ex;obtain ⟨o,p,kV,d,e,g,a,ct,m,rfl,l,cd⟩:=id i.ex;exact ⟨f,_,NT l cd n len (b f a),j,i.kp,i.binds hb⟩
theorem TopFnA.calN {c:Bool}{P:YA}{w:World}{K:FrG}{mg:Str->Option Value}{base:Heap}{x nm:Str}{st:Stmt}{N ps:List Str}{k:Nat}{sp:Sp}(T:TopFnA K mg x nm st)(n:FnScope N ps (defScope st))
  (hb:∀(kV d e:Value) (g:Option Addr) (a ct:Value) (us:List Value),us.length=ps.length->ut (YP nm nm (defArgs st) (defBody st) (defScope st) .none kV d e g a ct) ⟨us,[]⟩=pure (ps.zip us))
  (len:∀vs H Q E,sp vs H Q E->vs.length=ps.length)
  (b:∀(f:Addr) (a:Value) (A:XW) (outer:List Env) (s:U2) (H:Hp) (vs:List V) (Q:VK) (E:XK),RoomB c k (A.deeper (wq nm (defScope st) s.heap.objs.size f a))->sp vs H Q E->
   ∃t,PSs (Eu c P w K mg base N nm (defScope st) f a A outer s H E).nox (defBody st) t/\t { nx:=λ _ i=>Q .non i,rt:=Q } (start N vs) H):CalB P w K mg base c (k+1) x ps sp:=
 T.calB n hb len λ f a A outer s H vs Q E j h=>by
  obtain ⟨t,l,m⟩:=b f a A outer s H vs Q E j h;exact ⟨t,l.nox,m⟩
abbrev AU6:Sp:=λ _ _ _ _=>False
theorem TopFn.not {P:YA}{w:World}{K:FrG}{mg:Str->Option Value}{base:Heap}{x:Str}{st:Stmt}{N ps:List Str}{k:Nat}(T:TopFn K mg x st)(e:FnScope N ps (defScope st))
  (hb:∀(kV a c:Value) (d:Option Addr) (b ct:Value) (us:List Value),us.length=ps.length->ut (YP x x (defArgs st) (defBody st) (defScope st) .none kV a c d b ct) ⟨us,[]⟩=pure (ps.zip us)):CalB P w K mg base true (k+1) x ps AU6:=
 T.calB e hb (λ _ _ _ _ h=>h.elim) λ _ _ _ _ _ _ _ _ _ _ h=>h.elim
section
variable {X:Cx}{c:Bool}{k:Nat}{ps:List Str}{sp:Sp}{x:Str}{p pos cpos rpos:Pos}{e:Expr}{es:List Expr}{t:TA}{h0:ExceptHandler}{hs:List ExceptHandler}
theorem fC (C:CalB X.prog X.w X.K X.mg X.base c k x ps sp)(j:RoomB c k X.A)(ha:PA X.nox (e::es) t)(l:Gl X x:=by rfl)(b:(x == ("__debug__":Str))=false:=by decide)
  (he:XE (e::es) X.env=(false,eval e X.env)::XE es X.env:=by rfl) (d:(yT cpos (XE es X.env)).any (·.1)=false:=by rfl):
  PS X (.Try [.Return (some (.Call (.Name x p) (e::es) [] cpos)) rpos] (h0::hs) [] [] pos) (λ I a H=>t a H λ vs g=>sp (vs++[]) g I.rt E0):=by
 obtain ⟨f,fd,J,m,n,hb⟩:=C.ex;intro o s a H I u h;refine wpAny_Try_except (FF (wpAny_Return_some (QI (Kc u l m ?_ b))));refine ya (h₀:=X.base) u.ok.mod.kin n (thn (PA.any ha cpos u h) λ us L ⟨vs,g,i,r,q⟩=>⟨i.kIn,?_⟩) he d
 refine thn (TF J j hb i r q λ e s' y=>?_) λ v M ⟨B,D,E,F,G⟩=>⟨B,a,D,E,F,G⟩
 obtain ⟨_,_,_,_,_,_,_,_,_,_,_,_,z⟩:=y;exact z.elim
end
inductive vH (x:V)(vs:List V)(H:Hp)(Q:VK):Prop | mk (i j:_) (_:x=.str i) (_:vs=[.str j]) (_:Q (.bl (FY i j)) H)
theorem AY4 {X:Cx}:MtM X "str.endswith" vH:=by
 intro a s e H x vs v us Q f b c h;obtain ⟨i,j,rfl,rfl,q⟩:=h;obtain ⟨t,rfl⟩:=b;obtain ⟨u,rfl,d⟩:=c.one;obtain ⟨t',rfl⟩:=d;exact SC.endswith ⟨.bl _,H,f,rfl,q⟩
end L2
namespace L2
open PySem PySem.Spec PyProof.Rows PySem.Builtin PySem.Builtin.Str
end L2
namespace Tx
open PySem PySem.NumText PySem.Builtin.Str
def dz (m:Nat):List Nat:=if m=0 then [] else dg m
theorem oK:∀d:Nat,d < 10->(MA d).toNat=48+d:=by decide
theorem jy {m:Nat}(h:0 < m):dz m=dz (m / 10)++[48+m % 10]:=by
 unfold dz;rw [if_neg ∅]
 by_cases a:m < 10
 ·rw [if_pos ∅,dg,FC a]
  show [(MA m).toNat]=_;rw [oK m a,Nat.mod_eq_of_lt a];rfl
 ·rw [if_neg ∅]
  have b:m % 10 < 10:=MM m ⋯
  have t:FT 10 (m / 10)++FT 10 (m % 10)=FT 10 (10 * (m / 10)+m % 10):=Nat.toDigits_append_toDigits ⋯ ∅ b
  rw [Nat.div_add_mod] at t;unfold dg;rw [<- t,ZB,FC b];show _++[(MA (m % 10)).toNat]=_;rw [oK _ b]
theorem Ak3 {m:Nat}(h:0 < m):dz m=dg m:=by
 unfold dz;rw [if_neg ∅]
end Tx
namespace Lib
open PySem L2 Tx PySem.NumText
end Lib
namespace Lib
end Lib
namespace L2
open PySem PySem.Spec PyProof.Rows
section
variable {X:Cx}
inductive uh (x:V)(y:V)(H:Hp)(Q:VK):Prop | mk (z n:_) (_:x=.str z) (_:y=.int n) (_:PySem.MulOk z n) (_:Q (.str (MZ z n)) H)
theorem gP:OpR X (yy .Mult) uh:=by
 intro a s c H x y v u Q d b ry h;obtain ⟨z,n,rfl,rfl,hok,q⟩:=h;obtain ⟨t,rfl⟩:=b;obtain ⟨t',rfl⟩:=ry;exact SB.mul hok λ t' k=>⟨.str _,H,d.tok _,⟨t',rfl⟩,q⟩
end
end L2
namespace Tx
open PySem PySem.NumText PySem.Builtin.Str
theorem uL (q:Rat):∀c∈sh q,(48<=c/\c<=57)\/c=45\/c=47:=λ c hc=>by
 unfold sh at hc;rcases YT.mp hc with hc | hc
 ·rcases YT.mp hc with hc | hc
  ·split at hc
   ·exact .inr (.inl (by simpa using hc))
   ·cases hc
  ·exact .inl (HW _ _ hc)
 ·split at hc
  ·cases hc
  ·rcases X1.mp hc with rfl | hc
   ·exact .inr (.inr rfl)
   ·exact .inl (HW _ _ hc)
end Tx
namespace Lib
open PySem L2 Tx PySem.NumText
end Lib
namespace Tx
open PySem PySem.Spec PySem.Builtin PySem.Builtin.Str L2 Lib Op
theorem Iw:Z7 " "=⟨#[32]⟩:=by decide+kernel
theorem dj:Z7 ";"=⟨#[59]⟩:=by decide+kernel
theorem cJ:Z7 "; "=⟨#[59,32]⟩:=by decide+kernel
theorem bw (x:Y1)(c:Nat):FY x ⟨#[c]⟩=decide ((cl x).getLast?=some c):=by
 obtain ⟨⟨l⟩⟩:=x;rcases ww l with rfl | ⟨r,a,e0⟩
 ·rfl
 ·have e1:l=r++[a]:=by rw [e0];simp
  subst e1;clear e0;have hl:(r++[a]).toArray.size=r.length+1:=by simp
  show (decide (0+1<=(r++[a]).toArray.size) && ((r++[a]).toArray.extract ((r++[a]).toArray.size - 1) ((r++[a]).toArray.size - 1+1) == #[c]))=decide ((r++[a]).getLast?=some c);rw [hl,qA,Um];by_cases h:a=c
  ·subst h;simp
  ·simp [h]
theorem oM {f c:Nat->Option Nat}:∀{l:List Nat},(∀k∈l,f k=c k)->l.filterMap f=l.filterMap c
 | [],_=>rfl
 | a::l,h=>by
  rw [zo,zo,h a ZA,oM λ k b=>h k (W1 _ b)]
theorem Ah3 (x:Y1):cl (Ug x none (some (-1)))=(cl x).dropLast:=by
 obtain ⟨⟨l⟩⟩:=x;rcases ww l with rfl | ⟨r,a,e0⟩
 ·rfl
 ·have e1:l=r++[a]:=by rw [e0];simp
  subst e1;clear e0;have e:jd none (some (-1)) 1 (r.length+1)=WC r.length:=by
   unfold jd sliceRange;simp only [show (1:Int) > 0 by decide,if_true]
   have b:max 0 (min (if (-1:Int) < 0 then -1+((r.length+1:Nat):Int) else -1) ((r.length+1:Nat):Int))=(r.length:Int):=by
    rw [if_pos ⋯]
    omega
   rw [b];have c:(if (0:Int) < (r.length:Int) then ((r.length:Int) - 0+1 - 1) / 1 else 0).toNat=r.length:=by
    split<;>simp<;>omega
   rw [c];refine (jp λ k _=>?_).trans (List.map_id _)
   simp
  have hl:(US (r++[a]).toArray).length=r.length+1:=by
   show (r++[a]).toArray.size=_;simp
  show cl (Ug (US (r++[a]).toArray) none (some (-1)))=(r++[a]).dropLast;unfold Ug;rw [hl,e];rw [if_neg (by simp)]
  show ((((WC r.length)).filterMap (λ k=>(r++[a]).toArray[k]?)).toArray).toList=_
  rw [zv,NS];have e2:(WC r.length).filterMap (λ k=>(r++[a]).toArray[k]?)=(WC r.length).filterMap (λ k=>r[k]?):=by
   refine oM λ k d=>?_
   have:=List.mem_range.mp d;simp [UD this]
  rw [e2,aD]
def wd:Pc->Y1
 | .gap _=>Z7 "gap"
 | .glass _=>Z7 "glass"
 | .stop _ _=>Z7 "stop"
def fracs:Pc->List Rat
 | .gap q=>[q]
 | .glass q=>[q]
 | .stop lo hi=>[lo,hi]
def toks (p:Pc):List Y1:=wd p::(fracs p).map Ay
def El:Pc->List Y1
 | .gap q=>[Z7 "gap",Ay q++⟨#[59]⟩]
 | .glass q=>[Z7 "glass",Ay q++⟨#[59]⟩]
 | .stop lo hi=>[Z7 "stop",Ay lo,Ay hi++⟨#[59]⟩]
def EY:List Pc->List Y1
 | []=>[]
 | [p]=>toks p
 | p::q::r=>El p++EY (q::r)
def Fe:List Pc->List Y1
 | []=>[]
 | [p]=>toks p
 | p::q::r=>toks p++Z7 ";"::Fe (q::r)
def CV (p:Pc):Y1:=FB (Z7 " ") (toks p)
def CK (ps:List Pc):Y1:=FB (Z7 "; ") (ps.map CV)
theorem Ud:∀(q:Pc) (r:List Pc),∃t a,EY (q::r)=t::a
 | .gap _,[]=>⟨_,_,rfl⟩
 | .glass _,[]=>⟨_,_,rfl⟩
 | .stop _ _,[]=>⟨_,_,rfl⟩
 | .gap _,_::_=>⟨_,_,rfl⟩
 | .glass _,_::_=>⟨_,_,rfl⟩
 | .stop _ _,_::_=>⟨_,_,rfl⟩
theorem Ew (a:Y1)(l:List Y1):FB a l=Yk a l:=StrLaws.glued_eq_join _ _
theorem Q5:∀(ps:List Pc),ps≠[]->CK ps=Yk ⟨#[32]⟩ (EY ps)
 | [],h=>absurd rfl h
 | [p],_=>by
  show FB _ [CV p]=_;rw [Ew];show CV p=_;unfold CV;rw [Ew,Iw];rfl
 | p::q::r,_=>by
  have d:=Q5 (q::r) (by simp)
  obtain ⟨t,c,e⟩:=Ud q r;have e1:CK (p::q::r)=CV p++Z7 "; "++CK (q::r):=by
   unfold CK;rw [Ew,Ew];rfl
  rw [e1,d];show _=Yk ⟨#[32]⟩ (El p++EY (q::r));rw [e]
  apply ext
  rw [By,By];unfold CV;rw [Ew,Iw,cJ];have two:∀x y:Y1,Yk ⟨#[32]⟩ [x,y]=x++⟨#[32]⟩++y:=λ _ _=>rfl
  have three:∀x y z:Y1,Yk ⟨#[32]⟩ [x,y,z]=x++⟨#[32]⟩++(y++⟨#[32]⟩++z):=λ _ _ _=>rfl
  cases p with
  | gap a=>
   show cl (Yk ⟨#[32]⟩ [Z7 "gap",Ay a])++_++_=cl (Z7 "gap"++⟨#[32]⟩++((Ay a++⟨#[59]⟩)++⟨#[32]⟩++Yk ⟨#[32]⟩ (t::c)));rw [two];simp only [By,XB];rfl
  | glass a=>
   show cl (Yk ⟨#[32]⟩ [Z7 "glass",Ay a])++_++_=cl (Z7 "glass"++⟨#[32]⟩++((Ay a++⟨#[59]⟩)++⟨#[32]⟩++Yk ⟨#[32]⟩ (t::c)));rw [two];simp only [By,XB];rfl
  | stop a b=>
   show cl (Yk ⟨#[32]⟩ [Z7 "stop",Ay a,Ay b])++_++_=cl (Z7 "stop"++⟨#[32]⟩++(Ay a++⟨#[32]⟩++((Ay b++⟨#[59]⟩)++⟨#[32]⟩++Yk ⟨#[32]⟩ (t::c))));rw [three];simp only [By,XB];rfl
theorem Lp (q:Rat)(c:Nat)(h:¬ ((48<=c/\c<=57)\/c=45\/c=47)):c∉cl (Ay q):=λ m=>h (uL q c (by rw [<- Iv];exact m))
theorem xW:∀(ps:List Pc),∀t∈EY ps,32∉cl t:=by
 have one:∀p:Pc,(∀t∈toks p,32∉cl t)/\∀t∈El p,32∉cl t:=by
  have e:∀q:Rat,32∉cl (Ay q++⟨#[59]⟩):=λ q m=>by
   rw [By] at m;rcases YT.mp m with m | m
   ·exact Lp q 32 ∅ m
   ·exact absurd m ⋯
  intro p;cases p<;>refine ⟨λ t a=>?_,λ t a=>?_⟩<;>simp only [toks,El,wd,fracs,YJ,jx,X1,ZN,or_false] at a
  all_goals first
   | (rcases a with rfl | rfl | rfl)
   | (rcases a with rfl | rfl)
  all_goals first
   | exact Lp _ 32 ∅
   | exact e _
   | decide+kernel
 intro ps
 induction ps with
 | nil=>intro t a;cases a
 | cons p r b=>
  cases r with
  | nil=>exact (one p).1
  | cons q r=>
   intro t a;rcases YT.mp (show t∈El p++EY (q::r) from a) with h | h
   ·exact (one p).2 t h
   ·exact b t h
theorem Z9:∀{a b:List Y1},a.map cl=b.map cl->a=b
 | [],[],_=>rfl
 | [],_::_,h=>by cases h
 | _::_,[],h=>by cases h
 | x::a,y::b,h=>by
  rw [YJ,YJ] at h;have c:=WH h;rw [ext c.1,Z9 c.2]
theorem iI {ps:List Pc}(h:ps≠[]):Xt (CK ps) (Z7 " ")=EY ps:=by
 refine Z9 ?_;rw [Iw,KD,Q5 ps h];refine Px (λ e=>?_) (xW ps)
 cases ps with
 | nil=>exact h rfl
 | cons q r=>
  obtain ⟨t,b,a⟩:=Ud q r;rw [a] at e;cases e
def Eo (w:Y1):List Y1:=if FY w (Z7 ";")=true then [Ug w none (some (-1)),Z7 ";"] else [w]
def DR (a:List Y1):List Y1:=(a.map Eo).flatten
theorem Pn {w:Y1}(h:59∉cl w):Eo w=[w]:=by
 unfold Eo;rw [if_neg];rw [dj,bw,decide_eq_true_eq];intro e;exact h (ui e)
theorem uB (w:Y1):Eo (w++⟨#[59]⟩)=[w,Z7 ";"]:=by
 have e:cl (w++⟨#[59]⟩)=cl w++[59]:=By _ _;unfold Eo;rw [if_pos]
 ·have:Ug (w++⟨#[59]⟩) none (some (-1))=w:=ext (by rw [Ah3,e,NS])
  rw [this]
 ·rw [dj,bw,e,Um];exact ζ rfl
theorem vC:∀(ps:List Pc),ps≠[]->DR (EY ps)=Fe ps:=by
 have c:Eo (Z7 "gap")=[Z7 "gap"]:=Pn (by decide+kernel)
 have a:Eo (Z7 "glass")=[Z7 "glass"]:=Pn (by decide+kernel)
 have st:Eo (Z7 "stop")=[Z7 "stop"]:=Pn (by decide+kernel)
 have s:∀q:Rat,Eo (Ay q)=[Ay q]:=λ q=>Pn (Lp q 59 ∅)
 have one:∀p:Pc,DR (toks p)=toks p/\DR (El p)=toks p++[Z7 ";"]:=by
  intro p;cases p<;>refine ⟨?_,?_⟩<;>simp only [DR,toks,El,wd,fracs,YJ,jx,QY,List.flatten_nil,c,a,st,s,uB]<;>rfl
 intro ps
 induction ps with
 | nil=>intro h;exact absurd rfl h
 | cons p r b=>
  intro _;cases r with
  | nil=>exact (one p).1
  | cons q r=>
   show DR (El p++EY (q::r))=toks p++Z7 ";"::Fe (q::r);have e:DR (El p++EY (q::r))=DR (El p)++DR (EY (q::r)):=by
    unfold DR;rw [ZB,List.flatten_append]
   rw [e,(one p).2,b (by simp),XB]
   rfl
end Tx
namespace Lib
open PySem L2 Fr Op Tx
abbrev DK (C a b:Addr)(i:Nat):HO:=.ins C a [("words",.ref b),("place",.int (i:Int))]
structure RdAt (C a dx wl:Addr)(ws:List Str)(i:Nat)(H:Hp):Prop where
 r:H a=some (DK C dx wl i)
 w:H wl=some (.lst (ws.map V.str))
 le:ws.length<=50000
theorem RdAt.keep {C a b c:Addr}{d:List Str}{i:Nat}{H e:Hp}(h:RdAt C a b c d i H)(s:Same H e):RdAt C a b c d i e:=⟨s _ _ h.r,s _ _ h.w,h.le⟩
theorem RdAt.ne {C a d b:Addr}{f:List Str}{i:Nat}{H:Hp}(h:RdAt C a d b f i H):b≠a:=λ e=>by
 have g:=h.r;have c:=h.w;rw [e,g] at c;cases c
theorem RdAt.step {C a b c:Addr}{d:List Str}{i:Nat}{H:Hp}(h:RdAt C a b c d i H)(j:Nat):RdAt C a b c d j (upd H a (DK C b c j)):=⟨Aq,by rw [BP h.ne];exact h.w,h.le⟩
theorem Im {a:Addr}{H:Hp}(o:HO):SD a H (upd H a o):=λ b u n e=>by rw [BP n];exact e
theorem SD.ofSame {a:Addr}{H c:Hp}(s:Same H c):SD a H c:=λ b u _ e=>s _ _ e
theorem VB {C a d f:Addr}{i:Nat}{H c:Hp}(h:H a=some (DK C d f i))(s:SD a H c):Gn H c:=λ b g=>⟨λ e=>s b _ (λ z=>by rw [z,h] at e;cases e) e,λ o e=>s b _ (λ z=>by rw [z,h] at e;cases e) e⟩
theorem Y9 {n:Nat}(h:n<=50000):n < Y3:=xB h ⋯
inductive zj (C:Addr)(vs:List V)(H:Hp)(Q:VK)(z3:XK):Prop | mk (a dx wl:_) (_:vs=[.ref a,.ref wl]) (_:H a=some (.ins C dx [])) (_:Q .non (upd H a (DK C dx wl 0)))
inductive AJ8 (C:Addr)(vs:List V)(H:Hp)(Q:VK)(z3:XK):Prop | mk (a dx wl ws i:_) (_:vs=[.ref a]) (_:RdAt C a dx wl ws i H) (_:Q (.bl (decide (i=ws.length))) H)
inductive yW (C:Addr)(vs:List V)(H:Hp)(Q:VK)(z3:XK):Prop | mk (a dx wl ws i z:_) (_:vs=[.ref a]) (_:RdAt C a dx wl ws i H) (_:ws[i]?=some z) (_:Q (.str z) (upd H a (DK C dx wl (i+1))))
inductive yL (C:Addr)(vs:List V)(H:Hp)(Q:VK)(z3:XK):Prop | mk (a dx wl ws i z:_) (_:vs=[.ref a,.str z]) (_:RdAt C a dx wl ws i H) (_:i<=ws.length) (_:(ws[i]?=some z->Q (.bl true) (upd H a (DK C dx wl (i+1))))) (_:(ws[i]?≠some z->Q (.bl false) H))
inductive vA (vs:List V)(H:Hp)(Q:VK)(z3:XK):Prop | mk (x:Str) (_:vs=[.str x]) (_:x.length+2<=Y3) (_:(Xt x (Z7 " ")).length<=20001) (_:(∀w∈Xt x (Z7 " "),w.length<=50000)) (_:∀l H',Same H H'->H l=none->H' l=some (.lst ((DR (Xt x (Z7 " "))).map V.str))->Q (.ref l) H')
inductive uU (vs:List V)(H:Hp)(Q:VK)(z3:XK):Prop | mk (x:Str) (m:Nat) (_:vs=[.str x]) (_:cl x=dg m) (_:(dg m).length<=15) (_:∀H',Same H H'->Q (.int (m:Int)) H')
inductive Uy (K:FrG)(vs:List V)(H:Hp)(Q:VK)(z3:XK):Prop | mk (q:Rat) (_:vs=[.str (Ay q)]) (_:Short q) (_:∀v H',Same H H'->DV K H' v (Ak q)->Q v H')
def Et (p:Pc):Prop:=p.ok/\∀q∈fracs p,Short q
inductive ux (K:FrG)(C:Addr)(vs:List V)(H:Hp)(Q:VK)(z3:XK):Prop | mk (a dx wl:Addr) (ws:List Str) (i:Nat) (p:Pc) (dp:Int) (_:vs=[.ref a,.int dp]) (_:RdAt C a dx wl ws i H) (_:(∀j t,(toks p)[j]?=some t->ws[i+j]?=some t)) (_:Et p) (_:∀v H',SD a H H'->RdAt C a dx wl ws (i+(toks p).length) H'->DV K H' v (Bm p)->Q v H')
inductive tD (K:FrG)(C:Addr)(vs:List V)(H:Hp)(Q:VK)(z3:XK):Prop | mk (a dx wl:Addr) (ws:List Str) (ps:List Pc) (dp:Int) (_:vs=[.ref a,.int dp]) (_:RdAt C a dx wl ws 0 H) (_:ws=Fe ps) (_:ps≠[]) (_:ps.length<=60) (_:(∀p∈ps,Et p)) (_:∀l xs H',SD a H H'->H l=none->RdAt C a dx wl ws ws.length H'->H' l=some (.lst xs)->DVs K H' xs (ps.map Bm)->Q (.ref l) H')
inductive Ad8 (K:FrG)(vs:List V)(H:Hp)(Q:VK)(z3:XK):Prop | mk (v:V) (ps:List Pc) (_:vs=[v]) (_:DV K H v (Dg ps)) (_:Q (.int (ps.length:Int)) H)
inductive uO (K:FrG)(vs:List V)(H:Hp)(Q:VK)(z3:XK):Prop | mk (v:V) (ps:List Pc) (_:vs=[v]) (_:DV K H v (Dg ps)) (_:ps.length<=60) (_:∀l xs H',Same H H'->H l=none->H' l=some (.lst xs)->DVs K H' xs (ps.map Bm)->Q (.ref l) H')
inductive wN (K:FrG)(vs:List V)(H:Hp)(Q:VK)(z3:XK):Prop | mk (ps:List Pc) (_:vs=[.str (CK ps)]) (_:ps.length<=60) (_:(∀p∈ps,Et p)) (_:∀l xs H',Same H H'->H l=none->H' l=some (.lst xs)->DVs K H' xs (ps.map Bm)->Q (.ref l) H')
theorem Ht (p:Pc):(toks p).length<=3/\2<=(toks p).length:=by cases p<;>exact ⟨by simp [toks,fracs],by simp [toks,fracs]⟩
theorem QD {q:Rat}(h:Short q):(Ay q).length<=40:=by rw [<- Du,Iv];exact kY q h
theorem yZ (p q:Pc)(r:List Pc):Fe (p::q::r)=toks p++Z7 ";"::Fe (q::r):=rfl
theorem jW:∀ps:List Pc,(Fe ps).length<=4 * ps.length
 | []=>by decide
 | [p]=>by have:=Ht p;show (toks p).length<=4 * 1;omega
 | p::q::r=>by
  rw [yZ,X9,X2];have:=Ht p;have:=jW (q::r);simp only [X2] at *;omega
theorem xN (p:Pc):(El p).length<=3:=by cases p<;>simp [El]
theorem YD:∀ps:List Pc,(EY ps).length<=3 * ps.length
 | []=>by decide
 | [p]=>by have:=Ht p;show (toks p).length<=3 * 1;omega
 | p::q::r=>by
  show (El p++EY (q::r)).length<=_;rw [X9];have:=xN p;have:=YD (q::r);simp only [X2] at *;omega
theorem qJ (p:Pc)(h:Et p)(t:Str)(m:t∈toks p):t.length<=50:=by
 rcases X1.mp m with rfl | m
 ·cases p with
  | gap _=>show (Z7 "gap").length<=50;decide+kernel
  | glass _=>show (Z7 "glass").length<=50;decide+kernel
  | stop _ _=>show (Z7 "stop").length<=50;decide+kernel
 ·obtain ⟨q,a,rfl⟩:=UC.mp m;have:=QD (h.2 q a);omega
theorem uD (p:Pc)(h:Et p)(t:Str)(m:t∈El p):t.length<=50:=by
 have e:∀q∈fracs p,(Ay q++(⟨#[59]⟩:Str)).length<=50:=λ q a=>by
  rw [<- Du,By,X9,Du];have:=QD (h.2 q a);show _+1<=50;omega
 have s:∀q∈fracs p,(Ay q).length<=50:=λ q a=>by have:=QD (h.2 q a);omega
 cases p<;>simp only [El,X1,ZN,or_false] at m
 ·rcases m with rfl | rfl
  ·decide+kernel
  ·exact e _ (by simp [fracs])
 ·rcases m with rfl | rfl
  ·decide+kernel
  ·exact e _ (by simp [fracs])
 ·rcases m with rfl | rfl | rfl
  ·decide+kernel
  ·exact s _ (by simp [fracs])
  ·exact e _ (by simp [fracs])
theorem Yh:∀(ps:List Pc),(∀p∈ps,Et p)->∀t∈EY ps,t.length<=50
 | [],_,t,h=>by cases h
 | [p],a,t,h=>qJ p (a p ZA) t h
 | p::q::r,a,t,h=>by
  rcases YT.mp (show t∈El p++EY (q::r) from h) with m | m
  ·exact uD p (a p ZA) t m
  ·exact Yh (q::r) (λ x b=>a x (W1 _ b)) t m
theorem iy (b:Str)(a:List Str)(c:Nat)(h:∀t∈a,t.length<=c):(Yk b a).length<=a.length * (c+b.length):=by
 have f:=Na b a;have g:(a.map (·.length)).sum<=a.length * c:=by
  induction a with
  | nil=>exact WI _
  | cons t a d=>
   rw [YJ,yQ,X2,FP];have:=h t ZA;have:=d (λ x e=>h x (W1 _ e)) (Na b a)
   omega
 rw [Nat.mul_add];omega
theorem MJ {ps:List Pc}(h:ps.length<=60)(a:∀p∈ps,Et p):(CK ps).length<=10000:=by
 cases ps with
 | nil=>decide+kernel
 | cons p r=>
  rw [Q5 _ (by simp)]
  have b:=iy ⟨#[32]⟩ (EY (p::r)) 50 (Yh _ a);have c:=YD (p::r);have d:(EY (p::r)).length * (50+(⟨#[32]⟩:Str).length)<=180 * 51:=qB ∅ ⋯
  omega
theorem jX {ps:List Pc}(h:ps≠[]):CK ps≠Z7 "":=λ e=>by
 have a:=congrArg cl e;rw [Q5 ps h] at a;cases ps with
 | nil=>exact h rfl
 | cons p r=>
  have b:cl (Yk ⟨#[32]⟩ (EY (p::r)))≠[]:=by
   cases r with
   | nil=>cases p<;>(show cl (_++_++_)≠[];rw [By,By];intro z;simp at z)
   | cons q r=>
    obtain ⟨t,d,c⟩:=Ud q r;show cl (Yk ⟨#[32]⟩ (El p++EY (q::r)))≠[];rw [c];cases p<;>(show cl (_++_++_)≠[];rw [By,By];intro z;simp at z)
  exact b a
end Lib
namespace L2
open PySem PySem.Spec PyProof.Rows
section
variable {κ:Type}[DecidableEq κ]
def valV (a:List (κ×V))(k:κ):Option V:=(a.find? λ b=>decide (b.1=k)).map (·.2)
def putK (a:List (κ×V))(k:κ)(v:V):List (κ×V):=
 if (a.any λ b=>decide (b.1=k))=true then a.map (λ b=>if b.1=k then (b.1,v) else b) else a++[(k,v)]
theorem G6 {p:κ×V}{r:List (κ×V)}{k:κ}(e:p.1=k):valV (p::r) k=some p.2:=by simp [valV,yp,e]
theorem G7 {p:κ×V}{r:List (κ×V)}{k:κ}(e:¬ p.1=k):valV (p::r) k=valV r k:=by simp [valV,yp,e]
theorem Nu (k:κ):∀a:List (κ×V),(a.any λ b=>decide (b.1=k))=(valV a k).isSome
 | []=>rfl
 | p::r=>by
  rw [JR];by_cases e:p.1=k
  ·simp only [G6 e,ζ e,Bool.true_or,Option.isSome_some]
  ·rw [G7 e,η e,Bool.false_or];exact Nu k r
theorem jm (k j:κ)(y:V):∀a:List (κ×V),valV (a.map λ b=>if b.1=k then (b.1,y) else b) j=(valV a j).map λ x=>if j=k then y else x
 | []=>rfl
 | p::r=>by
  have c:=jm k j y r;rw [YJ];by_cases h:p.1=k
  ·rw [if_pos h];by_cases e:p.1=j
   ·rw [G6 (p:=(p.1,y)) e,G6 e,uS,if_pos (e.symm.trans h)]
   ·rw [G7 (p:=(p.1,y)) e,G7 e,c]
  ·rw [if_neg h];by_cases e:p.1=j
   ·rw [G6 (p:=p) e,G6 e,uS,if_neg (λ z=>h (e.trans z))]
   ·rw [G7 (p:=p) e,G7 e,c]
theorem fH (k j:κ)(y:V):∀a:List (κ×V),valV a k=none->valV (a++[(k,y)]) j=if j=k then some y else valV a j
 | [],_=>by
  by_cases e:k=j
  ·rw [if_pos e.symm];exact G6 (p:=(k,y)) e
  ·rw [if_neg (λ z=>e z.symm)];exact G7 (p:=(k,y)) e
 | p::r,b=>by
  rw [wI];have c:¬ p.1=k:=λ z=>by rw [G6 z] at b;cases b
  rw [G7 c] at b;have d:=fH k j y r b;by_cases e:p.1=j
  ·rw [G6 e,G6 e,if_neg (λ z=>c (e.trans z))]
  ·rw [G7 e,G7 e,d]
theorem ZP (b:List (κ×V))(k j:κ)(y:V):valV (putK b k y) j=if j=k then some y else valV b j:=by
 unfold putK;by_cases a:(b.any λ c=>decide (c.1=k))=true
 ·rw [if_pos a,jm];rw [Nu] at a;by_cases e:j=k
  ·obtain ⟨x,d⟩:=GU.mp a;rw [if_pos e,e,d,uS,if_pos rfl]
  ·rw [if_neg e];cases valV b j with
   | none=>rfl
   | some x=>rw [uS,if_neg e]
 ·rw [if_neg a];refine fH k j y b ?_;rw [Nu] at a;cases q:valV b k with
  | none=>rfl
  | some x=>rw [q] at a;exact (a rfl).elim
theorem fG (a:List (κ×V))(k:κ)(v:V):(putK a k v).length<=a.length+1:=by
 unfold putK
 split
 ·rw [Y2];omega
 ·rw [X9,X2,YH];omega
theorem RelO.isSome_eq {o:Option V}{u:Option Value}(r:RelO o u):o.isSome=u.isSome:=by
 cases o with
 | none=>cases u with
  | none=>rfl
  | some _=>exact (show False from r).elim
 | some _=>cases u with
  | none=>exact (show False from r).elim
  | some _=>rfl
theorem RelO.getD {o:Option V}{u:Option Value}{d:V}{d':Value}(r:RelO o u)(a:RelV d d'):RelV (o.getD d) (u.getD d'):=by
 cases o with
 | none=>cases u with
  | none=>exact a
  | some _=>exact (show False from r).elim
 | some _=>cases u with
  | none=>exact (show False from r).elim
  | some _=>exact r
theorem KV.val {a:List (κ×V)}{vs:List (κ×Value)}(r:KV a vs)(k:κ):RelO (valV a k) (Nl vs k):=by
 unfold KV at r
 induction r with
 | nil=>exact zh
 | @cons p q ps qs h t f=>
  obtain ⟨d,g⟩:=h;by_cases e:p.1=k
  ·have c:q.1=k:=d.symm.trans e;have b:Nl (q::qs) k=some q.2:=by simp [Nl,yp,c]
   rw [G6 e,b];exact g
  ·have c:¬ q.1=k:=λ z=>e (d.trans z)
   have b:Nl (q::qs) k=Nl qs k:=by simp [Nl,yp,c]
   rw [G7 e,b];exact f
theorem KV.any {a:List (κ×V)}{vs:List (κ×Value)}(r:KV a vs)(k:κ):(a.any λ b=>decide (b.1=k))=vs.any λ b=>decide (b.1=k):=by
 unfold KV at r
 induction r with
 | nil=>rfl
 | cons h t c=>rw [JR,JR,c,h.1]
theorem KV.repl {c:List (κ×V)}{vs:List (κ×Value)}(r:KV c vs)(k:κ){y:V}{u:Value}(ry:RelV y u):
  KV (c.map λ a=>if a.1=k then (a.1,y) else a) (vs.map λ a=>if a.1=k then (a.1,u) else a):=by
 unfold KV at r ⊢
 induction r with
 | nil=>exact .nil
 | @cons p q ps qs h t d=>
  rw [YJ,YJ];refine .cons ?_ d;obtain ⟨b,f⟩:=h;by_cases e:p.1=k
  ·rw [if_pos e,if_pos (b.symm.trans e)];exact ⟨b,ry⟩
  ·rw [if_neg e,if_neg (λ z=>e (b.trans z))];exact ⟨b,f⟩
theorem KV.put {a:List (κ×V)}{vs:List (κ×Value)}(r:KV a vs)(k:κ){y:V}{u:Value}(ry:RelV y u):KV (putK a k y) (stored vs k u):=by
 unfold putK stored;rw [r.any k];by_cases e:(vs.any λ b=>decide (b.1=k))=true
 ·rw [if_pos e,if_pos e];exact r.repl k ry
 ·rw [if_neg e,if_neg e];exact xo.snoc r ⟨rfl,ry⟩
theorem KV.length {a:List (κ×V)}{vs:List (κ×Value)}(r:KV a vs):a.length=vs.length:=My r
end
theorem Jx {P:YA}{w:World}{k:Key}{u:Value}(r:RelV (kV k) u):(mixKind P w).is k u=true:=by
 cases k with
 | inl i=>obtain ⟨t,e⟩:=(show ∃t,u=jI i t from r);subst e;exact sI P w i t
 | inr x=>obtain ⟨t,e⟩:=(show ∃t,u=Md x t from r);subst e;exact bU P w x t
theorem jr {P:YA}{w:World}:∀{ks:List Key} {us:List Value},Vals (ks.map kV) us->ItemsAre (mixKind P w) ks us
 | [],_,r=>by rw [jx] at r;cases r;exact .nil
 | k::ks,_,r=>by
  rw [YJ] at r;cases r with
  | cons h t=>exact .cons (Jx h) (jr t)
abbrev KT (H:Hp):List (List Key×V)->List (List Key×Addr×Value)->Prop:=xo λ p q=>p.1=q.1/\H q.2.1=some (.tup (p.1.map kV))/\RelV p.2 q.2.2
theorem KT.val {H:Hp}{a:List (List Key×V)}{xs:List (List Key×Addr×Value)}(r:KT H a xs)(k:List Key):RelO (valV a k) ((atKey xs k).map (·.2)):=by
 induction r with
 | nil=>exact zh
 | @cons p q ps qs h t f=>
  obtain ⟨d,_,g⟩:=h;by_cases e:p.1=k
  ·have c:q.1=k:=d.symm.trans e;have b:atKey (q::qs) k=some q.2:=by simp [atKey,yp,c]
   rw [G6 e,b];exact g
  ·have c:¬ q.1=k:=λ z=>e (d.trans z)
   have b:atKey (q::qs) k=atKey qs k:=by simp [atKey,yp,c]
   rw [G7 e,b];exact f
theorem KT.repl {H:Hp}{b:List (List Key×V)}{xs:List (List Key×Addr×Value)}(r:KT H b xs)(k:List Key){y:V}{u:Value}(ry:RelV y u):
  KT H (b.map λ c=>if c.1=k then (c.1,y) else c) (xs.map (putAt k u)):=by
 induction r with
 | nil=>exact .nil
 | @cons p q ps qs h t f=>
  rw [YJ,YJ];refine .cons ?_ f;obtain ⟨a,d,g⟩:=h;unfold putAt;by_cases e:p.1=k
  ·rw [if_pos e,if_pos (a.symm.trans e)];exact ⟨a,d,ry⟩
  ·rw [if_neg e,if_neg (λ z=>e (a.trans z))];exact ⟨a,d,g⟩
theorem KT.put {H:Hp}{a:List (List Key×V)}{xs:List (List Key×Addr×Value)}(r:KT H a xs)(k:List Key){b:Addr}{y:V}{u:Value}(hb:H b=some (.tup (k.map kV)))(ry:RelV y u):
  KT H (putK a k y) (storedH xs k b u):=by
 have e:(a.any λ c=>decide (c.1=k))=(atKey xs k).isSome:=by
  rw [Nu,(r.val k).isSome_eq,Option.isSome_map]
 unfold putK storedH;rw [e];by_cases q:(atKey xs k).isSome=true
 ·rw [if_pos q,if_pos q];exact r.repl k ry
 ·rw [if_neg q,if_neg q];exact xo.snoc r ⟨rfl,hb,ry⟩
theorem KT.keeps {H c:Hp}{a:List (List Key×V)}{xs:List (List Key×Addr×Value)}(r:KT H a xs)(e:∀b d,H b=some (.tup d)->c b=some (.tup d)):KT c a xs:=
 xo.mapP r λ _ _ z=>⟨z.1,e _ _ z.2.1,z.2.2⟩
section
variable {P:YA}{w:World}{H:Hp}{h:Heap}{a:Addr}
theorem mD {u:HO}(ok:HOk P w H h)(e:Rd H a u):ObjOk P w H h a u:=e.ok ok
theorem Nh {b:List (Key×V)}(ok:HOk P w H h)(e:Rd H a (.dK b)):b.length<=Y3/\(a == Qr)=false/\∃vs,KV b vs/\h.DictOf (mixKind P w) a vs:=
 show ObjOk P w H h a (.dK b) from mD ok e
theorem AT7 {b:List (Key×V)}(ok:HOk P w H h)(e:H a=some (.dK b)):b.length<=Y3/\(a == Qr)=false/\∃vs,KV b vs/\h.DictOf (mixKind P w) a vs:=Nh ok (.inl e)
theorem Og {b:List Key}(ok:HOk P w H h)(e:H a=some (.tup (b.map kV))):(Me (mixKind P w)).is h b a:=by
 obtain ⟨_,its,r,o,c,d,n,f⟩:=(show ObjOk P w H h a (.tup (b.map kV)) from ok a _ e)
 exact ⟨o,its.toArray,n,c,d,f,by simpa using jr r⟩
theorem QX {c:List (List Key×V)}(ok:HOk P w H h)(e:Rd H a (.dT c)):c.length<=Y3/\(a == Qr)=false/\
  ∃xs,KT H c xs/\h.DictOfH (Me (mixKind P w)) a xs:=by
 obtain ⟨z,y,xs,r,o,es,f,g,i,j,k,n⟩:=(show ObjOk P w H h a (.dT c) from mD ok e)
 refine ⟨z,y,xs,r,o,es,f,g,i,j,k,λ x b=>?_,n⟩
 have all:∀{l:List (List Key×V)} {m:List (List Key×Addr×Value)},KT H l m->∀x∈m,(Me (mixKind P w)).is h x.1 x.2.1:=by
  intro l m q
  induction q with
  | nil=>intro x b;exact nomatch b
  | @cons p q ps qs d t s=>
   intro x b;rcases X1.mp b with e | b
   ·subst e;exact Og ok (by rw [<- d.1];exact d.2.1)
   ·exact s x b
 exact all r x b
theorem rA {b:List (List Key×V)}(ok:HOk P w H h)(e:H a=some (.dT b)):b.length<=Y3/\(a == Qr)=false/\
  ∃xs,KT H b xs/\h.DictOfH (Me (mixKind P w)) a xs:=QX ok (.inl e)
end
def DGet (H:Hp)(a:Addr)(y:V)(r:Option V):Prop:=
 (∃c k,Rd H a (.dK c)/\y=kV k/\r=valV c k)\/∃c k b,Rd H a (.dT c)/\y=.ref b/\H b=some (.tup (k.map kV))/\r=valV c k
def DPut (H:Hp)(a:Addr)(y v:V)(d:Hp):Prop:=
 (∃c k,H a=some (.dK c)/\y=kV k/\c.length < Y3/\d=upd H a (.dK (putK c k v)))\/
 ∃c k b,H a=some (.dT c)/\y=.ref b/\H b=some (.tup (k.map kV))/\c.length < Y3/\d=upd H a (.dT (putK c k v))
theorem DGet.k {H:Hp}{a:Addr}{b:List (Key×V)}{k:Key}(e:H a=some (.dK b)):DGet H a (kV k) (valV b k):=.inl ⟨b,k,.inl e,rfl,rfl⟩
theorem DPut.k {H:Hp}{a:Addr}{b:List (Key×V)}{k:Key}{v:V}(e:H a=some (.dK b))(hl:b.length < Y3):DPut H a (kV k) v (upd H a (.dK (putK b k v))):=.inl ⟨b,k,e,rfl,hl,rfl⟩
section
variable {X:Cx}{pins:List (Addr×Obj)}{σ:St}{H:Hp}{s:U2}{a:Addr}{y v:V}{u r:Value}{o:Option V}{A:XW}{E:Value->U2->Prop}
theorem Inv.big (b:Inv X pins σ H s):Qr < s.heap.objs.size:=by
 have h:ZL < s.heap.objs.size:=(b.mod.glob.keeps b.bk).lt;exact UU ⋯ h
theorem AL8 {Q:Value->U2->Prop}(q:A.units+1 < cLine)(j:Inv X pins σ H s)(B:DGet H a y (some v))(ry:RelV y u)(h:∀c s',Inv X pins σ H s'->RelV v c->Q c s'):
  wpAny (model X.prog X.w) A (GP (.ref a) u) Q E s:=by
 rcases B with ⟨m,k,e,g,l⟩ | ⟨m,k,b,e,g,t,l⟩
 ·subst g;obtain ⟨z,hd,vs,d,dd⟩:=Nh j.hok e;obtain ⟨c,i,f⟩:=RelO.some_of (v:=v) (o:=Nl vs k) (by rw [l];exact d.val k)
  exact wpAny_getItem_of (Jx ry) dd.mapOf i (h c _ (j.tok _) f)
 ·subst g;cases (show u=XP b from ry)
  obtain ⟨z,hd,xs,d,dd⟩:=QX j.hok e;obtain ⟨c,i,f⟩:=RelO.some_of (v:=v) (o:=(atKey xs k).map (·.2)) (by rw [l];exact d.val k)
  obtain ⟨p,x,n⟩:=yk.mp i;refine wpAny_getItem_heap (qV q) (Og j.hok t) dd x ?_;rw [n];exact h c _ (j.tok _) f
theorem uW {Q:Value->U2->Prop}(i:A.units+1 < cLine)(f:Inv X pins σ H s)(m:DGet H a y o)(ry:RelV y u)(h:∀s',Inv X pins σ H s'->Q (.bool (!o.isSome)) s'):
  wpAny (model X.prog X.w) A (Uh .NotIn u (.ref a)) Q E s:=by
 rcases m with ⟨g,k,e,d,l⟩ | ⟨g,k,b,e,d,j,l⟩
 ·subst d;obtain ⟨z,hd,vs,c,dd⟩:=Nh f.hok e;refine wpAny_notIn_of (Jx ry) hd dd.mapOf ?_;rw [<- (c.val k).isSome_eq,<- l];exact h _ (f.tok _)
 ·subst d;cases (show u=XP b from ry)
  obtain ⟨z,hd,xs,c,dd⟩:=QX f.hok e;refine wpAny_notIn_heap (qV i) (Og f.hok j) hd dd ?_;have q:=(c.val k).isSome_eq;rw [Option.isSome_map] at q;rw [<- q,<- l];exact h _ (f.tok _)
theorem jB {h':Heap}{t':Nat}{c:HO}(h:Inv X pins σ H s)(f:Mut (H a))(g:zS a s.heap h')(he:∃q,h'.get? a=some q)(d:ObjOk X.prog X.w (upd H a c) h' a c):
  Inv X pins σ (upd H a c) { s with heap:=h',toks:=t' }:=
 h.write (x:=a) (e:=a) f (.inl rfl) (λ b q hb z=>(g.2 b hb).trans z) he d
theorem yo {P:YA}{w:World}{d:Hp}{h':Heap}{b:List (Key×V)}{vs:List (Key×Value)}(z:b.length<=Y3)(hd:(a == Qr)=false)(c:KV b vs)(dd:h'.DictOf (mixKind P w) a vs):
  ObjOk P w d h' a (.dK b):=⟨z,hd,vs,c,dd⟩
theorem uy {p:Hp}{Q:Unit->U2->Prop}(D:A.units+1 < cLine)(t:Inv X pins σ H s)(L:DPut H a y v p)(ry:RelV y u)(x:RelV v r)(h:∀s',Inv X pins σ p s'->Q () s'):
  wpAny (model X.prog X.w) A (setItem (.ref a) u r) Q E s:=by
 rcases L with ⟨d,k,e,j,l,m⟩ | ⟨d,k,b,e,j,B,l,m⟩
 ·subst j m;obtain ⟨z,hd,vs,f,dd⟩:=AT7 t.hok e;have hz:vs.length<=Y3:=by rw [<- f.length];exact z
  have hl:(putK d k v).length<=Y3:=by have:=fG d k v;omega
  refine wpAny_setItem_pairs (hsz:=hz) (Jx ry) dd λ h' g n=>h _ ?_
  have he:∃q,h'.get? a=some q:=let ⟨q,_,_,i,_⟩:=g;⟨q,i⟩
  exact jB t (by rw [e];exact zh) n he (yo hl hd (f.put k x) g)
 ·subst j m;cases (show u=XP b from ry)
  obtain ⟨z,hd,xs,f,dd⟩:=rA t.hok e;have hz:xs.length<=Y3:=by rw [<- My f];exact z
  have hl:(putK d k v).length<=Y3:=by have:=fG d k v;omega
  refine wpAny_setItem_heap (hsz:=hz) (qV D) (Og t.hok B) dd λ h' g n=>h _ ?_
  obtain ⟨q,es,F,i,G,I,J,_,K⟩:=g;refine jB t (by rw [e];exact zh) n ⟨q,i⟩ ⟨hl,hd,_,(f.put k B x).keeps λ c M C=>?_,q,es,F,i,G,I,J,K⟩
  rw [BP (xF C e (λ z=>nomatch z))]
  exact C
end
def NoSl (i:Expr):Prop:=∀a b,GO i false a b=operate [a,b] (GP a b)
theorem iB {prog:YA}{w:World}{A:XW}{E:Value->U2->Prop}{s:U2}{env:Env}{b a:Expr}{pos:Pos}{T id:String}{Q:Value->U2->Prop}
  (hl:typeLookup (.type T) "__getitem__"=pure (some (.builtin id))) (m:NoSl a)
  (h:wpAny (model prog w) A (eval b env) (λ o e=>wpAny (model prog w) A (eval a env) (λ i c=>c.TypeIs o T/\wpAny (model prog w) A (GP o i) Q E c) E e) E s):
  wpAny (model prog w) A (eval (.Subscript b a pos) env) Q E s:=by
 refine Subscript_ (UZ h (λ o e j=>UZ j (λ i c d=>?_) λ _ _ x=>x) λ _ _ x=>x)
 obtain ⟨l,d⟩:=d;unfold subscriptTail;refine U1 ?_;rw [getitemInPython_of_ne l.not_modules];refine U1 (Nt l hl ?_);have f:wpAny (model prog w) A (GO a false o i) (λ r g=>wpAny (model prog w) A (letTemporaryGo b o r >>= λ _=>pure r) Q E g) E c:=by
  rw [m o i];exact wpAny_operating (UZ d (λ r g k=>U1 (wpAny_letTemporaryGo (Ya k))) λ _ _ x=>x)
 first
  | exact Ya (U1 f)
  | exact U1 (Ya (U1 f))
  | exact U1 f
theorem AX8 {X:Cx}{c:List (Addr×Obj)}{f:St}{H:Hp}{s:U2}{a:Addr}{y:V}{o:Option V}(g:Inv X c f H s)(h:DGet H a y o):s.TypeIs (.ref a) "dict":=by
 rcases h with ⟨d,k,e,_,_⟩ | ⟨d,k,b,e,_,_,_⟩
 ·obtain ⟨_,_,vs,_,dd⟩:=Nh g.hok e;exact dd.typeIs
 ·obtain ⟨_,_,xs,_,dd⟩:=QX g.hok e;exact dd.typeIs
def tDGet (d e:TE):TE:=λ b H Q=>d b H λ x f=>e b f λ y c=>∃a v,x=.ref a/\DGet c a y (some v)/\Q v c
def tDNotIn (d e:TE):TE:=λ b H Q=>d b H λ y f=>e b f λ x c=>∃a o,x=.ref a/\DGet c a y o/\Q (.bl (!o.isSome)) c
def sDPut (d e f:TE):TS:=λ j b H=>f b H λ v g=>d b g λ x h=>e b h λ y i=>∃a c,x=.ref a/\DPut i a y v c/\j.nx b c
section
variable {X:Cx}{o i e value:Expr}{pos pos' tpos:Pos}{td ty tv:TE}
theorem vJ (g:X.A.units+1 < cLine)(j:PE X o td)(hi:PE X i ty)(k:NoSl i):PE X (.Subscript o i pos) (tDGet td ty):=by
 intro b s c H Q B h;refine iB Go.lookup k (thn (j b s c H _ B h) λ u l ⟨x,m,n,p,q⟩=>thn (hi b l c m _ n q) λ C D ⟨y,r,d,ry,a,v,ex,z,t⟩=>?_)
 subst ex;obtain rfl:u=XP a:=p;exact ⟨AX8 d z,AL8 g d z ry λ E G w f=>⟨v,r,w,f,t⟩⟩
theorem AS7 (d:X.A.units+1 < cLine)(hi:PE X i ty)(f:PE X o td):PC X .NotIn i o (tDNotIn ty td):=by
 intro b s c H Q v h;refine thn (hi b s c H _ v h) λ w g ⟨y,j,k,ry,l⟩=>thn (f b g c j _ k l) λ u z ⟨x,m,n,p,a,q,ex,B,r⟩=>?_
 subst ex;obtain rfl:u=XP a:=p;exact uW d n B ry λ C t=>⟨.bl (!q.isSome),m,t,rfl,r⟩
theorem AX7 (d:X.A.units+1 < cLine)(f:PE X o td)(hi:PE X i ty)(hv:PE X value tv)(g:jS value (some (.Subscript o i pos')) pos.line X.env=pure false):
  PS X (.Assign [.Subscript o i pos'] value pos) (sDPut td ty tv):=by
 intro b s c H M F h;refine wpAny_Assign_Subscript (thn (hv b s c H _ F h) λ r j ⟨v,k,l,m,n⟩=>thn (f b j c k _ l n) λ u p ⟨x,q,t,w,z⟩=>thn (hi b p c q _ t z) λ G I ⟨y,J,B,ry,a,C,ex,K,D⟩=>?_) g
 subst ex;obtain rfl:u=XP a:=w;exact uy d B K ry m λ L E=>⟨c,C,E,D⟩
end
theorem wY {P:YA}{w:World}{H:Hp}(h:Heap)(hb:Qr < h.objs.size):ObjOk P w H (h.push { cls:=.type "dict",data:=.dict #[] }) h.objs.size (.dK []):=
 ⟨WI _,beq_eq_false_iff_ne.mpr (JE (XO hb)),[],.nil,Heap.DictOf.new h⟩
def tDNewK:TE:=λ _ H Q=>∀p,H p=none->Q (.ref p) (upd H p (.dK []))
section
variable {X:Cx}{pos:Pos}
theorem zF:PE X (.Dict [] [] pos) tDNewK:=λ b s d H Q c h=>
 wpAny_Dict_empty ⟨.ref s.heap.objs.size,_,c.laid (a:=s.heap.objs.size) (o:=.dK []) (t':=s.toks) (λ _ _ q=>ZO _ q) (ZY _) (wY s.heap c.big),rfl,h _ (c.hok.fresh (ZY _))⟩
end
structure M1 (X:Cx)(o:Expr)(m:Str)(apos:Pos)(e:Expr)(cpos:Pos):Prop where
 base:wW o m X.env (eval o X.env)=eval o X.env
 few:((yT cpos (XE [e] X.env)).all (λ x=>!x.1) && (backToKw cpos (GT [] X.env)).all (λ x=>x.1.isSome)
  && decide (([e]:List Expr).length+([]:List Keyword).length+(if ([]:List Keyword).isEmpty then 0 else 1) < 30))=true
 line:(apos.endLine == cpos.line)=true
 trees:yT cpos (XE [e] X.env)=[(false,eval e X.env)]
end L2
namespace PySem
open Sem (wp)
end PySem
namespace L2
open PySem PySem.Spec PyProof.Rows PySem.Builtin
theorem RoomB.units1 {c:Bool}{k:Nat}{A:XW}(h:RoomB c k A):A.units+1 < cLine:=xB ∅ h.units
end L2
namespace L2
open PySem PySem.Spec PyProof.Rows
end L2
namespace L2
open PySem PySem.Spec PyProof.Rows PySem.Builtin
structure DKG (P:YA)(w:World)(K:FrG)(a:Addr)(kvs:List (Key×V)):Prop where
 ex:∃(vs:List (Key×Value)) (o:Obj) (es:Array wS) (ep:Nat),KV kvs vs/\K.lookup a=some o/\o.ExactDict/\o.data=.dict es ep/\KeysOf (mixKind P w) es/\Pairs (mixKind P w) es.toList vs/\(vs.map (·.1)).Nodup
 ns:(a == Qr)=false
section
variable {X:Cx}{pins:List (Addr×Obj)}{σ:St}{H:Hp}{s:U2}{a:Addr}{kvs:List (Key×V)}
theorem DKG.dd (g:Inv X pins σ H s)(h:DKG X.prog X.w X.K a kvs):∃vs,KV kvs vs/\s.heap.DictOf (mixKind X.prog X.w) a vs:=by
 obtain ⟨vs,o,es,b,c,l,ex,hd,d,e,f⟩:=h.ex;exact ⟨vs,c,o,es,b,g.kIn _ _ l,ex,hd,d,e,f⟩
def Ah5 (P:YA)(w:World)(K:FrG)(b c:TE):TE:=λ σ H Q=>b σ H λ x d=>c σ d λ y e=>∃a kvs k v,x=.ref a/\DKG P w K a kvs/\y=kV k/\valV kvs k=some v/\Q v e
def xm (P:YA)(w:World)(K:FrG)(b c:TE):TE:=λ σ H Q=>b σ H λ x d=>∃a kvs,x=.ref a/\DKG P w K a kvs/\c σ d λ y e=>∃k,y=kV k/\Q ((valV kvs k).getD .non) e
end
section
variable {X:Cx}{o i e:Expr}{es:List Expr}{pos apos cpos:Pos}{td ty tf:TE}{t:TA}{E:XK}
theorem oY (j:PE X o td)(hi:PE X i ty)(m:NoSl i):PE X (.Subscript o i pos) (Ah5 X.prog X.w X.K td ty):=by
 intro b s c H Q I h;refine iB Go.lookup m (thn (j b s c H _ I h) λ u n ⟨x,p,q,r,z⟩=>thn (hi b n c p _ q z) λ J L ⟨y,A,d,ry,a,G,k,v,ex,M,B,l,C⟩=>?_)
 subst ex;subst B;obtain rfl:u=XP a:=r;obtain ⟨vs,f,dd⟩:=M.dd d;obtain ⟨N,D,g⟩:=RelO.some_of (v:=v) (o:=Nl vs k) (by rw [<- l];exact f.val k)
 exact ⟨dd.typeIs,wpAny_getItem_of (Jx ry) dd.mapOf D ⟨v,A,d.tok _,g,C⟩⟩
theorem wZ (p:PE X o td)(he:PE X e ty)(m:M1 X o "get" apos e cpos):PE X (.Call (.Attribute o "get" apos) [e] [] cpos) (xm X.prog X.w X.K td ty):=by
 intro c s f H Q O h;refine wpAny_Call_method m.base m.few m.line PySem.F.plainAttrs_dict ND PySem.F.type_dict_get (thn (p c s f H _ O h) λ u r ⟨x,v,g,z,a,j,ex,A,B⟩=>?_)
 subst ex;obtain rfl:u=XP a:=z;obtain ⟨N,C,d⟩:=A.dd g;refine ⟨d.typeIs,(λ b q=>?_),?_⟩
 ·cases q
  obtain ⟨D,_,_,G,I,_⟩:=d;exact ⟨D,G,I.2.1⟩
 rw [m.trees];refine FO rfl (NI (Calls.spliced_cons (thn (he c r f v _ g B) λ P R ⟨y,J,l,ry,k,L,M⟩=>Calls.spliced_nil ?_)))
 subst L;obtain ⟨vs,n,dd⟩:=A.dd l;exact call_meetsIn ND dd.typeIs PySem.F.entry_dict_get (PySem.F.args_dict_get_2 _ _) (meets_dict_get (mixKind X.prog X.w) a (Jx ry) A.ns) ⟨_,dd.mapOf,⟨(valV j k).getD .non,J,l.tok _,(n.val k).getD (show RelV .non FH from rfl),M⟩⟩
def rF (P:YA)(w:World)(K:FrG)(mg:Str->Option Value)(base:Heap)(A:XW)(E:XK)(tf:TE)(t:TA):TE:=λ a H Q=>tf a H λ x b=>∃(f:Addr) (fd:UH) (m:Nat) (ps:List Str) (sp:Sp),x=.ref f/\FnB P w K mg base true m f fd ps sp/\YE K (.ref f)=true/\Binds K fd ps []/\RoomB true m A/\t a b λ vs c=>sp (vs++[]) c Q E
theorem dw (g:Passes (HS X.prog X.w) X E)(hf:PE X o tf)(ha:PA X (e::es) t)
  (he:XE (e::es) X.env=(false,eval e X.env)::XE es X.env:=by rfl) (d:(yT pos (XE es X.env)).any (·.1)=false:=by rfl)
  (hc:eval (.Call o (e::es) [] pos) X.env=(do callWith pos (<- eval o X.env) [] (yT pos (XE (e::es) X.env)) (backToKw pos (GT [] X.env))):=by rfl):
  PE X (.Call o (e::es) [] pos) (rF X.prog X.w X.K X.mg X.base X.A E tf t):=by
 intro a s b H Q C h;refine Call_ (thn (hf a s b H _ C h) λ u j ⟨x,k,l,n,f,fd,m,ps,sp,ex,D,p,hb,v,q⟩=>?_) hc
 subst ex;obtain rfl:u=XP f:=n;refine ya (h₀:=X.base) C.ok.mod.kin p (thn (ha pos a j b k _ l q) λ us y ⟨vs,z,c,r,B⟩=>⟨c.kIn,?_⟩) he d
 exact TF D v hb c r B λ e s' h=>g a b z y e s' c h
end
end L2
namespace Tx
open PySem PySem.Builtin PySem.Builtin.Str PySem.StrLaws
theorem V7 (s sub:Str)(hi b:Nat):∀(l:List Nat) (st:Array Nat×Nat),∃more,(forIn l st (Nn s sub hi b)).run.fst.toList=st.fst.toList++more
 | [],st=>⟨[],by simp⟩
 | a::l,st=>by
  rw [yn];unfold Nn
  split
  ·obtain ⟨more,h⟩:=V7 s sub hi b l (st.fst.push a,a+sub.length);exact ⟨a::more,by
    have h':(forIn l (st.fst.push a,a+sub.length) (Nn s sub hi b)).run.fst.toList=st.fst.toList++(a::more):=by rw [h];simp
    exact h'⟩
  ·exact V7 s sub hi b l (st.fst,st.snd)
theorem gC (s sub:Str)(hi k:Nat):∀(l:List Nat) (st:Array Nat×Nat),k<=st.fst.size->(forIn l st (Nn s sub hi k)).run.fst=st.fst
 | [],st,_=>rfl
 | a::l,st,h=>by
  rw [yn];unfold Nn;rw [if_neg (λ z=>by have:=z.1.1.1;omega)]
  exact gC s sub hi k l (st.fst,st.snd) h
theorem V5 (s sub:Str)(hi:Nat){k d:Nat}(b:k<=d):∀(l:List Nat) (st:Array Nat×Nat),st.fst.size<=k->(forIn l st (Nn s sub hi k)).run.fst.toList=(forIn l st (Nn s sub hi d)).run.fst.toList.take k
 | [],st,h=>by
  show st.fst.toList=st.fst.toList.take k;rw [UB (by rw [UF];exact h)]
 | a::l,st,h=>by
  by_cases e:st.fst.size=k
  ·rw [gC s sub hi k (a::l) st ∅]
   obtain ⟨more,f⟩:=V7 s sub hi d (a::l) st;rw [f,List.take_left' (by rw [UF];exact e)]
  ·have lt:st.fst.size < k:=by omega
   rw [yn,yn];unfold Nn;by_cases c:(st.snd<=a/\a+sub.length<=hi)/\subAt s sub a=true
   ·rw [if_pos ⟨⟨⟨lt,c.1.1⟩,c.1.2⟩,c.2⟩,if_pos ⟨⟨⟨by omega,c.1.1⟩,c.1.2⟩,c.2⟩]
    exact V5 s sub hi b l (st.fst.push a,a+sub.length) (by simp only [Array.size_push];omega)
   ·rw [if_neg (λ z=>c ⟨⟨z.1.1.2,z.1.2⟩,z.2⟩),if_neg (λ z=>c ⟨⟨z.1.1.2,z.1.2⟩,z.2⟩)]
    exact V5 s sub hi b l (st.fst,st.snd) h
theorem Aj5 (x y:Str){k:Nat}(h:k<=x.length+1):Wp x y 0 x.length k=(Wp x y 0 x.length (x.length+1)).take k:=by
 rw [occ_eq,occ_eq];exact V5 x y x.length h _ _ (WI _)
theorem vQ {x:Str}{c:Nat}{a b t:List Nat}(i:cl x=a++c::(b++c::t))(ha:c∉a)(hb:c∉b):∃c0 c1,Wp x ⟨#[c]⟩ 0 x.length 2=[c0,c1]/\(xi x [c0,c1] 1).map cl=[a,b,t]:=by
 have d:=KD x c;rw [i,JB _ ha,JB _ hb] at d;have hl:2<=x.length+1:=by
  have:(cl x).length=x.length:=by show x.cps.toList.length=_;rw [UF];rfl
  rw [i] at this;simp only [X9,X2] at this;omega
 have o:2<=(cut c t).length+1:=by
  have:cut c t≠[]:=by
   cases t with
   | nil=>simp [cut]
   | cons z zs=>
    unfold cut
    split
    ·simp
    ·split<;>simp
  have:=List.length_pos_iff.mpr this;omega
 have j:=Aj5 x ⟨#[c]⟩ hl;have e:Xt x ⟨#[c]⟩=Mu x 1 0 (Wp x ⟨#[c]⟩ 0 x.length (x.length+1))\/(Xt x ⟨#[c]⟩).length=1:=by
  unfold Xt
  split
  ·exact .inr rfl
  ·split
   ·exact .inr rfl
   ·exact .inl (Nw x _ 1)
 rcases e with e | e
 ·rw [e] at d;cases hc:Wp x ⟨#[c]⟩ 0 x.length (x.length+1) with
  | nil=>
   rw [hc] at d;have:=congrArg JU d;simp only [Mu,Y2,X2,YH] at this;omega
  | cons c0 r=>
   rw [hc] at d j;cases r with
   | nil=>
    have:=congrArg JU d;simp only [Mu,Y2,X2,YH] at this;omega
   | cons c1 r=>
    have e2:Wp x ⟨#[c]⟩ 0 x.length 2=[c0,c1]:=j;refine ⟨c0,c1,e2,?_⟩;have d:cl (xp x 0 c0)::cl (xp x (c0+1) c1)::(Mu x 1 (c1+1) r).map cl=a::b::cut c t:=d;have k:=(WH d).1;have l:=(WH (WH d).2).1;rw [Nw];show [cl (xp x 0 c0),cl (xp x (c0+1) c1),cl (xp x (c1+1) x.length)]=_;obtain ⟨f,ch⟩:=occ_chain x ⟨#[c]⟩ 2;rw [e2] at ch;have h:=join_partsFrom x ⟨#[c]⟩ [c0,c1] 0 f ch;rw [sub_whole] at h;have h:Yk ⟨#[c]⟩ [xp x 0 c0,xp x (c0+1) c1,xp x (c1+1) x.length]=x:=h;have g:=congrArg cl h;rw [show Yk ⟨#[c]⟩ [xp x 0 c0,xp x (c0+1) c1,xp x (c1+1) x.length]=xp x 0 c0++⟨#[c]⟩++(xp x (c0+1) c1++⟨#[c]⟩++xp x (c1+1) x.length) from rfl,By,By,By,By,k,l,i] at g
    have m:cl (⟨#[c]⟩:Str)=[c]:=rfl;rw [m] at g;have n:cl (xp x (c1+1) x.length)=t:=by
     have:a++[c]++(b++[c]++cl (xp x (c1+1) x.length))=a++c::(b++c::t):=g;simp only [XB,wI,Jn] at this;have:=FD this;have:=(WH this).2;have:=FD this;exact (WH this).2
    rw [k,l,n]
 ·have:=congrArg JU d;rw [Y2,e] at this;simp only [X2] at this;omega
end Tx
namespace L2
open PySem PySem.Spec PyProof.Rows PySem.Builtin PySem.Builtin.Str Tx
inductive zG (x:V)(vs:List V)(H:Hp)(Q:VK):Prop | mk (i sa sb st:Str) (_:x=.str i) (_:vs=[.str (Z7 " "),.int 2]) (_:cl i=cl sa++32::(cl sb++32::cl st)) (_:32∉cl sa) (_:32∉cl sb) (_:i.length+2<=Y3) (_:∀p,H p=none->Q (.ref p) (upd H p (.lst [.str sa,.str sb,.str st])))
theorem AQ4 {a b:Str}(h:cl a=cl b):a=b:=by
 obtain ⟨⟨x⟩⟩:=a;obtain ⟨⟨y⟩⟩:=b;have h:x=y:=h;rw [h]
theorem AV8 {X:Cx}:MtM X "str.split" zG:=by
 intro g s y H x vs v us Q r j k h;obtain ⟨i,sa,a,st,rfl,rfl,hi,ha,hb,hz,q⟩:=h;obtain ⟨t,rfl⟩:=j;obtain ⟨u,w,rfl,l,c⟩:=vals2 k;obtain ⟨t',rfl⟩:=l;obtain ⟨t2,rfl⟩:=c;have e1:(Z7 " ")=(⟨#[32]⟩:Str):=by decide+kernel
 obtain ⟨c0,c1,d,b⟩:=vQ hi ha hb;rw [e1];have m:0 < i.length:=by
  have:(cl i).length=i.length:=by show i.cps.toList.length=_;rw [UF];rfl
  rw [hi] at this;simp only [X9,X2] at this;omega
 have n:(decide (i.length < (⟨#[32]⟩:Str).length) || decide (Gy i < Gy ⟨#[32]⟩))=false:=by
  have o:Gy (⟨#[32]⟩:Str)=1:=by decide+kernel
  have z:1<=Gy i:=by
   unfold Gy
   split
   ·exact ZY _
   ·split<;>decide
  have p:(⟨#[32]⟩:Str).length=1:=rfl;rw [o,p,η ∅,η ∅]
  rfl
 have f:limitOf i 2=2:=rfl;have hf:(Wp i ⟨#[32]⟩ 0 i.length (limitOf i 2)).isEmpty=false:=by rw [f,d];rfl
 have pb:xi i (Wp i ⟨#[32]⟩ 0 i.length (limitOf i 2)) (⟨#[32]⟩:Str).length=[sa,a,st]:=by
  rw [f,d];have b:(xi i [c0,c1] 1).map cl=[sa,a,st].map cl:=b;exact List.map_inj_right (λ _ _=>AQ4) |>.mp b
 refine xI XV (wR _ _ _) PySem.F.entry_str_split (PySem.F.args_str_split_3 _ _ _) (meets_str_split_sep_max i ⟨#[32]⟩ 2 t t' t2 ⋯ n rfl hf ∅ (by rw [pb];show 3<=Y3;decide)) ?_
 show wants _ _ _ { s with toks:=_,heap:=s.heap.push { cls:=.type "list",data:=.seq (strsFrom s.toks (xi i (Wp i ⟨#[32]⟩ 0 i.length (limitOf i 2)) (⟨#[32]⟩:Str).length)).toArray } }
 rw [pb,strsFrom_eq];refine ⟨.ref s.heap.objs.size,_,?_,rfl,q _ r.fresh⟩;have e:(numbered s.toks [sa,a,st]).map (·.1)=[sa,a,st]:=Mb _ _
 have:[V.str sa,V.str a,V.str st]=((numbered s.toks [sa,a,st]).map (·.1)).map V.str:=by rw [e];rfl
 rw [this];exact r.lnew (T9 _) (by rw [e];show 3<=Y3;decide)
end L2
namespace L2
open PySem PySem.Spec PyProof.Rows PySem.Builtin
def Dv (p:Fk)(x:Str):Int:=if x.cps.isEmpty=true then 0 else reduceHash (p.strHash x.cps)
theorem vq {w:World}{p:Fk}(h:w.params=p)(x:Str):hashStr w x=Dv p x:=by
 subst h;rfl
inductive Ent (p:Fk):List wS->List (Str×V)->Prop
 | nil:Ent p [] []
 | cons {e:wS} {x:Str} {t:Tok} {v:V} {es:List wS} {ps:List (Str×V)}:e.hash=Dv p x->e.key=.str x t->RelV v e.val->Ent p es ps->Ent p (e::es) ((x,v)::ps)
def Dd (ps:List (Str×V)):List (Key×V):=ps.map λ q=>(.inr q.1,q.2)
theorem Ent.parts {P:YA}{w:World}{p:Fk}(a:w.params=p):∀{es:List wS} {ps:List (Str×V)},Ent p es ps->∃vs:List (Key×Value),KV (Dd ps) vs/\Pairs (mixKind P w) es vs/\vs.map (·.1)=ps.map (λ q=>xc q.1)/\∀e∈es,∃k,(mixKind P w).is k e.key=true/\e.hash=(mixKind P w).hash k
 | _,_,.nil=>⟨[],.nil,.nil,rfl,λ _ h=>nomatch h⟩
 | _,_,@Ent.cons _ e x t v es ps c d f r=>by
  obtain ⟨vs,g,i,j,l⟩:=Ent.parts (P:=P) a r;have b:(mixKind P w).is (.inr x) e.key=true:=by rw [d];exact bU P w x t
  refine ⟨(.inr x,e.val)::vs,.cons ⟨rfl,f⟩ g,.cons b rfl i,by rw [YJ,YJ,j],λ m he=>?_⟩
  rcases X1.mp he with rfl | he
  ·exact ⟨.inr x,b,by rw [c,<- vq a];rfl⟩
  ·exact l m he
theorem pF:∀{l:List Str},l.Nodup->(l.map (xc:Str->Key)).Nodup
 | [],_=>.nil
 | a::l,h=>by
  rw [XJ] at h;rw [YJ,XJ];refine ⟨λ z=>?_,pF h.2⟩
  obtain ⟨b,hb,e⟩:=UC.mp z;cases e
  exact h.1 hb
theorem mZ {P:YA}{w:World}{K:FrG}{a:Addr}{es:Array wS}{b:Nat}{p:Fk}{ps:List (Str×V)}(c:w.params=p)(l:K.lookup a=some ⟨.type "dict",none,.dict es b,#[]⟩)(h:Ent p es.toList ps)(nd:(ps.map (·.1)).Nodup)(ns:(a == Qr)=false):DKG P w K a (Dd ps):=by
 obtain ⟨vs,d,f,g,i⟩:=h.parts (P:=P) c;refine ⟨⟨vs,_,es,b,d,l,⟨rfl,rfl,rfl⟩,rfl,λ e he=>i e (NG.mpr he),f,?_⟩,ns⟩
 rw [g];have:ps.map (λ q=>(xc q.1:Key))=(ps.map (·.1)).map xc:=by rw [zb];rfl
 rw [this];exact pF nd
end L2
namespace L2
open PySem PySem.Spec PyProof.Rows
def MP (lo st:Int)(n:Nat):It:=⟨λ i _=>i < n,λ i H x a=>a=H/\x=.int (lo+(i:Nat) * st),λ i _=>n<=i⟩
theorem pq {P:YA}{w:World}{K:FrG}{tg:Expr}(it:Addr)(lo c:Int)(n:Nat):Turn P w K tg (MP lo c n) [it] it (λ i h=>NW h it (lo+(i:Nat) * c) ((n:Int) - (i:Nat)) c) where
 mem:=by simp
 obj:=λ i h st b hb=>by
  have e:b=it:=by simpa using hb
  subst e;exact ⟨_,st,λ v z=>nomatch (show Data.fields _=Data.cell v from z)⟩
 keep:=λ i h h' st k=>k it (by simp) _ st
 item:=by
  intro X f g j hc i a s x H E y hf st l;subst f g j;obtain ⟨m,p,A,q,r,u⟩:=hf it (by simp)
  refine (Walks.range (prog:=X.prog) (w:=X.w) (y.ok.hd hc) it lo c n).item i s _ _ l st λ v h' tk hv d B=>?_
  obtain ⟨t,rfl⟩:=hv;have C:Inv X a x H { s with heap:=h',toks:=tk }:=y.turned (λ b o hb e=>B b o (by simpa using hb) e) m p q r u
  exact ⟨_,rfl,Oe (s:={ s with heap:=h',toks:=tk }) (n:="range_iterator") d rfl rfl ⋯ ⟨.int (lo+(i:Nat) * c),H,C,⟨t,rfl⟩,⟨rfl,rfl⟩,d,λ b hb=>(hf b hb).1⟩⟩
 done:=by
  intro X f g j hc i a s x H E y hf st l;subst f g j;obtain ⟨m,p,A,q,r,u⟩:=hf it (by simp)
  exact wpAny_pyNext_range_end (y.ok.hd hc) st (by have:n<=i:=l;omega) λ h' D=>⟨rfl,y.turned (t':=s.toks) (λ b o hb e=>D b o hb e) m p q r u⟩
 self:=λ _ _ _ _ _ st h=>wpAny_pyIter_rangeiter st h
section
variable {X:Cx}{tg:Expr}
def qG (a:TA):TI:=λ b H e=>a b H λ vs d=>∃(i j c:Int) (n:Nat),vs=[.int i,.int j,.int c]/\c≠0/\WA.Range.small i j c=true/\zw i j c=(n:Int)/\WA.divisionGoesByPylong (j - i) c=false/\e (MP i c n) d
theorem AW4 {a b c:Expr}{m:TA}{p pos:Pos}(z:Gl X "range")(A:X.mg "range"=none)(ha:PA X [a,b,c] m)(B:XE [a,b,c] X.env=[(false,eval a X.env),(false,eval b X.env),(false,eval c X.env)]:=by rfl)(k:XE [b,c] X.env=[(false,eval b X.env),(false,eval c X.env)]:=by rfl):
  PI X tg (.Call (.Name "range" p) [a,b,c] [] pos) (qG m):=by
 intro d s w H I G h;refine Call_ (Il G z A boot_range (UP (thn (ha pos d s w H _ G h) λ us f ⟨vs,x,C,D,E⟩=>?_) (by rw [B,k]) (by rw [k];rfl)))
 obtain ⟨i,j,c,n,e,c0,sm,sz,np,q⟩:=E;subst e;cases D with
 | cons r g=>
  cases g with
  | cons F g=>
   cases g with
   | cons y g=>
    cases g
    obtain ⟨t,rfl⟩:=r;obtain ⟨u,rfl⟩:=F;obtain ⟨v,rfl⟩:=y;refine call_range_3 c0 (wpAny_pyIter_range (IsRange.new ..) sm ?_) (.inl np);have l:Inv X d w x { f with heap:=f.heap.push { cls:=.type "range",data:=.fields #[.int i t,.int j u,.int c v] } }:=C.kept (t':=f.toks) λ b o e=>ZO _ e
    refine ⟨_,[_],_,_,x,rfl,l.kept (t':=f.toks) λ b o e=>ZO _ e,pq _ i c n,?_,λ b hb=>?_,q⟩
    ·have e1:i+((0:Nat):Int) * c=i:=by simp
     show NW _ _ (i+((0:Nat):Int) * c) ((n:Int) - ((0:Nat):Int)) c;rw [e1,<- sz,show zw i j c - ((0:Nat):Int)=zw i j c by simp]
     exact XM _ rfl
    ·have e:b=(f.heap.push { cls:=.type "range",data:=.fields #[.int i t,.int j u,.int c v] }).objs.size:=by simpa using hb
     subst e;exact l.fpOk (ZY _) (l.hok.fresh (ZY _))
theorem Aa5 {lo st:Int}{n:Nat}{r:TG}{tb:TS}{h:Ends}{a:St}{H:Hp}(b:Nat->St->Hp->Prop)(k:b 0 a H)
  (l:∀i a H,i < n->b i a H->r (.int (lo+(i:Nat) * st)) a H λ d g=>tb { h with nx:=b (i+1),ct:=b (i+1),bk:=h.nx } d g) (hd:∀a H,b n a H->h.nx a H):
  ∃o:Nat->Nat->St->Hp->Prop,(∃m,o 0 m a H)/\∀i m a H,o i m a H->
   ((MP lo st n).stop i H/\h.nx a H)\/((MP lo st n).go i H/\∃N:St->Hp->Prop,(∀e c,N e c->∃j,j < m/\o (i+1) j e c)/\∀x c,(MP lo st n).yld i H x c->r x a c λ d g=>tb { h with nx:=N,ct:=N,bk:=h.nx } d g):=by
 refine ⟨λ i m a H=>m=n - i/\i<=n/\b i a H,⟨n,by simp,WI _,k⟩,?_⟩
 rintro i m a H ⟨rfl,hi,p⟩
 by_cases f:i < n
 ·refine .inr ⟨f,b (i+1),λ e c q=>⟨n - (i+1),by omega,rfl,f,q⟩,λ x c y=>?_⟩
  obtain ⟨rfl,rfl⟩:=y;exact l i a _ f p
 ·obtain rfl:i=n:=by omega
  exact .inl ⟨ZY _,hd a H p⟩
end
section
variable {X:Cx}{o lo hi:Expr}{to:TE}{tp tq:TO}{p2 pos:Pos}
def gSl (to:TE)(tp tq:TO):TG:=λ v d H Q=>to d H λ x g=>tp d g λ k h=>tq d h λ m e=>∃(l b:Addr) (a c:Nat) (xs f:List V),x=.ref l/\k=some (a:Int)/\m=some (c:Int)/\v=.ref b/\e l=some (.lst xs)/\e b=some (.lst f)/\l≠b/\a<=c/\c<=xs.length/\xs.length+f.length<=Y3/\
 Q d (upd e l (.lst (xs.take a++f++xs.drop c)))
theorem Aj7 (B:PE X o to)(hl:PO X (some lo) tp)(C:PO X (some hi) tq)
  (ha:∀v,Fc (.Subscript o (.Slice (some lo) (some hi) none p2) pos) X.env v=(do
   let f <- GM [v] (eval o X.env)
   let j <- GM [v,f] (eval (.Slice (some lo) (some hi) none p2) X.env)
   standAt pos
   GM [v,f,j] (setItem f j v)
   release [j,v,f] []):=by intro _;rfl):PG X (.Subscript o (.Slice (some lo) (some hi) none p2) pos) (gSl to tp tq):=by
 intro d s g H v u Q a0 r h;rw [ha];refine U1 (UA (thn (B d s g H _ a0 h) λ f D ⟨x,E,F,G,I⟩=>?_))
 refine U1 (UA (wpAny_Slice (thn (hl d D g E _ F I) λ J K ⟨k,L,M,pl,N⟩=>thn (C d K g L _ M N) λ O i ⟨m,P,R,S,T⟩=>?_)))
 obtain ⟨l,b,a,c,xs,a1,rfl,rfl,rfl,rfl,w,U,y,A,W,hz,q⟩:=T;cases (show f=XP l from G)
 cases (show u=XP b from r)
 rw [evalPart_none];refine Ya ?_;have p:Inv X d g P { i with heap:=i.heap.push { cls:=.type "slice",data:=.fields #[J,O,.none] } }:=R.kept (t':=i.toks) λ b a2 q=>ZO _ q
 obtain ⟨z,its,n,r,Y,e⟩:=p.lstM w;obtain ⟨a3,t,a4,V,Z,e2⟩:=p.lstM U;refine U1 (xt (U1 (UA (AL9 (a:=a) (c:=c) e e2 y (MI ..) pl S A (by rw [Yg];omega) (by rw [Yg,Yg];omega) (wpAny_release ⟨g,_,?_,q⟩)))))
 refine p.lset (its':=its.take a++t++its.drop c) (t':=i.toks) w e ?_ (Vals.append (Vals.append (r.take _) V) (r.drop _)) ?_
 ·rw [Ad0]
 ·simp only [X9,YG,JO];omega
end
end L2
namespace Tx
open PySem PySem.Spec PySem.Builtin PySem.Builtin.Str L2 Lib Op
end Tx
namespace Lib
open PySem L2 Fr Op Tx
end Lib
namespace L2
open PySem PySem.Spec PyProof.Rows
section
variable {X:Cx}{k:Nat}{C:Addr}{ps:List Str}{sp:Sp}{x:Str}{p pos:Pos}{tg l:Expr}{tl:TE}
theorem AH8 (M:MkC X.prog X.w X.K X.mg X.base k x C ps sp)(b:RoomB true (k+1) X.A)(c:Gl X x:=by rfl)(a:(x == ("__debug__":Str))=false:=by decide):
  PE X (.Call (.Name x p) [] [] pos) (tMake C sp [] E0 tNil):=by
 obtain ⟨f,fd,e,d,hb⟩:=M.ex;exact zW d e.ok b.room c M.mg hb .nil Af a
theorem jP (hl:PE X l tl):PI X tg l (λ a H c=>iList X.K tl a H c\/iTup X.K tl a H c):=λ b s a H c d h=>h.elim (Dt hl b s a H c d) (Kf hl b s a H c d)
end
end L2
namespace Tx
open PySem PySem.Spec PySem.Builtin PySem.Builtin.Str L2 Lib Fr Op
theorem JF (s a b:Y1)(r:List Y1):Yk s (a::b::r)=a++s++Yk s (b::r):=rfl
theorem j1 (s a:Y1):Yk s [a]=a:=rfl
def Ir (u x:Y1)(qs:List Rat):Y1:=Yk ⟨#[32]⟩ (u::x::qs.map Ay)
def Es (qs:List Rat):Y1:=FB (Z7 " ") (qs.map Ay)
theorem Qq {p u x:Y1}(h:cl p=cl u++[32]):p++x=Ir u x []:=ext (by
 unfold Ir;rw [By,h,jx,JF,j1,By,By])
theorem Oq {p u x:Y1}{q:Rat}{qs:List Rat}(h:cl p=cl u++[32]):p++x++Z7 " "++Es (q::qs)=Ir u x (q::qs):=ext (by
 unfold Ir Es;rw [Ew,YJ,JF,JF,Iw];simp only [By,h,XB])
theorem Aa4 (q:Rat):Es [q]=Ay q:=by
 unfold Es;rw [Ew];exact j1 _ _
theorem pW {u x:Y1}{qs:List Rat}(b:32∉cl u)(c:32∉cl x):Xt (Ir u x qs) (Z7 " ")=u::x::qs.map Ay:=by
 refine Z9 ?_;rw [Iw,KD];refine Px (by simp) λ t a=>?_
 rcases X1.mp a with rfl | a
 ·exact b
 rcases X1.mp a with rfl | a
 ·exact c
 obtain ⟨q,_,rfl⟩:=UC.mp a;exact Lp q 32 ⋯
theorem UJ:∀a:List Y1,(Yk ⟨#[32]⟩ a).length<=(a.map λ t=>t.length+1).sum
 | []=>WI _
 | [t]=>by rw [j1];simp
 | t::u::r=>by
  have:=UJ (u::r);rw [JF,<- Du,By,By,X9,X9,YJ,yQ];simp only [Du];have e:(US #[32]).length=1:=rfl;omega
theorem JT {a:Type}{f:a->Nat}{c:Nat}:∀{l:List a},(∀x∈l,f x<=c)->(l.map f).sum<=l.length * c
 | [],_=>WI _
 | x::l,h=>by
  rw [YJ,yQ,X2,FP];have:=h x ZA;have:=JT (l:=l) λ y b=>h y (W1 _ b)
  omega
theorem AL3 {u x:Y1}{qs:List Rat}(c:u.length<=8)(d:x.length<=8)(a:qs.length<=5)(h:∀q∈qs,Short q):(Ir u x qs).length<=300:=by
 have b:=UJ (u::x::qs.map Ay);rw [YJ,yQ,YJ,yQ,zb] at b;have e:(qs.map ((λ t:Y1=>t.length+1) ∘ Ay)).sum<=qs.length * 41:=JT λ q a=>xh (QD (h q a))
 have f:qs.length * 41<=5 * 41:=ZH _ a;show (Yk ⟨#[32]⟩ (u::x::qs.map Ay)).length<=300;omega
theorem G8:(2:Nat) ^ 1900<=10 ^ 575:=by decide+kernel
theorem M5 {q:Rat}(h:Bd 1900 q):(Ay q).length<=1200:=by
 have a:=(Fp (m:=q.num.natAbs) (k:=575) ⋯).mpr (Y4 h.1 G8)
 have b:=(Fp (m:=q.den) (k:=575) ⋯).mpr (Y4 h.2 G8)
 rw [<- Du,Iv];unfold sh
 split<;>split<;>simp only [X9,X2,YH]<;>omega
theorem gO {qs:List Rat}(h:∀q∈qs,Bd 1900 q)(hl:qs.length<=60):JoinOk (Z7 " ") (qs.map Ay)=true:=by
 refine WO ?_ (by decide+kernel)
 have b:((qs.map Ay).map (·.length)).sum<=qs.length * 1200:=by
  rw [zb];exact JT λ q a=>M5 (h q a)
 have c:qs.length * 1200<=60 * 1200:=ZH _ hl;rw [Y2];omega
end Tx
namespace Lib
open PySem L2 Fr Op Tx
def BnA (K:FrG)(H:Hp)(l:Addr)(ps:List Pc):Prop:=∃xs,H l=some (.lst xs)/\DVs K H xs (ps.map Bm)/\xs.length=ps.length
theorem BnA.of {K:FrG}{H:Hp}{l:Addr}{xs:List V}{ps:List Pc}(h:H l=some (.lst xs))(d:DVs K H xs (ps.map Bm)):BnA K H l ps:=⟨xs,h,d,by have:=d.len;rw [Y2] at this;exact this⟩
theorem BnA.keep {K:FrG}{H a:Hp}{l:Addr}{ps:List Pc}(h:BnA K H l ps)(s:Same H a):BnA K a l ps:=by
 obtain ⟨xs,b,c,d⟩:=h;exact ⟨xs,s _ _ b,c.keep s,d⟩
theorem BnA.dv {K:FrG}{H:Hp}{l:Addr}{ps:List Pc}(h:BnA K H l ps):DV K H (.ref l) (Dg ps):=by
 obtain ⟨xs,a,b,c⟩:=h;exact .lst (SqL.of a) b
theorem uC {m:Nat}{p:Pc}(ok:p.ok)(b:p.bd m)(c:m<=40):Et p:=by
 have sh:∀q:Rat,Bd m q->Short q:=λ q h=>by
  have e:(2:Nat) ^ 40<=10 ^ 15:=by decide
  have f:(2:Nat) ^ m<=2 ^ 40:=JY ⋯ c
  exact ⟨by have:=h.n;omega,by have:=h.d;omega⟩
 refine ⟨ok,λ q a=>?_⟩
 cases p with
 | gap g=>rw [X8.mp a];exact sh _ b
 | glass g=>rw [X8.mp a];exact sh _ b
 | stop lo hi=>
  rcases X1.mp a with rfl | h
  ·exact sh _ b.1
  ·rw [X8.mp h];exact sh _ b.2
abbrev Ep:=Str->Option (List Pc)
def setB (a:Ep)(x:Str)(ps:List Pc):Ep:=λ y=>if y=x then some ps else a y
def OkB (ps:List Pc):Prop:=ps.length<=6/\∀p∈ps,Et p/\p.fd 12 17
theorem OkB.sh {ps:List Pc}(h:OkB ps):∀p∈ps,Et p:=λ p a=>(h.2 p a).1
theorem AX5 {m M n:Nat}(a:m<=n)(b:M<=n):∀{p:Pc},p.fd m M->p.bd n
 | .gap _,h=>Bd.mono h a
 | .glass _,h=>Bd.mono h a
 | .stop _ _,h=>⟨h.1.mono b,h.2.mono b⟩
theorem OkB.good {ps:List Pc}(h:OkB ps):Good 18 ps:=⟨ZE h.1 ⋯,λ p a=>(h.2 p a).1.1,λ p a=>AX5 ⋯ ⋯ (h.2 p a).2⟩
def DicB (K:FrG)(H:Hp)(q:List Addr)(a:List (Key×V))(b:Ep):Prop:=∀x:Str,match b x with
 | none=>valV a (.inr x)=none
 | some ps=>OkB ps/\∃l,valV a (.inr x)=some (.ref l)/\BnA K H l ps/\l∉q
section
variable {K:FrG}{H H':Hp}{q:List Addr}{a l:Addr}{kvs:List (Key×V)}{S:Ep}{ps:List Pc}{x:Str}
theorem DicB.at (h:DicB K H q kvs S)(e:S x=some ps):OkB ps/\∃l,valV kvs (.inr x)=some (.ref l)/\BnA K H l ps/\l∉q:=by
 have:=h x;rw [e] at this;exact this
theorem DicB.map (h:DicB K H q kvs S)(f:∀l ps,BnA K H l ps->l∉q->BnA K H' l ps):DicB K H' q kvs S:=λ x=>by
 have:=h x;cases e:S x with
 | none=>rw [e] at this;exact this
 | some ps=>
  rw [e] at this;obtain ⟨o,l,c,d,b⟩:=this;exact ⟨o,l,c,f l ps d b,b⟩
theorem M9 (h:BnA K H l ps)(t:Gn H H')(s:∀o,H l=some o->H' l=some o):BnA K H' l ps:=by
 obtain ⟨xs,b,c,d⟩:=h;exact ⟨xs,s _ b,Cp t (De JZ ps) c,d⟩
theorem DicB.keep (h:DicB K H q kvs S)(s:Same H H'):DicB K H' q kvs S:=h.map λ l ps b _=>b.keep s
theorem dI {c:List (Key×V)}(h:H a=some (.dK c))(s:SD a H H'):Gn H H':=λ b d=>⟨λ e=>s b _ (λ z=>by rw [z,h] at e;cases e) e,λ o e=>s b _ (λ z=>by rw [z,h] at e;cases e) e⟩
theorem cX {c:List (Key×V)}(h:BnA K H l ps)(ha:H a=some (.dK c))(s:SD a H H'):BnA K H' l ps:=by
 refine M9 h (dI ha s) λ o e=>s _ _ (λ z=>?_) e
 obtain ⟨xs,b,_⟩:=h;rw [z,ha] at b;cases b
theorem DicB.keepD {c:List (Key×V)}(h:DicB K H q kvs S)(ha:H a=some (.dK c))(s:SD a H H'):DicB K H' q kvs S:=h.map λ l ps b _=>cX b ha s
theorem DicB.sd {xs:List V}(h:DicB K H q kvs S)(c:H a=some (.lst xs))(ha:a∈q)(s:SD a H H'):DicB K H' q kvs S:=h.map λ l ps b n=>M9 b (s.t c) λ o e=>s _ _ (λ z=>n (z▸ha)) e
theorem DicB.nil:DicB K H q [] (λ _=>none):=λ _=>rfl
theorem DicB.put (h:DicB K H q kvs S)(b:BnA K H l ps)(n:l∉q)(o:OkB ps):DicB K H q (putK kvs (.inr x) (.ref l)) (setB S x ps):=λ y=>by
 unfold setB;by_cases e:y=x
 ·subst e;rw [if_pos rfl];exact ⟨o,l,by rw [ZP,if_pos rfl],b,n⟩
 ·rw [if_neg e];have c:¬ (xc y:Key)=.inr x:=λ z=>e (xc.inj z)
  have:=h y;cases f:S y with
  | none=>rw [f] at this;rw [show valV (putK kvs (.inr x) (.ref l)) (.inr y)=valV kvs (.inr y) by rw [ZP,if_neg c]];exact this
  | some qs=>
   rw [f] at this;obtain ⟨o,l,d,g,i⟩:=this;exact ⟨o,l,by rw [ZP,if_neg c];exact d,g,i⟩
end
theorem Ag2 (a:List (Key×V))(k:Key)(v:V):(putK a k v).length<=a.length+1:=by
 unfold putK
 split
 ·rw [Y2];omega
 ·simp
structure DkA (K:FrG)(H:Hp)(q:List Addr)(C o dx d:Addr)(S:Ep)(n:Nat):Prop where
 o:H o=some (.ins C dx [("benches",.ref d)])
 d:∃kvs,H d=some (.dK kvs)/\kvs.length<=n/\DicB K H q kvs S
section
variable {K:FrG}{H H':Hp}{q:List Addr}{C o dx d a l:Addr}{S:Ep}{n:Nat}{ps:List Pc}{x:Str}
theorem DkA.keep (h:DkA K H q C o dx d S n)(s:Same H H'):DkA K H' q C o dx d S n:=by
 obtain ⟨b,c,e,f⟩:=h.d;exact ⟨s _ _ h.o,b,s _ _ c,e,f.keep s⟩
theorem DkA.sd {xs:List V}(h:DkA K H q C o dx d S n)(b:H a=some (.lst xs))(ha:a∈q)(s:SD a H H'):DkA K H' q C o dx d S n:=by
 obtain ⟨f,c,g,i⟩:=h.d;exact ⟨s _ _ (λ e=>by have:=h.o;rw [e,b] at this;cases this) h.o,f,s _ _ (λ e=>by rw [e,b] at c;cases c) c,g,i.sd b ha s⟩
theorem DkA.ok (h:DkA K H q C o dx d S n)(e:S x=some ps):OkB ps:=by
 obtain ⟨c,f,g,b⟩:=h.d;exact (b.at e).1
theorem DkA.ne (h:DkA K H q C o dx d S n):o≠d:=λ e=>by
 obtain ⟨c,b,_⟩:=h.d;have:=h.o;rw [e,b] at this;cases this
theorem DkA.put {c:List (Key×V)}(h:DkA K H q C o dx d S n)(e:H d=some (.dK c))(b:BnA K H l ps)(f:l∉q)(ok:OkB ps):DkA K (upd H d (.dK (putK c (.inr x) (.ref l)))) q C o dx d (setB S x ps) (n+1):=by
 obtain ⟨g,i,k,j⟩:=h.d;cases i.symm.trans e
 refine ⟨by rw [BP h.ne];exact h.o,_,Aq,ZE (Ag2 _ _ _) ∅,?_⟩
 exact (j.put b f ok).keepD e JN
end
inductive Ag5 (C:Addr)(vs:List V)(H:Hp)(Q:VK)(z3:XK):Prop | mk (a dx:_) (_:vs=[.ref a]) (_:H a=some (.ins C dx [])) (_:∀d,H d=none->Q .non (upd (upd H d (.dK [])) a (.ins C dx [("benches",.ref d)])))
inductive vp (K:FrG)(C:Addr)(vs:List V)(H:Hp)(Q:VK)(z3:XK):Prop | mk (o dx d:Addr) (q:List Addr) (x:Str) (S:Ep) (n:Nat) (ps:List Pc) (_:vs=[.ref o,.str x]) (_:DkA K H q C o dx d S n) (_:S x=some ps) (_:∀l,BnA K H l ps->l∉q->Q (.ref l) H)
inductive qO (K:FrG)(C:Addr)(vs:List V)(H:Hp)(Q:VK)(z3:XK):Prop | mk (o dx d:Addr) (q:List Addr) (l:Addr) (x:Str) (S:Ep) (n:Nat) (ps:List Pc) (_:vs=[.ref o,.str x,.ref l]) (_:DkA K H q C o dx d S n) (_:n<=1000) (_:BnA K H l ps) (_:l∉q) (_:OkB ps) (_:∀H',SD d H H'->DkA K H' q C o dx d (setB S x ps) (n+1)->Q (.str "ok") H')
def Nm (x:Str):Prop:=nameB x=true
def Hl (x t:Str):Str:=Z7 "bench "++x++Z7 " "++t
inductive fZ (K:FrG)(C:Addr)(vs:List V)(H:Hp)(Q:VK)(z3:XK):Prop | mk (o dx d:Addr) (q:List Addr) (x:Str) (S:Ep) (n:Nat) (ps:List Pc) (_:vs=[.ref o,.str (Hl x (CK ps))]) (_:DkA K H q C o dx d S n) (_:(∀a∈q,∃z,H a=some z)) (_:n<=1000) (_:Nm x) (_:OkB ps) (_:∀H',SD d H H'->DkA K H' q C o dx d (setB S x ps) (n+1)->Q (.str "ok") H')
inductive AK3 (vs:List V)(H:Hp)(Q:VK)(z3:XK):Prop | mk (x:Str) (_:vs=[.str x]) (_:Nm x) (_:∀H',Same H H'->Q .non H')
inductive GQ (K:FrG)(R:List Pc->List Rat->Str->Prop)(vs:List V)(H:Hp)(Q:VK)(z3:XK):Prop | mk (v u:V) (ps:List Pc) (qs:List Rat) (t:Str) (_:vs=[v,u]) (_:DV K H v (Dg ps)) (_:OkB ps) (_:DV K H u (.list (qs.map Ak))) (_:R ps qs t) (_:∀H',Same H H'->Q (.str t) H')
inductive Gr (K:FrG)(C:Addr)(u:Str)(m:Nat)(R:List Pc->List Rat->Str->Prop)(vs:List V)(H:Hp)(Q:VK)(z3:XK):Prop | mk (o dx d:Addr) (q:List Addr) (x:Str) (S:Ep) (n:Nat) (ps:List Pc) (qs:List Rat) (t:Str) (_:vs=[.ref o,.str (Ir u x qs)]) (_:DkA K H q C o dx d S n) (_:Nm x) (_:S x=some ps) (_:qs.length=m) (_:(∀q∈qs,Short q)) (_:(u=Z7 "sharp"->∃q,qs[4]?=some q/\0<=q)) (_:R ps qs t) (_:∀H',Same H H'->Q (.str t) H')
theorem Ak2:KY ⟨#[32]⟩=false:=by decide+kernel
theorem Nm.no {x:Str}(h:Nm x):32∉cl x:=λ m=>by
 have h:nameB x=true:=h;unfold nameB at h;have b:=(WJ.mp h).2;have a:=Fs.mp b ⟨#[32]⟩ (UC.mpr ⟨32,m,rfl⟩);rw [Ak2] at a;cases a
theorem Nm.len {x:Str}(h:Nm x):x.length<=8:=wU h
theorem K5 (x:Str):(cl x).length=x.length:=rfl
theorem Uj (x t:Str):cl (Hl x t)=cl (Z7 "bench")++32::(cl x++32::cl t):=by
 unfold Hl;rw [By,By,By,show cl (Z7 "bench ")=cl (Z7 "bench")++[32] by decide+kernel,show cl (Z7 " ")=[32] by decide+kernel]
 simp only [XB];rfl
theorem AG2 {x t:Str}(h:Nm x):∃r,Xt (Hl x t) (Z7 " ")=Z7 "bench"::r:=by
 have e:(Xt (Hl x t) ⟨#[32]⟩).map cl=cl (Z7 "bench")::cut 32 (cl x++32::cl t):=by
  rw [KD,Uj,JB _ (by decide+kernel)]
 have e:(Xt (Hl x t) (Z7 " ")).map cl=cl (Z7 "bench")::cut 32 (cl x++32::cl t):=e;cases f:Xt (Hl x t) (Z7 " ") with
 | nil=>rw [f] at e;cases e
 | cons a r=>
  rw [f] at e
  injection e with e1 e2
  exact ⟨r,by rw [ext e1]⟩
theorem m7 {x t:Str}(h:Nm x):(Hl x t).length=t.length+x.length+7:=by
 rw [<- K5,Uj];simp only [X9,X2,K5];rw [show (Z7 "bench").length=5 by decide+kernel]
 omega
def JQ (a t r:Int):Str:=Ug (Z7 "lens") none (some t)++⟨#[97+a.toNat]⟩++Ug (Z7 "lens") (some t) (some (t+r))
def called (z i:Int):Str:=if z % 3=0 then MZ (Z7 "m") (1+i) else JQ ((z / 24+5 * i) % 26) (z / 3 % 5) (z % 4)
theorem Xh:∀a:Fin 26,∀t:Fin 5,∀r:Fin 4,nameB (JQ (a.val:Nat) (t.val:Nat) (r.val:Nat))=true/\JQ (a.val:Nat) (t.val:Nat) (r.val:Nat)≠JQ (((a.val+5) % 26:Nat):Int) (t.val:Nat) (r.val:Nat):=by decide+kernel
theorem qt:∀i:Fin 4,nameB (MZ (Z7 "m") (1+((i.val:Nat):Int)))=true:=by decide+kernel
theorem QS (z:Int){i:Int}(b:0<=i)(h:i < 4):Nm (called z i):=by
 unfold Nm called
 split
 ·have:=qt ⟨i.toNat,by omega⟩
  have e:((i.toNat:Nat):Int)=i:=by omega
  simp only [e] at this;exact this
 ·have:=(Xh ⟨((z / 24+5 * i) % 26).toNat,by omega⟩ ⟨(z / 3 % 5).toNat,by omega⟩ ⟨(z % 4).toNat,by omega⟩).1
  have e1:((((z / 24+5 * i) % 26).toNat:Nat):Int)=(z / 24+5 * i) % 26:=by omega
  have e2:(((z / 3 % 5).toNat:Nat):Int)=z / 3 % 5:=by omega
  have a:(((z % 4).toNat:Nat):Int)=z % 4:=by omega
  simp only [e1,e2,a] at this;exact this
theorem ur:∀a:Fin 26,(Z7 "abcdefghijklmnopqrstuvwxyz").cps[a.val]?=some (97+a.val):=by decide+kernel
theorem Af2:∀t:Fin 5,∀r:Fin 4,(Ug (Z7 "lens") none (some ((t.val:Nat):Int))).length<=4/\(Ug (Z7 "lens") (some ((t.val:Nat):Int)) (some (((t.val:Nat):Int)+((r.val:Nat):Int)))).length<=4:=by decide+kernel
inductive RX (K:FrG)(vs:List V)(H:Hp)(Q:VK)(z3:XK):Prop | mk (v:V) (q:Rat) (_:vs=[v]) (_:DV K H v (Ak q)) (_:Bd 1900 q) (_:Q (.str (Ay q)) H)
def PBig (p:Pc):Prop:=p.ok/\∀q∈fracs p,Bd 1900 q
inductive gm (K:FrG)(vs:List V)(H:Hp)(Q:VK)(z3:XK):Prop | mk (v:V) (p:Pc) (_:vs=[v]) (_:DV K H v (Bm p)) (_:PBig p) (_:∀H',Same H H'->Q (.str (CV p)) H')
inductive nG (K:FrG)(vs:List V)(H:Hp)(Q:VK)(z3:XK):Prop | mk (v:V) (ps:List Pc) (_:vs=[v]) (_:DV K H v (Dg ps)) (_:ps.length<=60) (_:(∀p∈ps,PBig p)) (_:∀H',Same H H'->Q (.str (CK ps)) H')
theorem Nk {m:Nat}(h:m < 2 ^ 1900):m.log2 < 1920:=Fr.kW (UU h (by decide+kernel)) ⋯
theorem Hk {q:Rat}(h:Short q):Bd 1900 q:=by
 have a:(10:Nat) ^ 15<=2 ^ 1900:=by decide+kernel
 exact ⟨Y4 h.n a,Y4 h.d a⟩
theorem PBig.of {p:Pc}(h:Et p):PBig p:=⟨h.1,λ q a=>Hk (h.2 q a)⟩
theorem OkB.pbig {ps:List Pc}(h:OkB ps):∀p∈ps,PBig p:=λ p a=>.of (h.sh p a)
theorem Ql (p:Pc)(h:PBig p):∀t∈toks p,t.length<=1200:=λ t a=>by
 rcases X1.mp (show t∈wd p::(fracs p).map Ay from a) with rfl | a
 ·cases p with
  | gap _=>exact ZE (show (Z7 "gap").length<=5 by decide+kernel) ⋯
  | glass _=>exact ZE (show (Z7 "glass").length<=5 by decide+kernel) ⋯
  | stop _ _=>exact ZE (show (Z7 "stop").length<=5 by decide+kernel) ⋯
 ·obtain ⟨q,b,rfl⟩:=UC.mp a;exact M5 (h.2 q b)
theorem PBig.bd {p:Pc}(h:PBig p):p.bd 1900:=by
 cases p with
 | gap q=>exact h.2 q (by simp [fracs])
 | glass q=>exact h.2 q (by simp [fracs])
 | stop lo hi=>exact ⟨h.2 lo (by simp [fracs]),h.2 hi (by simp [fracs])⟩
inductive sJ (vs:List V)(H:Hp)(Q:VK)(z3:XK):Prop | mk (n:Int) (_:vs=[.int n]) (_:n.natAbs < 10 ^ 575) (_:∀z:Y1,cl z=(if n < 0 then [45] else [])++dg n.natAbs->Q (.str z) H)
inductive oJ (K:FrG)(vs:List V)(H:Hp)(Q:VK)(z3:XK):Prop | mk (v:V) (qs:List Rat) (_:vs=[v]) (_:(DV K H v (.list (qs.map Ak))\/DV K H v (.tuple (qs.map Ak)))) (_:(∀q∈qs,Bd 1900 q)) (_:qs.length<=60) (_:∀H',Same H H'->Q (.str (Es qs)) H')
def K1 (n:Nat):Str:=Z7 (toString (n:Int))
theorem j8 (n:Nat):cl (K1 n)=dg n:=by
 unfold K1;rw [Kv,if_neg ∅,Jn,YO]
theorem kO {z:Str}{n:Nat}(h:cl z=(if (n:Int) < 0 then [45] else [])++dg (n:Int).natAbs):z=K1 n:=ext (by
 rw [h,j8,if_neg ∅,Jn,YO])
def GZ (ps:List Pc)(r:Ad):Ad:=lastOf (wk 0 ps r).1 r
def Rj (ps:List Pc)(r:Ad):Str:=match (walk ps r).2 with
 | some n=>Z7 "stopped "++K1 n
 | none=>Z7 "by "++Es [(GZ ps r).1,(GZ ps r).2]
def vd (t:Tab):Str:=Es [t.a,t.b,t.c,t.d]
def Qp (t:Tab)(s:Rat):Str:=match img t s with
 | none=>Z7 "none"
 | some p=>Es [p,1 / (spread t s).2]
def Qu (cs:List Ad):Str:=if cs=[] then Z7 "none" else FB (Z7 ", ") (cs.map λ r=>Es [r.1,r.2])
def Kg (t:Tab)(x:Lamp)(m:Rat):Str:=if growing t x=0 then (if m < HQ t x 0 then Z7 "none" else Z7 "all") else Es [mid t x.s - reach t x m,mid t x.s+reach t x m]
def Yu (ps:List Pc)(x:Lamp)(m:Rat):Str:=match Fz (Bv ps) x.h x.s x.f x.l with
 | none=>Z7 "dark"
 | some a=>Kg (tabOf ps) ⟨x.h,x.s,a.1,a.2⟩ m
def Ob (o:Option Nat):Str:=match o with
 | none=>Z7 "never"
 | some k=>K1 k
def lO (ps:List Pc)(_:List Rat)(t:Str):Prop:=t=CK ps
def Tr (ps:List Pc)(qs:List Rat)(t:Str):Prop:=∃y u,qs=[y,u]/\Short y/\Short u/\t=Rj ps (y,u)
def oG (ps:List Pc)(_:List Rat)(t:Str):Prop:=t=vd (tabOf ps)
def lX (ps:List Pc)(_:List Rat)(t:Str):Prop:=t=CK (Cv (tabOf ps))
def cg (ps:List Pc)(qs:List Rat)(t:Str):Prop:=∃s,qs=[s]/\Bd 12 s/\t=Qp (tabOf ps) s
def pH (ps:List Pc)(qs:List Rat)(t:Str):Prop:=∃x:Box,qs=[x.a,x.b,x.c,x.d]/\x.ok/\x.bd 12/\t=Qu (GK (Bv ps) x)
def Up (ps:List Pc)(qs:List Rat)(t:Str):Prop:=∃(x:Lamp) (m:Rat),qs=[x.h,x.s,x.f,x.l,m]/\LpB 12 x/\0<=m/\Bd 12 m/\t=Yu ps x m
def iQ (ps:List Pc)(_:List Rat)(t:Str):Prop:=t=Ob (lst (tabOf ps) 6)
section
variable {ps:List Pc}{t:Tab}{x:Lamp}{m:Rat}{r:Ad}
theorem cZ {q:Rat}(h:Short q):Bd 50 q:=by
 have a:(10:Nat) ^ 15<=2 ^ 50:=by decide
 exact ⟨Y4 h.n a,Y4 h.d a⟩
theorem uN {q:Rat}{n:Nat}(h:Bd n q)(a:n<=40):Short q:=by
 have b:(2:Nat) ^ 40<=10 ^ 15:=by decide
 have c:(2:Nat) ^ n<=2 ^ 40:=JY ⋯ a
 exact ⟨by have:=h.1;omega,by have:=h.2;omega⟩
theorem OkB.tb (h:OkB ps):Tb 154 (tabOf ps):=cP h.good (ZE h.1 ⋯)
theorem OkB.tq (h:OkB ps):Tq 121 (tabOf ps):=(W2 (m:=18) h.good.bd).mono (by have:=ZH (18+2) h.1;omega)
theorem cH (h:OkB ps)(a:RB 100 r):Bd 1900 (GZ ps r).1/\Bd 1900 (GZ ps r).2:=by
 have z:=rE h.good.bd a _ (ui (XH ps r));have l:=ZH (18+1) h.1;exact ⟨z.y.mono ∅,z.u.mono ∅⟩
theorem dC (h:OkB ps){s:Rat}(f:Bd 12 s){p:Rat}(e:img (tabOf ps) s=some p):Bd 1900 p/\Bd 1900 (1 / (spread (tabOf ps) s).2):=by
 have tb:=h.tb;have b1:Bd 321 (spread (tabOf ps) s).1:=((tb.a.mul f).add tb.b).mono ⋯
 have b2:Bd 321 (spread (tabOf ps) s).2:=((tb.c.mul f).add tb.d).mono ⋯
 unfold img at e
 split at e
 ·cases e
 ·rename_i hz
  cases e
  exact ⟨((Ed 1 ⋯).sub (b1.div b2 hz)).mono ⋯,((Ex 1 ⋯).div b2 hz).mono ⋯⟩
theorem OkB.field (h:OkB ps){x:Box}(o:x.ok)(b:x.bd 12):FieldOk 67 17 (Bv ps) x:=
 ⟨o,⟨b.a.mono ⋯,b.b.mono ⋯,b.c.mono ⋯,b.d.mono ⋯⟩,by decide,λ l hl=>(AZ5 (λ p e=>(h.2 p e).2) l hl).mono (by have:=ZH (12+1) (show ps.length - 1<=5 by have:=h.1;omega);omega) (ZY _)⟩
theorem iR (h:OkB ps){x:Box}(o:x.ok)(b:x.bd 12):∀r∈GK (Bv ps) x,Bd 1900 r.1/\Bd 1900 r.2:=λ r a=>by
 have z:=(h.field o b).poly.rn r a;exact ⟨z.1.mono ⋯,z.2.mono ⋯⟩
theorem OkB.lpv (h:OkB ps)(a:LpB 12 x){c g':Rat}(e:Fz (Bv ps) x.h x.s x.f x.l=some (c,g')):LpV ⟨x.h,x.s,c,g'⟩:=by
 obtain ⟨d,g,i⟩:=ou e;have q:∀y∈Fb (Bv ps) x.h x.s,Bd 160 y:=λ y j=>(uK (m:=12) (M:=17) (λ p k=>(h.2 p k).2) a.h a.s y j).mono (by
  have:=ZH (12+2) (show ps.length - 1<=5 by have:=h.1;omega)
  omega)
 refine ⟨a.h,a.s,?_,?_,i a.o⟩
 ·rcases X1.mp d with rfl | b
  ·exact a.f.mono ⋯
  ·exact q _ b
 ·rcases X1.mp g with rfl | b
  ·exact a.l.mono ⋯
  ·exact q _ b
theorem gr (a:Tb 154 t)(b:LpV x)(d:Bd 12 m)(c:growing t x≠0):Bd 1900 (mid t x.s - reach t x m)/\Bd 1900 (mid t x.s+reach t x m):=by
 have e1:=jK a b c;have e2:=mW a b c (d.mono ⋯)
 exact ⟨(e1.sub e2).mono ⋯,(e1.add e2).mono ⋯⟩
theorem dZ (g:Tb 154 t)(det:t.det=1):(Cv t).length<=60/\∀p∈Cv t,PBig p:=by
 have one:∀{a b:Rat},Bd 156 a->Bd 156 b->¬ b=0->Bd 1900 ((1 - a) / b):=λ {a b} ha hb h=>(((Ex 1 ⋯).sub ha).div hb h).mono ⋯
 have j:∀{a:Rat},Bd 154 a->Bd 156 (0 - a):=λ {a} ha=>((Ed 1 ⋯).sub ha).mono ⋯
 have k:(Ei t).length<=4/\∀p∈Ei t,PBig p:=by
  unfold Ei
  split
  ·rename_i hb
   refine ⟨(by show 3<=4;decide),λ p i=>?_⟩
   simp only [Df,X1,ZN,or_false] at i;rcases i with rfl | rfl | rfl
   ·exact ⟨trivial,λ q f=>by rw [X8.mp f];exact one (g.a.mono ⋯) (g.b.mono ⋯) hb⟩
   ·exact ⟨trivial,λ q f=>by rw [X8.mp f];exact g.b.mono ⋯⟩
   ·exact ⟨trivial,λ q f=>by rw [X8.mp f];exact one (g.d.mono ⋯) (g.b.mono ⋯) hb⟩
  ·split
   ·rename_i hc
    have hc:¬ 0 - t.c=0:=λ e=>hc (by grind)
    refine ⟨(by show 3<=4;decide),λ p i=>?_⟩
    simp only [Fj,X1,ZN,or_false] at i;rcases i with rfl | rfl | rfl
    ·exact ⟨trivial,λ q f=>by rw [X8.mp f];exact one (g.d.mono ⋯) (j g.c) hc⟩
    ·exact ⟨trivial,λ q f=>by rw [X8.mp f];exact (j g.c).mono ⋯⟩
    ·exact ⟨trivial,λ q f=>by rw [X8.mp f];exact one (g.a.mono ⋯) (j g.c) hc⟩
   ·rename_i hb hc
    refine ⟨(by show 4<=4;decide),λ p i=>?_⟩
    have hb:t.b=0:=by simpa using hb
    have ha:¬ 0 - t.a=0:=λ e=>by
     have ha:t.a=0:=by grind
     have d:t.a * t.d - t.b * t.c=1:=det;rw [ha,hb] at d
     grind
    simp only [Df,X1,ZN,or_false] at i;rcases i with rfl | rfl | rfl | rfl
    ·exact ⟨trivial,λ q f=>by rw [X8.mp f];exact Ex _ ⋯⟩
    ·exact ⟨trivial,λ q f=>by rw [X8.mp f];exact one (g.a.mono ⋯) (j g.a) ha⟩
    ·exact ⟨trivial,λ q f=>by rw [X8.mp f];exact (j g.a).mono ⋯⟩
    ·exact ⟨trivial,λ q f=>by rw [X8.mp f];exact one (g.d.mono ⋯) (j g.a) ha⟩
 unfold Cv
 split
 ·exact ⟨by decide,λ p i=>nomatch i⟩
 ·exact ⟨ZE (QL _ _) (ZE k.1 ⋯),λ p i=>k.2 p (Uw.mp i).1⟩
end
theorem gj {K:FrG}{H:Hp}{v:V}{qs:List Rat}{s:VK}(hv:DV K H v (.list (qs.map Ak))\/DV K H v (.tuple (qs.map Ak)))(big:∀q∈qs,Bd 1900 q)(t:qs.length<=60)(k:∀p n,Same H n->n p=some (.lst ((qs.map Ay).map V.str))->s (.ref p) n):
  Mf (λ c H u=>iList K (tVar 0) c H u\/iTup K (tVar 0) c H u) (gName 0) Hz (tCall (RX K) [] E0 (tCons (tVar 0) tNil)) [none] [some v] H s:=by
 have step:∀{xs:List V},DVs K H xs (qs.map Ak)->∀(i:Nat) (x:V),xs[i]?=some x->∃r,qs[i]?=some r/\DV K H x (Ak r):=λ {xs} f i x hi=>by
  obtain ⟨d,hd,l⟩:=f.get hi;rw [Yf] at hd;obtain ⟨r,j,rfl⟩:=yk.mp hd;exact ⟨r,j,l⟩
 have m:∀{i:Nat} {r:Rat},qs[i]?=some r->((qs.take i).map Ay).map V.str++[V.str (Ay r)]=((qs.take (i+1)).map Ay).map V.str:=λ {i r} e=>by
  rw [YU,e,ZB,ZB];rfl
 have few:∀i,(((qs.take i).map Ay).map V.str).length<=Y3:=λ i=>by
  rw [Y2,Y2,YG];exact XG (small1000 ∅)
 rcases hv with hv | hv
 ·obtain ⟨b,xs,rfl,hb,f⟩:=hv.lst_of;have hl:xs.length=qs.length:=by have:=f.len;rw [Y2] at this;exact this
  refine .inl ⟨_,rfl,b,rfl,⟨_,hb⟩,?_⟩;refine JD (K:=K) (a:=b) (xs:=xs) (λ i c g h=>∃c0,c=[c0]/\g=((qs.take i).map Ay).map V.str/\h=H) ⟨_,rfl,rfl,rfl⟩ ?_ ?_ ?_
  ·rintro i c g h hi ⟨c0,rfl,rfl,rfl⟩
   exact ⟨few i,hb⟩
  ·rintro i x c g h hi ⟨c0,rfl,rfl,rfl⟩
   obtain ⟨r,j,l⟩:=step f i x hi;exact ⟨_,rfl,x,r,rfl,l,big r (ZI j),nx (CQ hi) ⟨_,rfl,m j,rfl⟩⟩
  ·rintro c g h p ⟨c0,rfl,rfl,rfl⟩ o
   rw [hl,YX];exact k p _ (Ao o _) Aq
 ·obtain ⟨b,xs,rfl,hb,f⟩:=hv.tup_of;have hl:xs.length=qs.length:=by have:=f.len;rw [Y2] at this;exact this
  refine .inr ⟨_,rfl,b,rfl,⟨_,hb⟩,?_⟩;refine Mm (K:=K) (a:=b) (xs:=xs) (λ i c g h=>∃c0,c=[c0]/\g=((qs.take i).map Ay).map V.str/\h=H) ⟨_,rfl,rfl,rfl⟩ ?_ ?_ ?_
  ·rintro i c g h hi ⟨c0,rfl,rfl,rfl⟩
   exact ⟨few i,hb⟩
  ·rintro i x c g h hi ⟨c0,rfl,rfl,rfl⟩
   obtain ⟨r,j,l⟩:=step f i x hi;exact ⟨_,rfl,x,r,rfl,l,big r (ZI j),nx (CQ hi) ⟨_,rfl,m j,rfl⟩⟩
  ·rintro c g h p ⟨c0,rfl,rfl,rfl⟩ o
   rw [hl,YX];exact k p _ (Ao o _) Aq
theorem mX {y u:Rat}(a:Short y)(b:Short u):RB 100 (y,u):=Rb.of (cZ a) (cZ b)
theorem Ju {qs:List Rat}(h:∀q∈qs,Bd 1900 q)(hl:qs.length<=5):(Es qs).length<=6005:=by
 unfold Es;rw [Ew,Iw];have a:=UJ (qs.map Ay);rw [zb] at a;have c:(qs.map ((λ t:Y1=>t.length+1) ∘ Ay)).sum<=qs.length * 1201:=JT λ q b=>xh (M5 (h q b))
 have d:=ZH 1201 hl;omega
theorem cC {cs:List Ad}(h:∀r∈cs,Bd 1900 r.1/\Bd 1900 r.2)(hl:cs.length<=16):JoinOk (Z7 ", ") (cs.map λ r=>Es [r.1,r.2])=true:=by
 refine WO ?_ (by decide+kernel)
 have c:((cs.map λ r=>Es [r.1,r.2]).map (·.length)).sum<=cs.length * 6005:=by
  rw [zb];exact JT λ r b=>Ju (qs:=[r.1,r.2]) (λ q a=>by
   rcases X1.mp a with rfl | a
   ·exact (h r b).1
   ·rw [X8.mp a];exact (h r b).2) (by show 2<=5;decide)
 have d:=ZH 6005 hl;rw [Y2];omega
theorem all2 {a b:Rat}(ha:Bd 1900 a)(hb:Bd 1900 b):∀q∈[a,b],Bd 1900 q:=λ q c=>by
 rcases X1.mp c with rfl | c
 ·exact ha
 ·rw [X8.mp c];exact hb
inductive xg (K:FrG)(vs:List V)(H:Hp)(Q:VK)(z3:XK):Prop | mk (v u:V) (ps:List Pc) (s:Rat) (_:vs=[v,u]) (_:DV K H v (Dg ps)) (_:OkB ps) (_:DV K H u (Ak s)) (_:Bd 12 s) (_:∀H',Same H H'->Q (.str (Qp (tabOf ps) s)) H')
inductive z8 (K:FrG)(vs:List V)(H:Hp)(Q:VK)(z3:XK):Prop | mk (v u:V) (ps:List Pc) (x:Box) (e:Rat) (_:vs=[v,u]) (_:DV K H v (Dg ps)) (_:OkB ps) (_:DV K H u (.list ([x.a,x.b,x.c,x.d,e].map Ak))) (_:x.ok) (_:x.bd 12) (_:∀H',Same H H'->Q (.str (Qu (GK (Bv ps) x))) H')
inductive AH2 (K:FrG)(vs:List V)(H:Hp)(Q:VK)(z3:XK):Prop | mk (v:V) (ps:List Pc) (_:vs=[v]) (_:DV K H v (Dg ps)) (_:OkB ps) (_:∀H',Same H H'->Q (.str (Ob (lst (tabOf ps) 6))) H')
theorem AG4 {n:Nat}(h:n < 2 ^ 1900):(K1 n).length<=575:=by
 rw [<- K5,j8];exact (Fp ⋯).mpr (Y4 h G8)
theorem o9 {n:Nat}(h:n < 8):n < 2 ^ 1900:=Y4 (show n < 2 ^ 3 by omega) (JY ⋯ ⋯)
theorem jE {n:Nat}(h:n < 8):(n:Int).natAbs < 10 ^ 575:=by
 rw [YO];exact Y4 (o9 h) G8
def BnL (K:FrG)(H:Hp)(bs:List Addr)(a:List (List Pc)):Prop:=bs.length=a.length/\∀(i:Nat) (b:Addr) (ps:List Pc),bs[i]?=some b->a[i]?=some ps->BnA K H b ps
section
variable {K:FrG}{H H':Hp}{bs:List Addr}{pss:List (List Pc)}{b l q:Addr}{ps:List Pc}
theorem BnL.map (h:BnL K H bs pss)(f:∀b∈bs,∀ps,BnA K H b ps->BnA K H' b ps):BnL K H' bs pss:=⟨h.1,λ i b ps hb a=>f b (ZI hb) ps (h.2 i b ps hb a)⟩
theorem BnL.keep (h:BnL K H bs pss)(s:Same H H'):BnL K H' bs pss:=h.map λ _ _ _ z=>z.keep s
theorem BnL.sd {xs:List V}(h:BnL K H bs pss)(hl:H l=some (.lst xs))(s:SD l H H')(n:∀b∈bs,b≠l):BnL K H' bs pss:=h.map λ b hb ps z=>M9 z (s.t hl) λ o e=>s _ _ (n b hb) e
theorem BnL.sdD {a:List (Key×V)}(h:BnL K H bs pss)(hl:H l=some (.dK a))(s:SD l H H'):BnL K H' bs pss:=h.map λ _ _ _ z=>cX z hl s
theorem BnL.snoc (h:BnL K H bs pss)(z:BnA K H b ps):BnL K H (bs++[b]) (pss++[ps]):=⟨by rw [X9,X9,h.1];rfl,λ i d c hb a=>by
 by_cases hi:i < bs.length
 ·rw [UD hi] at hb;rw [UD (by rw [<- h.1];exact hi)] at a
  exact h.2 i _ _ hb a
 ·have hl:=CQ hb;rw [X9] at hl;have e:i=bs.length:=by simp only [X2,YH] at hl;omega
  subst e;rw [Qx (ZY _),Nat.sub_self] at hb;rw [Qx (by rw [h.1];exact ZY _),h.1,Nat.sub_self] at a
  cases hb
  cases a
  exact z⟩
theorem BnL.set (h:BnL K H bs pss){i:Nat}(z:BnA K H b ps):BnL K H (bs.set i b) (pss.set i ps):=⟨by rw [QU,QU,h.1],λ j g f hb a=>by
 by_cases e:i=j
 ·subst e;have c:=CQ hb;have d:=CQ a;rw [QU] at c d;rw [UQ c] at hb;rw [UQ d] at a;cases hb
  cases a
  exact z
 ·rw [yY e] at hb a;exact h.2 j _ _ hb a⟩
end
structure Lw69 (K:FrG)(H:Hp)(C o dx d ln lb q c:Addr)(L:List V)(S:Ep)(n:Nat)(z:Int)(bs:List Addr)(pss:List (List Pc)):Prop where
 dr:DrA H q c L
 ds:DkA K H [q,lb] C o dx d S n
 nm:H ln=some (.lst ((WC 4).map λ k=>V.str (called z (k:Nat))))
 hl:H lb=some (.lst (bs.map V.ref))
 nn:ln≠q/\lb≠q/\ln≠lb/\lb≠c
 bl:BnL K H bs pss
 bn:∀b∈bs,b≠q/\b≠lb
 m:2<=bs.length/\bs.length<=3
 ok:∀ps∈pss,OkB ps
 sx:∀(i:Nat) (ps:List Pc),pss[i]?=some ps->S (called z i)=some ps
theorem cV {b:Type}{l:List b}{i:Nat}{a x:b}(h:x∈l.set i a):x∈l\/x=a:=by
 rcases List.mem_or_eq_of_mem_set h with h | h
 ·exact .inl h
 ·exact .inr h
section
variable {K:FrG}{H H':Hp}{C o dx d ln lb q c:Addr}{L:List V}{S:Ep}{n:Nat}{z:Int}{bs:List Addr}{pss:List (List Pc)}
theorem Lw69.keep (h:Lw69 K H C o dx d ln lb q c L S n z bs pss)(s:Same H H'):Lw69 K H' C o dx d ln lb q c L S n z bs pss:=⟨h.dr.keep s,h.ds.keep s,s _ _ h.nm,s _ _ h.hl,h.nn,h.bl.keep s,h.bn,h.m,h.ok,h.sx⟩
theorem Lw69.draw (h:Lw69 K H C o dx d ln lb q c L S n z bs pss)(dr:DrA H' q c L)(s:SD q H H'):Lw69 K H' C o dx d ln lb q c L S n z bs pss:=by
 obtain ⟨a,k,_,e⟩:=h.dr.d;exact ⟨dr,h.ds.sd e ZA s,s _ _ h.nn.1 h.nm,s _ _ h.nn.2.1 h.hl,h.nn,h.bl.sd e s λ b hb=>(h.bn b hb).1,h.bn,h.m,h.ok,h.sx⟩
theorem Lw69.there (h:Lw69 K H C o dx d ln lb q c L S n z bs pss):∀a∈[q,lb],∃z,H a=some z:=λ a ha=>by
 rcases X1.mp ha with rfl | ha
 ·obtain ⟨_,_,_,b⟩:=h.dr.d;exact ⟨_,b⟩
 ·rw [X8.mp ha];exact ⟨_,h.hl⟩
theorem Lw69.ps (h:Lw69 K H C o dx d ln lb q c L S n z bs pss){i:Nat}(hi:i < bs.length):∃b ps,bs[i]?=some b/\BnA K H b ps/\OkB ps/\S (called z i)=some ps:=by
 have a:i < pss.length:=by rw [<- h.bl.1];exact hi
 have e1:=Yi hi;have e2:=Yi a;exact ⟨_,_,e1,h.bl.2 i _ _ e1 e2,h.ok _ (ZI e2),h.sx i _ e2⟩
theorem AG6:∀a:Fin 26,∀t:Fin 5,∀r:Fin 4,JQ (a.val:Nat) (t.val:Nat) (r.val:Nat)≠JQ (((a.val+10) % 26:Nat):Int) (t.val:Nat) (r.val:Nat):=by decide+kernel
theorem AO8 (z:Int):called z 0≠called z 1/\called z 0≠called z 2/\called z 1≠called z 2:=by
 unfold called
 split
 ·exact ⟨by decide+kernel,by decide+kernel,by decide+kernel⟩
 ·have e2:(((z / 3 % 5).toNat:Nat):Int)=z / 3 % 5:=by omega
  have f:(((z % 4).toNat:Nat):Int)=z % 4:=by omega
  have a:=(Xh ⟨((z / 24+5 * 0) % 26).toNat,by omega⟩ ⟨(z / 3 % 5).toNat,by omega⟩ ⟨(z % 4).toNat,by omega⟩).2
  have b:=AG6 ⟨((z / 24+5 * 0) % 26).toNat,by omega⟩ ⟨(z / 3 % 5).toNat,by omega⟩ ⟨(z % 4).toNat,by omega⟩
  have e:=(Xh ⟨((z / 24+5 * 1) % 26).toNat,by omega⟩ ⟨(z / 3 % 5).toNat,by omega⟩ ⟨(z % 4).toNat,by omega⟩).2
  have g:((((z / 24+5 * 0) % 26).toNat:Nat):Int)=(z / 24+5 * 0) % 26:=by omega
  have h:((((z / 24+5 * 1) % 26).toNat:Nat):Int)=(z / 24+5 * 1) % 26:=by omega
  have b1:(((((z / 24+5 * 0) % 26).toNat+5) % 26:Nat):Int)=(z / 24+5 * 1) % 26:=by omega
  have b2:(((((z / 24+5 * 0) % 26).toNat+10) % 26:Nat):Int)=(z / 24+5 * 2) % 26:=by omega
  have b3:(((((z / 24+5 * 1) % 26).toNat+5) % 26:Nat):Int)=(z / 24+5 * 2) % 26:=by omega
  simp only [g,h,b1,b2,b3,e2,f] at a b e;exact ⟨a,b,e⟩
theorem jZ {z:Int}{i j:Nat}(hi:i < 3)(a:j < 3)(h:called z i=called z j):i=j:=by
 obtain ⟨b,e,f⟩:=AO8 z;have hi:i=0\/i=1\/i=2:=by omega
 have a:j=0\/j=1\/j=2:=by omega
 rcases hi with rfl | rfl | rfl
 ·rcases a with rfl | rfl | rfl
  ·rfl
  ·exact absurd h b
  ·exact absurd h e
 ·rcases a with rfl | rfl | rfl
  ·exact absurd h.symm b
  ·rfl
  ·exact absurd h f
 ·rcases a with rfl | rfl | rfl
  ·exact absurd h.symm e
  ·exact absurd h.symm f
  ·rfl
theorem Lw69.put (h:Lw69 K H C o dx d ln lb q c L S n z bs pss){i:Nat}{b:Addr}{ps:List Pc}(hb:BnA K H b ps)(w:b≠q/\b≠lb)(ok:OkB ps)(hi:i < bs.length):
  DkA K (upd H lb (.lst ((bs.set i b).map V.ref))) [q,lb] C o dx d S n/\BnA K (upd H lb (.lst ((bs.set i b).map V.ref))) b ps/\SD lb H (upd H lb (.lst ((bs.set i b).map V.ref)))/\
   ∀u H',Same (upd H lb (.lst ((bs.set i b).map V.ref))) u->SD d u H'->DkA K H' [q,lb] C o dx d (setB S (called z i) ps) (n+1)->Lw69 K H' C o dx d ln lb q c L (setB S (called z i) ps) (n+1) z (bs.set i b) (pss.set i ps):=by
 have k:SD lb H (upd H lb (.lst ((bs.set i b).map V.ref))):=JN;have b1:BnA K (upd H lb (.lst ((bs.set i b).map V.ref))) b ps:=M9 hb (k.t h.hl) λ o e=>k _ _ w.2 e
 have x:=(h.bl.sd h.hl k λ b hb=>(h.bn b hb).2).set (i:=i) b1
 have a:=h.dr.keepD k h.nn.2.1.symm h.nn.2.2.2.symm;have f:=k _ _ h.nn.2.2.1 h.nm;have g:(upd H lb (.lst ((bs.set i b).map V.ref))) lb=some (.lst ((bs.set i b).map V.ref)):=Aq;have v:=h.ds.sd h.hl (W1 _ (X8.mpr rfl)) k;refine ⟨v,b1,k,λ u H' s sd ds=>?_⟩
 generalize upd H lb (.lst ((bs.set i b).map V.ref))=G at x a f g v s;have a:=a.keep s;have f:=s _ _ f;have g:=s _ _ g;obtain ⟨F,l,_,_⟩:=(v.keep s).d;refine ⟨a.keepD sd (λ e=>by obtain ⟨_,_,_,y⟩:=a.d;rw [e,l] at y;cases y) (λ e=>by have:=a.c;rw [e,l] at this;cases this),ds,sd _ _ (λ e=>by rw [e,l] at f;cases f) f,sd _ _ (λ e=>by rw [e,l] at g;cases g) g,h.nn,(x.keep s).sdD l sd,λ D A=>?_,by rw [QU];exact h.m,λ p E=>?_,λ j p r=>?_⟩
 ·rcases cV A with h' | rfl
  ·exact h.bn D h'
  ·exact w
 ·rcases cV E with h' | rfl
  ·exact h.ok p h'
  ·exact ok
 ·unfold setB;have B:=CQ r;rw [QU,<- h.bl.1] at B;have I:=h.m.2;by_cases e:i=j
  ·subst e;rw [UQ (by rw [<- h.bl.1];exact hi)] at r
   rw [if_pos rfl];exact r
  ·rw [yY e] at r;rw [if_neg (λ z=>e (jZ ∅ ∅ z).symm)]
   exact h.sx j p r
end
inductive Ab2 (vs:List V)(H:Hp)(Q:VK)(z3:XK):Prop | mk (z i:Int) (_:vs=[.int z,.int i]) (_:0<=z) (_:z < 2147483647) (_:0<=i) (_:i < 4) (_:Q (.str (called z i)) H)
inductive xY (K:FrG)(vs:List V)(H:Hp)(Q:VK)(z3:XK):Prop | mk (d c:Addr) (L:List V) (m:Nat) (_:vs=[.ref d,.int (m:Int),.int 0]) (_:m<=3) (_:DrA H d c L) (_:∀(l:Addr) (bs:List Addr) (pss:List (List Pc)) H',DrA H' d c L->SD d H H'->H l=none->(∀b∈bs,H b=none/\b≠l)->H' l=some (.lst (bs.map V.ref))->bs.length=m->BnL K H' bs pss->(∀ps∈pss,OkB ps)->Q (.ref l) H')
theorem wX:∀{p:Pc},p.bd 12->p.fd 12 17
 | .gap _,h=>h
 | .glass _,h=>h
 | .stop _ _,h=>⟨h.1.mono ⋯,h.2.mono ⋯⟩
inductive vR (K:FrG)(C:Addr)(vs:List V)(H:Hp)(Q:VK)(z3:XK):Prop | mk (q c:Addr) (L:List V) (z:Int) (_:vs=[.ref q,.int z,.int 0]) (_:DrA H q c L) (_:0<=z) (_:z < 2147483647) (_:∀(r o dx d ln lb:Addr) (S:Ep) (n:Nat) (bs:List Addr) (pss:List (List Pc)) H',SD q H H'->H' r=some (.lst [.ref o,.ref ln,.ref lb])->n<=3->Lw69 K H' C o dx d ln lb q c L S n z bs pss->Q (.ref r) H')
structure P5 (a b c d e:Rat):Prop where
 ha:Bd 12 a
 hb:Bd 12 b
 hc:Bd 12 c
 hd:Bd 12 d
 he:Bd 12 e
 ab:a<=b
 cd:c<=d
 e0:0<=e
inductive rW (K:FrG)(vs:List V)(H:Hp)(Q:VK)(z3:XK):Prop | mk (q c:Addr) (L:List V) (_:vs=[.ref q]) (_:DrA H q c L) (_:∀(l:Addr) (xs:List V) (r0 r1 r2 r3 r4:Rat) H',DrA H' q c L->SD q H H'->H l=none->H' l=some (.lst xs)->DVs K H' xs ([r0,r1,r2,r3,r4].map Ak)->P5 r0 r1 r2 r3 r4->Q (.ref l) H')
theorem Zj {K:FrG}{H a:Hp}{l d c:Addr}{xs:List V}{k:List V}{g:List V}{ds:List Zh}(hl:a l=some (.lst xs))(nd:d≠l)(h:c≠l)(i:H l=none)(hd:DrA a d c k)(s:SD d H a)(dv:DVs K a g ds)(zs:List V)(j:Hh ds=true:=by rfl):
  DrA (upd a l (.lst zs)) d c k/\SD d H (upd a l (.lst zs))/\DVs K (upd a l (.lst zs)) g ds/\(upd a l (.lst zs)) l=some (.lst zs)/\SD l a (upd a l (.lst zs)):=by
 have f:SD l a (upd a l (.lst zs)):=JN;exact ⟨hd.keepD f nd h,λ b o n e=>by rw [BP (Bt e i)];exact s b o n e,Cp (f.t hl) j dv,Aq,f⟩
theorem Ae8 {K:FrG}{H:Hp}{q:List Addr}{C o a d:Addr}(no:H o=none)(c:H a=none)(ne:a≠o)(hd:upd (upd H a (.own o)) o (.ins C a []) d=none):
  Same H (upd (upd (upd (upd H a (.own o)) o (.ins C a [])) d (.dK [])) o (.ins C a [("benches",.ref d)]))/\DkA K (upd (upd (upd (upd H a (.own o)) o (.ins C a [])) d (.dK [])) o (.ins C a [("benches",.ref d)])) q C o a d (λ _=>none) 0/\H d=none/\H o=none:=by
 have f:d≠o:=λ e=>by rw [e,Aq] at hd;cases hd
 rw [BP f] at hd;have g:d≠a:=λ e=>by rw [e,Aq] at hd;cases hd
 rw [BP g] at hd;refine ⟨λ b u e=>?_,⟨Aq,[],by rw [BP f];exact Aq,ZY _,DicB.nil⟩,hd,no⟩
 rw [BP (Bt e no),BP (Bt e hd),BP (Bt e no),BP (Bt e c)];exact e
structure Ly69 (K:FrG)(H:Hp)(C o dx d ln lb q c:Addr)(L:List V)(S:Ep)(i:Nat)(z:Int)(bs:List Addr)(pss:List (List Pc)):Prop where
 dr:DrA H q c L
 ds:DkA K H [q,lb] C o dx d S i
 nm:H ln=some (.lst ((WC 4).map λ k=>V.str (called z (k:Nat))))
 hl:H lb=some (.lst (bs.map V.ref))
 bl:BnL K H bs pss
 sx:∀(j:Nat) (ps:List Pc),j < i->pss[j]?=some ps->S (called z j)=some ps
section
variable {K:FrG}{H H':Hp}{C o dx d ln lb q c:Addr}{L:List V}{S:Ep}{i:Nat}{z:Int}{bs:List Addr}{pss:List (List Pc)}
theorem Ly69.keep (h:Ly69 K H C o dx d ln lb q c L S i z bs pss)(s:Same H H'):Ly69 K H' C o dx d ln lb q c L S i z bs pss:=⟨h.dr.keep s,h.ds.keep s,s _ _ h.nm,s _ _ h.hl,h.bl.keep s,h.sx⟩
theorem Ly69.there (h:Ly69 K H C o dx d ln lb q c L S i z bs pss):∀a∈[q,lb],∃z,H a=some z:=λ a ha=>by
 rcases X1.mp ha with rfl | ha
 ·obtain ⟨_,_,_,b⟩:=h.dr.d;exact ⟨_,b⟩
 ·rw [X8.mp ha];exact ⟨_,h.hl⟩
theorem Ly69.next (h:Ly69 K H C o dx d ln lb q c L S i z bs pss){ps:List Pc}(b:pss[i]?=some ps)(l:bs.length<=3)(sd:SD d H H')(ds:DkA K H' [q,lb] C o dx d (setB S (called z i) ps) (i+1)):Ly69 K H' C o dx d ln lb q c L (setB S (called z i) ps) (i+1) z bs pss:=by
 obtain ⟨k,a,_,_⟩:=h.ds.d;have hi:=CQ b;rw [<- h.bl.1] at hi;refine ⟨h.dr.keepD sd (λ e=>by obtain ⟨_,_,_,f⟩:=h.dr.d;rw [e,a] at f;cases f) (λ e=>by have:=h.dr.c;rw [e,a] at this;cases this),ds,sd _ _ (λ e=>by have:=h.nm;rw [e,a] at this;cases this) h.nm,sd _ _ (λ e=>by have:=h.hl;rw [e,a] at this;cases this) h.hl,h.bl.sdD a sd,λ j p m e=>?_⟩
 unfold setB;by_cases g:j=i
 ·subst g;rw [b] at e;cases e
  rw [if_pos rfl]
 ·rw [if_neg (λ z=>g (jZ ∅ ∅ z))]
  exact h.sx j p ∅ e
end
end Lib
namespace Tx
open PySem PySem.Spec PySem.Builtin PySem.Builtin.Str L2 Lib Fr Op PySem.NumText
theorem cW {c:Nat}:∀{a b u v:List Nat},c∉a->c∉b->a++c::u=b++c::v->a=b/\u=v
 | [],[],_,_,_,_,h=>⟨rfl,(WH h).2⟩
 | [],y::b,_,_,_,hb,h=>absurd (ZA) ((WH h).1▸hb)
 | x::a,[],_,_,ha,_,h=>absurd (ZA) ((WH h).1▸ha)
 | x::a,y::b,u,v,ha,hb,h=>by
  obtain ⟨d,e⟩:=WH (show x::(a++c::u)=y::(b++c::v) from h)
  obtain ⟨f,g⟩:=cW (λ z=>ha (W1 _ z)) (λ z=>hb (W1 _ z)) e
  exact ⟨by rw [d,f],g⟩
abbrev sp2:Y1:=⟨#[59,32]⟩
theorem LC (a b:Y1)(r:List Y1):cl (Yk sp2 (a::b::r))=cl a++59::32::cl (Yk sp2 (b::r)):=by
 rw [JF,By,By,XB];rfl
theorem gf:∀{a us:List Y1},a≠[]->us≠[]->(∀t∈a,59∉cl t)->(∀t∈us,59∉cl t)->cl (Yk sp2 a)=cl (Yk sp2 us)->a=us
 | [],_,h,_,_,_,_=>absurd rfl h
 | _,[],_,h,_,_,_=>absurd rfl h
 | [t],[u],_,_,_,_,h=>by rw [ext (show cl t=cl u from h)]
 | [t],u::v::r,_,_,b,_,h=>by
  rw [LC] at h;have h:cl t=_:=h;exact absurd (by rw [h];simp) (b t ZA)
 | t::s::r,[u],_,_,_,c,h=>by
  rw [LC] at h;have h:_=cl u:=h;exact absurd (by rw [<- h];simp) (c u ZA)
 | t::s::r,u::v::q,_,_,b,c,h=>by
  rw [LC,LC] at h;obtain ⟨e,f⟩:=cW (b t ZA) (c u ZA) h;rw [ext e,gf (by simp) (by simp) (λ x d=>b x (W1 _ d)) (λ x d=>c x (W1 _ d)) (WH f).2]
theorem nZ:∀{b:List Y1},(∀t∈b,59∉cl t)->∀k,(cl (Yk sp2 b))[k]?=some 59->(cl (Yk sp2 b))[k+1]?=some 32
 | [],_,k,h=>by cases h
 | [t],a,k,h=>absurd (ZI (show (cl t)[k]?=some 59 from h)) (a t ZA)
 | t::u::r,a,k,h=>by
  rw [LC] at h ⊢;by_cases c:k < (cl t).length
  ·rw [UD c] at h;exact absurd (ZI h) (a t ZA)
  ·rw [Qx ∅] at h ⊢
   rw [show k+1 - (cl t).length=(k - (cl t).length)+1 by omega]
   generalize k - (cl t).length=j at h ⊢
   match j,h with
   | 0,_=>rfl
   | 1,h=>cases h
   | j+2,h=>exact nZ (λ x d=>a x (W1 _ d)) j h
open StrLaws in
theorem iU {x:Y1}{k:Nat}(b:x.cps.toList[k]?=some 59)(a:x.cps.toList[k+1]?=some 32):At x sp2 x.length k:=by
 obtain ⟨hl,_⟩:=YL.mp a;have hl:k+1 < x.length:=by simpa [Y1.length] using hl
 refine ⟨by show k+2<=_;omega,?_⟩
 rw [subAt_eq];show ((x.cps.toList.drop k).take 2 == [59,32])=true;have e:(x.cps.toList.drop k).take 2=[59,32]:=by
  obtain ⟨c,d⟩:=YL.mp b;obtain ⟨f,g⟩:=YL.mp a;rw [UE c,UE f,d,g];rfl
 rw [e];rfl
open StrLaws in
theorem aA {x:Y1}(f:∀k,x.cps.toList[k]?=some 59->x.cps.toList[k+1]?=some 32){a b:Nat}(g:∀k,a<=k->k < b->¬ At x sp2 x.length k):59∉(xp x a b).cps.toList:=by
 intro d;rw [strSub_toList] at d;obtain ⟨j,c⟩:=uj d;have e:j < b - a:=by
  have h:j < ((x.cps.toList.drop a).take (b - a)).length:=(YL.mp c).1;rw [YG] at h;omega
 rw [GY e,qE] at c;exact g (a+j) ∅ ∅ (iU c (f _ c))
open StrLaws in
theorem lY {x:Y1}(c:∀k,x.cps.toList[k]?=some 59->x.cps.toList[k+1]?=some 32):∀(b:List Nat) (a f:Nat),ChainG x sp2 x.length a b f->(∀k,f<=k->¬ At x sp2 x.length k)->∀p∈Mu x sp2.length a b,59∉p.cps.toList
 | [],a,f,h,g,p,i=>by
  have e:f=a:=h;subst e;rw [X8.mp i];exact aA c λ k l _=>g k l
 | d::r,a,f,h,g,p,i=>by
  rcases X1.mp i with rfl | j
  ·exact aA c h.2.2.1
  ·exact lY c r _ f h.2.2.2 g p j
open StrLaws in
theorem AL0 {x:Y1}(a:∀k,x.cps.toList[k]?=some 59->x.cps.toList[k+1]?=some 32):∀p∈Xt x sp2,59∉cl p:=by
 obtain ⟨f,b,d⟩:=occ_tight x sp2 ⋯
 unfold Xt
 split
 ·rename_i hc
  intro p c g;rw [X8.mp c] at g;obtain ⟨j,i⟩:=uj g;have l:=iU i (a j i);rw [Bool.or_eq_true,decide_eq_true_eq,decide_eq_true_eq] at hc;rcases hc with h | h
  ·have:=l.1;omega
  ·have e:Gy sp2=1:=by decide+kernel
   rw [e] at h;unfold Gy at h
   split at h
   ·omega
   ·split at h<;>omega
 ·split
  ·rename_i he
   intro p c;rw [X8.mp c];have e0:Wp x sp2 0 x.length (x.length+1)=[]:=List.isEmpty_iff.mp he;rw [e0] at b;have m:f=0:=b;subst m;rw [<- sub_whole x];exact aA a λ k n _=>d k n
  ·rw [Nw];exact lY a _ 0 f b d
theorem sY {a:List Y1}(h:a≠[])(b:∀t∈a,59∉cl t):Xt (Yk sp2 a) sp2=a:=by
 refine gf (λ e=>?_) h (AL0 (nZ b)) b (by rw [ML])
 have:=PyProof.Rows.split_pos (Yk sp2 a) sp2;rw [e] at this;cases this
end Tx
namespace L2
open PySem PySem.Spec PyProof.Rows
theorem tH {X:Cx}{K:FrG}(a:X.K=K:=by rfl):OpR X (Uh .NotIn) (rIn K true):=a▸AU1
end L2
namespace Tx
open PySem PySem.Builtin PySem.Builtin.Str L2 Lib Fr Op PySem.NumText
theorem fV {c:Nat}{s:Y1}(a:c∉cl s):∀{b:List Y1},(∀t∈b,c∉cl t)->c∉cl (Yk s b)
 | [],_=>λ h=>nomatch h
 | [t],h=>h t ZA
 | t::u::r,h=>by
  rw [JF,By,By];intro m;rcases YT.mp m with m | m
  ·rcases YT.mp m with m | m
   ·exact h t ZA m
   ·exact a m
  ·exact fV a (λ x d=>h x (W1 _ d)) m
theorem vg (p:Pc):59∉cl (CV p):=by
 unfold CV;rw [Ew,Iw];refine fV ⋯ λ t a=>?_
 rcases X1.mp (show t∈wd p::(fracs p).map Ay from a) with rfl | h
 ·cases p<;>(show _∉cl (Z7 _);decide+kernel)
 ·obtain ⟨q,_,rfl⟩:=UC.mp h;exact Lp q 59 ⋯
theorem AO0 {ps:List Pc}(h:ps≠[]):Xt (CK ps) (Z7 "; ")=ps.map CV:=by
 unfold CK;rw [Ew,cJ];refine sY (λ e=>h (xl.mp e)) λ t a=>?_
 obtain ⟨p,_,rfl⟩:=UC.mp a;exact vg p
theorem Af3 (p:Pc):Xt (CV p) (Z7 " ")=toks p:=by
 have e:CK [p]=CV p:=by
  unfold CK;rw [Ew];rfl
 rw [<- e];exact iI (by simp)
theorem Rc {z:Y1}{n:Int}(h:cl z=(if n < 0 then [45] else [])++dg n.natAbs)(hl:z.length<=640):wf z=some n:=by
 by_cases a:n < 0
 ·rw [if_pos a] at h;rw [intText_neg (cs:=dg n.natAbs) h (HW _) (Oo _) (ZE hl ⋯),Xp]
  exact congrArg some ∅
 ·rw [if_neg a,Jn] at h;have e:=intText_digits (x:=z) (by show Mp (cl z);rw [h];exact HW _) (by show cl z≠[];rw [h];exact Oo _) (ZE hl ⋯)
  rw [e];show some ((digitsVal (cl z):Nat):Int)=_;rw [h,Xp];exact congrArg some ∅
theorem yc:Z7 "/"=⟨#[47]⟩:=by decide+kernel
theorem pM {q:Rat}(h:Bd 1900 q):∃a b r,Xt (Ay q) (Z7 "/")++[Z7 "1"]=a::b::r/\r.length<=1/\a.length<=640/\b.length<=640/\wf a=some q.num/\wf b=some (q.den:Int):=by
 have o:=(Fp (m:=q.num.natAbs) (k:=575) ⋯).mpr (Y4 h.1 G8)
 have p:=(Fp (m:=q.den) (k:=575) ⋯).mpr (Y4 h.2 G8)
 have e:(Xt (Ay q) (Z7 "/")).map cl=cut 47 (sh q):=by rw [yc,KD,Iv]
 have fr:47∉(if q.num < 0 then [45] else [])++dg q.num.natAbs:=λ m=>by
  rcases YT.mp m with m | m
  ·split at m
   ·exact absurd (X8.mp m) ⋯
   ·cases m
  ·exact absurd (HW _ _ m) ⋯
 have fd:47∉dg q.den:=λ m=>absurd (HW _ _ m) ⋯
 have c:∀x:Y1,cl x=(if q.num < 0 then [45] else [])++dg q.num.natAbs->x.length<=640:=λ x e=>by
  rw [<- Du,e,X9]
  split<;>simp only [X2,YH]<;>omega
 have lb:∀x:Y1,cl x=dg q.den->x.length<=640:=λ x e=>by
  rw [<- Du,e];omega
 have n:∀x:Y1,cl x=dg q.den->wf x=some (q.den:Int):=λ x e=>Rc (by rw [e,if_neg ∅,Jn,YO]) (lb x e)
 unfold sh at e;by_cases d:q.den=1
 ·rw [if_pos d,Xg,K9 fr] at e;obtain ⟨x,r,f,ex,g⟩:=uk.mp e;obtain rfl:=xl.mp g;rw [f];refine ⟨x,Z7 "1",[],rfl,by decide,c x ex,by decide+kernel,Rc ex (c x ex),?_⟩
  rw [d]
  decide+kernel
 ·rw [if_neg d,JB _ fr,K9 fd] at e;obtain ⟨x,r,f,ex,g⟩:=uk.mp e;obtain ⟨y,s,i,j,l⟩:=uk.mp g;obtain rfl:=xl.mp l;subst i;rw [f];exact ⟨x,y,[Z7 "1"],rfl,by decide,c x ex,lb y j,Rc ex (c x ex),n y j⟩
end Tx
namespace Lib
open PySem L2 Fr Op Tx
inductive AU0 (K:FrG)(vs:List V)(H:Hp)(Q:VK)(z3:XK):Prop | mk (v:V) (ps:List Pc) (_:vs=[.str (CK (Cv (tabOf ps))),v]) (_:DV K H v (Dg ps)) (_:OkB ps) (_:∀H',Same H H'->Q (.bl true) H')
theorem lq {p:Pc}(h:p.isStop=false):∃q,toks p=[wd p,Ay q]/\fracs p=[q]/\Bm p=.tuple [.str (wd p),Ak q]:=by
 cases p with
 | gap q=>exact ⟨q,rfl,rfl,rfl⟩
 | glass q=>exact ⟨q,rfl,rfl,rfl⟩
 | stop lo hi=>cases h
end Lib
namespace Tx
open PySem PySem.Builtin PySem.Builtin.Str L2 Lib Fr Op PySem.NumText
theorem Z5 (s:Y1):∀a:List Y1,(Yk s a).length<=(a.map λ t=>t.length+s.length).sum
 | []=>WI _
 | [t]=>by rw [j1];simp
 | t::u::r=>by
  have:=Z5 s (u::r);rw [JF,<- Du,By,By,X9,X9,YJ,yQ];simp only [Du];omega
theorem oO {p:Pc}(h:PBig p):(CV p).length<=4000:=by
 unfold CV;rw [Ew];have a:(Z7 " ").length<=1:=by decide+kernel
 have c:=Z5 (Z7 " ") (toks p);have d:((toks p).map λ t=>t.length+(Z7 " ").length).sum<=(toks p).length * 1201:=JT λ t b=>Nat.add_le_add (Ql p h t b) a
 have e:=ZH 1201 (Ht p).1;omega
theorem AP8 {ps:List Pc}(h:∀p∈ps,PBig p)(hl:ps.length<=4):(CK ps).length<=16008:=by
 unfold CK;rw [Ew];have a:(Z7 "; ").length<=2:=by decide+kernel
 have b:=Z5 (Z7 "; ") (ps.map CV);rw [zb] at b;have d:(ps.map ((λ t:Y1=>t.length+(Z7 "; ").length) ∘ CV)).sum<=ps.length * 4002:=JT λ p c=>Nat.add_le_add (oO (h p c)) a
 have e:=ZH 4002 hl;omega
theorem qi:CK []=Z7 "":=by
 unfold CK;rw [Ew];rfl
end Tx
namespace Lib
open PySem L2 Fr Op Tx
theorem zM (t:Tab):(Cv t).length<=4:=by
 unfold Cv
 split
 ·decide
 ·refine ZE (QL _ _) ?_;unfold Ei
  split
  ·show 3<=4;decide
  ·split
   ·show 3<=4;decide
   ·show 4<=4;decide
theorem wH (ps:List Pc):(Xz (if (!decide (V.str (CK ps)=V.str (Z7 "")))=true then (1:Int) else 0).toNat ((Xt (CK ps) (Z7 "; ")).map V.str)).flatten=(ps.map CV).map V.str:=by
 by_cases h:ps=[]
 ·subst h;rw [qi];rfl
 ·rw [η (λ e=>jX h (V.str.inj e)),AO0 h]
  show (Xz 1 ((ps.map CV).map V.str)).flatten=_;rw [List.replicate_one,List.flatten_singleton]
def W5 (a:Int)(d b c e f:Rat):Prop:=(a=1->Short b/\Short c)/\(a≠1->P5 d b c e f)
inductive yE (K:FrG)(C:Addr)(vs:List V)(H:Hp)(Q:VK)(z3:XK):Prop | mk (o dx d:Addr) (q:List Addr) (x:Str) (S:Ep) (n:Nat) (ps:List Pc) (bv:V) (way:Int) (l:Addr) (xs:List V) (r0 r1 r2 r3 r4:Rat) (_:vs=[.ref o,.str x,bv,.int way,.ref l]) (_:DkA K H q C o dx d S n) (_:Nm x) (_:S x=some ps) (_:DV K H bv (Dg ps)) (_:H l=some (.lst xs)) (_:DVs K H xs ([r0,r1,r2,r3,r4].map Ak)) (_:W5 way r0 r1 r2 r3 r4) (_:∀H',Same H H'->Q (.bl true) H')
end Lib
namespace L2
open PySem PySem.Spec PyProof.Rows
theorem jk {a b:TS}{f:Ends}{e:St}{H:Hp}(i:St->Hp->Prop)(g:∀nx:St->Hp->Prop,(∀c d,i c d->nx c d)->a { f with nx:=nx } e H)(h:∀c d,i c d->b f c d):tSeq a b f e H:=g (b f) h
end L2
namespace Lib
open PySem L2 Fr Op Tx
theorem lF {bs:List Addr}(m:Int)(h:(0:Int) < (((bs.map V.ref).length:Nat):Int)):∃j:Nat,m % (((bs.map V.ref).length:Nat):Int)=(j:Int)/\j < bs.length:=by
 have a:=yv m (Int.ne_of_gt h);have b:=QF m h;refine ⟨(m % (((bs.map V.ref).length:Nat):Int)).toNat,by omega,?_⟩
 rw [Y2] at a b ⊢;omega
theorem AM8 {n j:Nat}(h:j < n):ixN n (j:Int)=some j:=by
 unfold ixN;rw [if_pos ∅,if_pos ∅,Qb]
end Lib
namespace K69
open PySem L2 Lib Fr Op
seal PE PT PW PA PS PSs PG PGs PI PO
def top (i:Nat):Stmt:=PySem.Challenge.pw_grindbench_k69_rows_answered.main.body.getD i (.Pass ⟨0,0,0,0⟩)
abbrev Rw:Stmt:=top 10
theorem uz:FnScope ["thing"] ["thing"] (defScope Rw):=by walk_at "s"
abbrev W3:Stmt:=top 11
theorem Jf:FnScope ["one","other","greater","lesser","rest"] ["one","other"] (defScope W3):=by walk_at "s"
abbrev Wg:Stmt:=top 12
theorem XR:FnScope ["thing","top","bottom"] ["thing"] (defScope Wg):=by walk_at "s"
abbrev W0:Stmt:=top 13
theorem Rk:FnScope ["top","bottom","divisor"] ["top","bottom"] (defScope W0):=by walk_at "s"
abbrev aW:Stmt:=top 14
theorem qD:FnScope ["one","other"] ["one","other"] (defScope aW):=by walk_at "s"
abbrev ZX:Stmt:=top 15
theorem rM:FnScope ["one","other"] ["one","other"] (defScope ZX):=by walk_at "s"
abbrev Za:Stmt:=top 16
theorem rJ:FnScope ["one","other"] ["one","other"] (defScope Za):=by walk_at "s"
abbrev Wk:Stmt:=top 17
theorem qe:FnScope ["one","other"] ["one","other"] (defScope Wk):=by walk_at "s"
abbrev Wz:Stmt:=top 18
theorem AP0:FnScope ["one","other"] ["one","other"] (defScope Wz):=by walk_at "s"
abbrev Ku:Stmt:=top 28
theorem AM2:FnScope ["thing"] ["thing"] (defScope Ku):=by walk_at "s"
abbrev Yz:Stmt:=top 29
theorem vO:FnScope ["told"] ["told"] (defScope Yz):=by walk_at "s"
abbrev Rg:Stmt:=top 30
theorem Zf:FnScope ["bench","number","thing"] ["bench"] (defScope Rg):=by walk_at "s"
abbrev R0:Stmt:=top 35
theorem AK0:FnScope ["thing"] ["thing"] (defScope R0):=by walk_at "s"
abbrev W4:Stmt:=top 36
theorem Ac2:FnScope ["table"] ["table"] (defScope W4):=by walk_at "s"
abbrev Wq:Stmt:=top 37
theorem qF:FnScope ["high","slanted"] ["high","slanted"] (defScope Wq):=by walk_at "s"
abbrev Wv:Stmt:=top 38
theorem JL:FnScope ["bench","high","slanted","told","piece"] ["bench"] (defScope Wv):=by walk_at "s"
abbrev Tj:Stmt:=top 39
theorem XN:FnScope ["table","ray","height","slant"] ["table","ray"] (defScope Tj):=by walk_at "s"
abbrev Ut:Stmt:=top 40
theorem AV0:FnScope ["first","second"] ["first","second"] (defScope Ut):=by walk_at "s"
abbrev UV:Stmt:=top 42
theorem xJ:FnScope ["one"] ["one"] (defScope UV):=by walk_at "s"
abbrev WQ:Stmt:=top 43
theorem AM3:FnScope ["one","whole"] ["one","whole"] (defScope WQ):=by walk_at "s"
abbrev Sx:Stmt:=top 44
theorem Ue:FnScope ["table","first","last"] ["table"] (defScope Sx):=by walk_at "s"
abbrev Vz:Stmt:=top 45
theorem Q8:FnScope ["table","strength","first","last"] ["table"] (defScope Vz):=by walk_at "s"
abbrev Mt:Stmt:=top 46
theorem Nj:FnScope ["table","pieces"] ["table"] (defScope Mt):=by walk_at "s"
abbrev WL:Stmt:=top 48
theorem AG1:FnScope ["first","last"] ["first","last"] (defScope WL):=by walk_at "s"
abbrev U5:Stmt:=top 49
theorem AJ0:FnScope ["first","last"] ["first","last"] (defScope U5):=by walk_at "s"
abbrev Y5:Stmt:=top 50
theorem AV1:FnScope ["thing"] ["thing"] (defScope Y5):=by walk_at "s"
abbrev ZQ:Stmt:=top 51
theorem AO5:FnScope ["box"] ["box"] (defScope ZQ):=by walk_at "s"
abbrev Rz:Stmt:=top 53
theorem Gu:FnScope ["bench","limits","high","slanted","number","told","piece"] ["bench"] (defScope Rz):=by walk_at "s"
abbrev SN:Stmt:=top 55
theorem qL:FnScope ["one","other"] ["one","other"] (defScope SN):=by walk_at "s"
abbrev Ze:Stmt:=top 56
theorem RP:FnScope ["box","corners","corner"] ["box"] (defScope Ze):=by walk_at "s"
abbrev Yv:Stmt:=top 57
theorem NP:FnScope ["limit","a","b","above","below"] ["limit"] (defScope Yv):=by walk_at "s"
abbrev Yt:Stmt:=top 58
theorem Af1:FnScope ["edge","ray"] ["edge","ray"] (defScope Yt):=by walk_at "s"
abbrev Yx:Stmt:=top 59
theorem Ny:FnScope ["one","other","one_room","other_room","part","height","slant"] ["one","other","one_room","other_room"] (defScope Yx):=by walk_at "s"
abbrev OJ:Stmt:=top 60
theorem Ij:FnScope ["edge","corners","rooms","left","number","corner","before","crossing"] ["edge","corners"] (defScope OJ):=by walk_at "s"
abbrev Xr:Stmt:=top 61
theorem Kp:FnScope ["corners","least","number","corner"] ["corners"] (defScope Xr):=by walk_at "s"
abbrev VL:Stmt:=top 62
theorem Jv:FnScope ["bench","box","limits","corners","limit","edge"] ["bench","box"] (defScope VL):=by walk_at "s"
abbrev Z8:Stmt:=top 66
theorem Su:FnScope ["one","top","bottom"] ["one"] (defScope Z8):=by walk_at "s"
abbrev aP:Stmt:=top 67
theorem AQ5:FnScope ["text"] ["text"] (defScope aP):=by walk_at "s"
abbrev Ma:Stmt:=top 69
theorem K6:FnScope ["text","is_below","parts","top","bottom","one"] ["text"] (defScope Ma):=by walk_at "s"
abbrev S5:Stmt:=top 71
theorem Vx:FnScope ["table","s","height","slant"] ["table","s"] (defScope S5):=by walk_at "s"
abbrev Yc:Stmt:=top 72
theorem dB:FnScope ["table","s","spread"] ["table","s"] (defScope Yc):=by walk_at "s"
abbrev Z4:Stmt:=top 73
theorem nU:FnScope ["table","s","spread"] ["table","s"] (defScope Z4):=by walk_at "s"
abbrev TQ:Stmt:=top 75
theorem AW7:FnScope ["one","other"] ["one","other"] (defScope TQ):=by walk_at "s"
abbrev Zi:Stmt:=top 76
theorem AR2:FnScope ["one","other"] ["one","other"] (defScope Zi):=by walk_at "s"
abbrev Ym:Stmt:=top 77
theorem AK9:FnScope ["one","other"] ["one","other"] (defScope Ym):=by walk_at "s"
abbrev Yn:Stmt:=top 78
theorem Hm:FnScope ["limit","lamp","first","last","steady","rising","low","high","ends"] ["limit","lamp","first","last"] (defScope Yn):=by walk_at "s"
abbrev Ua:Stmt:=top 79
theorem Mx:FnScope ["bench","lamp","first","last","limits","slants","limit"] ["bench","lamp","first","last"] (defScope Ua):=by walk_at "s"
abbrev R3:Stmt:=top 80
theorem kI:FnScope ["table","lamp","slant","t","ahead"] ["table","lamp","slant","t"] (defScope R3):=by walk_at "s"
abbrev Us:Stmt:=top 81
theorem lQ:FnScope ["bench","lamp","slants","t","table"] ["bench","lamp","slants","t"] (defScope Us):=by walk_at "s"
abbrev Ye:Stmt:=top 82
theorem pC:FnScope ["bench","lamp","slants","t","spots"] ["bench","lamp","slants","t"] (defScope Ye):=by walk_at "s"
abbrev Xa:Stmt:=top 86
theorem Ac9:FnScope ["thing"] ["thing"] (defScope Xa):=by walk_at "s"
abbrev RW:Stmt:=top 88
theorem Je:FnScope ["bench","ray","rays","number","told","piece"] ["bench","ray"] (defScope RW):=by walk_at "s"
abbrev Vf:Stmt:=top 91
theorem Qo:FnScope ["table","power","rounds"] ["table"] (defScope Vf):=by walk_at "s"
abbrev Zy:Stmt:=top 96
theorem NK:FnScope ["bench","lamp","slants","most","table","growing","middle","reach"] ["bench","lamp","slants","most"] (defScope Zy):=by walk_at "s"
abbrev SX:Stmt:=top 105
theorem Tf:FnScope ["text","words","word"] ["text"] (defScope SX):=by walk_at "s"
abbrev RN:Stmt:=top 106
theorem Ai7:FnScope ["word"] ["word"] (defScope RN):=by walk_at "s"
abbrev j9:Stmt:=top 108
abbrev Vw:Stmt:=top 109
theorem Af5:FnScope ["reader","word","deep","times","parts"] ["reader","word","deep"] (defScope Vw):=by walk_at "s"
abbrev Zz:Stmt:=top 110
theorem O2:FnScope ["reader","deep","word","low","high"] ["reader","deep"] (defScope Zz):=by walk_at "s"
abbrev Th:Stmt:=top 112
theorem pG:FnScope ["reader","deep","parts"] ["reader","deep"] (defScope Th):=by walk_at "s"
abbrev Tw:Stmt:=top 113
theorem MN:FnScope ["parts","count","part"] ["parts"] (defScope Tw):=by walk_at "s"
abbrev TY:Stmt:=top 114
theorem Q4:FnScope ["parts","pieces","part"] ["parts"] (defScope TY):=by walk_at "s"
abbrev Ru:Stmt:=top 115
theorem Wh:FnScope ["text","reader","parts"] ["text"] (defScope Ru):=by walk_at "s"
abbrev Xk:Stmt:=top 116
theorem yV:FnScope ["piece"] ["piece"] (defScope Xk):=by walk_at "s"
abbrev YM:Stmt:=top 117
theorem AK5:FnScope ["bench"] ["bench"] (defScope YM):=by walk_at "s"
abbrev Vd:Stmt:=top 119
theorem zN:FnScope ["bench"] ["bench"] (defScope Vd):=by walk_at "s"
abbrev Xe:Stmt:=top 124
theorem AZ9:FnScope ["ratios"] ["ratios"] (defScope Xe):=by walk_at "s"
abbrev V1:Stmt:=top 125
theorem pY:FnScope ["bench","numbers"] ["bench","numbers"] (defScope V1):=by walk_at "s"
abbrev Wn:Stmt:=top 126
theorem nA:FnScope ["bench","numbers","walk"] ["bench","numbers"] (defScope Wn):=by walk_at "s"
abbrev Yp:Stmt:=top 127
theorem AU7:FnScope ["bench","numbers"] ["bench","numbers"] (defScope Yp):=by walk_at "s"
abbrev Uq:Stmt:=top 128
theorem sO:FnScope ["bench","numbers"] ["bench","numbers"] (defScope Uq):=by walk_at "s"
abbrev Ve:Stmt:=top 129
theorem Tn:FnScope ["bench","numbers","table","place"] ["bench","numbers"] (defScope Ve):=by walk_at "s"
abbrev WK:Stmt:=top 130
theorem mQ:FnScope ["bench","numbers","corners"] ["bench","numbers"] (defScope WK):=by walk_at "s"
abbrev R9:Stmt:=top 131
theorem QC:FnScope ["bench","numbers","lamp","slants","places"] ["bench","numbers"] (defScope R9):=by walk_at "s"
abbrev b8:Stmt:=top 132
theorem gM:FnScope ["bench","numbers","rounds"] ["bench","numbers"] (defScope b8):=by walk_at "s"
abbrev Y6:Stmt:=top 134
theorem AH0:FnScope ["word"] ["word"] (defScope Y6):=by walk_at "s"
abbrev Wu:Stmt:=top 135
theorem yD:FnScope ["word"] ["word"] (defScope Wu):=by walk_at "s"
abbrev Ri:Stmt:=top 137
theorem Kd:FnScope ["words","form","names","name","numbers"] ["words"] (defScope Ri):=by walk_at "s"
abbrev Xf:Stmt:=top 140
theorem AQ1:FnScope ["_law_script","_law_k"] ["_law_script","_law_k"] (defScope Xf):=by walk_at "s"
abbrev Z0:Stmt:=top 141
theorem AP1:FnScope ["_law_script","_law_start"] ["_law_script","_law_start"] (defScope Z0):=by walk_at "s"
abbrev T5:Stmt:=top 142
theorem U4:FnScope ["_law_drawn_here","_law_many","_law_cells","_law_number"] ["_law_drawn_here","_law_many"] (defScope T5):=by walk_at "s"
abbrev WD:Stmt:=top 143
theorem Pb:FnScope ["_law_top","_law_bottom","_law_one","_law_other"] ["_law_top","_law_bottom"] (defScope WD):=by walk_at "s"
abbrev Wx:Stmt:=top 144
theorem AP9:FnScope ["_law_one","_law_other"] ["_law_one","_law_other"] (defScope Wx):=by walk_at "s"
abbrev LK:Stmt:=top 145
theorem Jr:FnScope ["_law_drawn_here","_law_far","_law_top","_law_bottom"] ["_law_drawn_here","_law_far"] (defScope LK):=by walk_at "s"
abbrev Wb:Stmt:=top 146
theorem KJ:FnScope ["_law_drawn_here","_law_far","_law_way","_law_one","_law_other"] ["_law_drawn_here","_law_far"] (defScope Wb):=by walk_at "s"
abbrev V9:Stmt:=top 147
theorem AL2:FnScope ["_law_one","_law_other"] ["_law_one","_law_other"] (defScope V9):=by walk_at "s"
abbrev Vm:Stmt:=top 149
theorem uf:FnScope ["_law_one","_law_other"] ["_law_one","_law_other"] (defScope Vm):=by walk_at "s"
abbrev Tc:Stmt:=top 150
theorem NQ:FnScope ["_law_number","_law_figures","_law_left"] ["_law_number"] (defScope Tc):=by walk_at "s"
abbrev Vu:Stmt:=top 151
theorem AS3:FnScope ["_law_part_here"] ["_law_part_here"] (defScope Vu):=by walk_at "s"
abbrev Wf:Stmt:=top 152
theorem AH9:FnScope ["_law_piece_here"] ["_law_piece_here"] (defScope Wf):=by walk_at "s"
abbrev b7:Stmt:=top 153
theorem vY:FnScope ["_law_bench"] ["_law_bench"] (defScope b7):=by walk_at "s"
abbrev WN:Stmt:=top 154
theorem Vc:FnScope ["_law_number","_law_k","_law_letter","_law_at"] ["_law_number","_law_k"] (defScope WN):=by walk_at "s"
abbrev YQ:Stmt:=top 155
theorem Hq:FnScope ["_law_drawn_here","_law_many","_law_least","_law_found","_law_k","_law_bench","_law_j","_law_piece_here","_law_low_here"] ["_law_drawn_here","_law_many","_law_least"] (defScope YQ):=by walk_at "s"
abbrev Qc:Stmt:=top 156
theorem KH:FnScope ["_law_drawn_here","_law_number","_law_least","_law_names","_law_benches_here","_law_desk","_law_k"] ["_law_drawn_here","_law_number","_law_least"] (defScope Qc):=by walk_at "s"
abbrev Wi:Stmt:=top 157
theorem vU:FnScope ["_law_parts_here"] ["_law_parts_here"] (defScope Wi):=by walk_at "s"
abbrev VG:Stmt:=top 158
theorem V3:FnScope ["_law_bench","_law_parts_here","_law_rays","_law_at"] ["_law_bench","_law_parts_here"] (defScope VG):=by walk_at "s"
abbrev Vo:Stmt:=top 159
theorem jO:FnScope ["_law_bench","_law_s","_law_place"] ["_law_bench","_law_s"] (defScope Vo):=by walk_at "s"
abbrev ZS:Stmt:=top 160
theorem aX:FnScope ["_law_bench","_law_parts_here","_law_slants","_law_found"] ["_law_bench","_law_parts_here"] (defScope ZS):=by walk_at "s"
abbrev Tt:Stmt:=top 161
theorem mV:FnScope ["_law_bench","_law_parts_here","_law_corners"] ["_law_bench","_law_parts_here"] (defScope Tt):=by walk_at "s"
abbrev Rv:Stmt:=top 162
theorem Ji:FnScope ["_law_found","_law_bench","_law_told","_law_text_here","_law_word","_law_number","_law_parts_here"] ["_law_found","_law_bench"] (defScope Rv):=by walk_at "s"
abbrev X7:Stmt:=top 163
theorem iw:FnScope ["_law_bench","_law_many"] ["_law_bench"] (defScope X7):=by walk_at "s"
abbrev Ni:Stmt:=top 164
theorem Xd:FnScope ["_law_drawn_here","_law_parts_here","_law_k"] ["_law_drawn_here"] (defScope Ni):=by walk_at "s"
abbrev U6:Stmt:=top 165
theorem bN:FnScope ["_law_desk","_law_name","_law_bench","_law_way","_law_parts_here","_law_lamp"] ["_law_desk","_law_name","_law_bench","_law_way","_law_parts_here"] (defScope U6):=by walk_at "s"
abbrev KR:Stmt:=top 166
theorem GD:FnScope ["_law_script","_law_drawn_here","_law_number","_law_desk","_law_names","_law_benches_here","_law_cell","_law_parts_here","_law_at"] ["_law_script"] (defScope KR):=by walk_at "s"
abbrev Gs:Stmt:=inClass (top 24) 0
theorem cU:FnScope ["self","ray"] ["self","ray"] (defScope Gs):=by walk_at "s"
abbrev NZ:Stmt:=inClass (top 24) 1
theorem AZ1:FnScope ["self","ray"] ["self","ray"] (defScope NZ):=by walk_at "s"
abbrev Lj:Stmt:=inClass (top 25) 0
theorem AS0:FnScope ["self","length"] ["self","length"] (defScope Lj):=by walk_at "s"
abbrev Km:Stmt:=inClass (top 25) 1
theorem qU:FnScope ["self","ray"] ["self","ray"] (defScope Km):=by walk_at "s"
abbrev Ly:Stmt:=inClass (top 26) 0
theorem tY:FnScope ["self","strength"] ["self","strength"] (defScope Ly):=by walk_at "s"
abbrev MT:Stmt:=inClass (top 26) 1
theorem AH7:FnScope ["self","ray"] ["self","ray"] (defScope MT):=by walk_at "s"
abbrev M8:Stmt:=inClass (top 27) 0
theorem Aj1:FnScope ["self","low","high"] ["self","low","high"] (defScope M8):=by walk_at "s"
abbrev Lr:Stmt:=inClass (top 27) 1
theorem xG:FnScope ["self","ray"] ["self","ray"] (defScope Lr):=by walk_at "s"
abbrev Ml:Stmt:=inClass (top 104) 0
theorem zQ:FnScope ["self","words"] ["self","words"] (defScope Ml):=by walk_at "s"
abbrev N8:Stmt:=inClass (top 104) 1
theorem q9:FnScope ["self"] ["self"] (defScope N8):=by walk_at "s"
abbrev Lh:Stmt:=inClass (top 104) 2
theorem xR:FnScope ["self"] ["self"] (defScope Lh):=by walk_at "s"
abbrev Ls:Stmt:=inClass (top 104) 3
theorem vK:FnScope ["self","word"] ["self","word"] (defScope Ls):=by walk_at "s"
abbrev KZ:Stmt:=inClass (top 138) 0
theorem AN1:FnScope ["self"] ["self"] (defScope KZ):=by walk_at "s"
abbrev Kz:Stmt:=inClass (top 138) 1
theorem IV:FnScope ["self","row","words","read","names"] ["self","row"] (defScope Kz):=by walk_at "s"
abbrev Nb:Stmt:=inClass (top 138) 2
theorem lu:FnScope ["self","row","words"] ["self","row"] (defScope Nb):=by walk_at "s"
abbrev Mh:Stmt:=inClass (top 138) 3
theorem Aa2:FnScope ["self","name"] ["self","name"] (defScope Mh):=by walk_at "s"
abbrev N6:Stmt:=inClass (top 138) 4
theorem AX1:FnScope ["self","name","bench"] ["self","name","bench"] (defScope N6):=by walk_at "s"
structure Adr where
 z0:Nat:=0
 BenchError:Addr
 NoNumber:Addr
 NoText:Addr
 NoTable:Addr
 NoBox:Addr
 NoRow:Addr
 Unknown:Addr
 NoBench:Addr
 Piece:Addr
 Gap:Addr
 Glass:Addr
 Stop:Addr
 Reader:Addr
 Desk:Addr
 NOUGHT:Addr
 ONE:Addr
 LEAVING:Addr
 NOWHERE:Addr
 EVERYWHERE:Addr
 ROWS:Addr
 ROWS_join:Addr
 ROWS_turn:Addr
 ROWS_show:Addr
 ROWS_walk:Addr
 ROWS_table:Addr
 ROWS_apart:Addr
 ROWS_image:Addr
 ROWS_field:Addr
 ROWS_sharp:Addr
 ROWS_rounds:Addr
 ANSWERS:Addr
 ANSWERS_show:Addr
 ANSWERS_walk:Addr
 ANSWERS_table:Addr
 ANSWERS_apart:Addr
 ANSWERS_image:Addr
 ANSWERS_field:Addr
 ANSWERS_sharp:Addr
 ANSWERS_rounds:Addr
 tGAP:Tok
 tGLASS:Tok
 tSTOP:Tok
 tMOST_PIECES:Tok
 tFIGURES:Tok
 tMOST_FIGURES:Tok
 tPARTED:Tok
 tTIMES:Tok
 tOPENED:Tok
 tCLOSED:Tok
 tMOST_TIMES:Tok
 tMOST_DEEP:Tok
 tLETTERS:Tok
 tMOST_LETTERS:Tok
 tDONE:Tok
 tNONE:Tok
 tFROM:Tok
 tMOST_ROUNDS_OF_FRACTIONS:Tok
 pr:Fk
structure Exc (K:FrG)(mg:Str->Option Value)(ad:Adr):Prop where
 tt:True:=trivial
 O6:mg "BenchError"=some (.ref ad.BenchError)
 Ot:mg "NoNumber"=some (.ref ad.NoNumber)
 PB:mg "NoText"=some (.ref ad.NoText)
 QW:mg "NoTable"=some (.ref ad.NoTable)
 QJ:mg "NoBox"=some (.ref ad.NoBox)
 QZ:mg "NoRow"=some (.ref ad.NoRow)
 Ng:mg "Unknown"=some (.ref ad.Unknown)
 Q7:mg "NoBench"=some (.ref ad.NoBench)
 Oc:mg "Piece"=some (.ref ad.Piece)
 Mj:mg "Gap"=some (.ref ad.Gap)
 Kq:mg "Glass"=some (.ref ad.Glass)
 Ky:mg "Stop"=some (.ref ad.Stop)
 Lx:mg "Reader"=some (.ref ad.Reader)
 Mi:mg "Desk"=some (.ref ad.Desk)
 m_GAP:mg "GAP"=some (.str "gap" ad.tGAP)
 m_GLASS:mg "GLASS"=some (.str "glass" ad.tGLASS)
 m_STOP:mg "STOP"=some (.str "stop" ad.tSTOP)
 m_MOST_PIECES:mg "MOST_PIECES"=some (.int 60 ad.tMOST_PIECES)
 m_FIGURES:mg "FIGURES"=some (.str "0123456789" ad.tFIGURES)
 m_MOST_FIGURES:mg "MOST_FIGURES"=some (.int 15 ad.tMOST_FIGURES)
 m_PARTED:mg "PARTED"=some (.str ";" ad.tPARTED)
 m_TIMES:mg "TIMES"=some (.str "times" ad.tTIMES)
 Qd:mg "OPENED"=some (.str "(" ad.tOPENED)
 QK:mg "CLOSED"=some (.str ")" ad.tCLOSED)
 Qe:mg "MOST_TIMES"=some (.int 60 ad.tMOST_TIMES)
 O4:mg "MOST_DEEP"=some (.int 4 ad.tMOST_DEEP)
 m_LETTERS:mg "LETTERS"=some (.str "abcdefghijklmnopqrstuvwxyz" ad.tLETTERS)
 m_MOST_LETTERS:mg "MOST_LETTERS"=some (.int 8 ad.tMOST_LETTERS)
 m_DONE:mg "DONE"=some (.str "ok" ad.tDONE)
 m_NONE:mg "NONE"=some (.str "none" ad.tNONE)
 m_FROM:mg "FROM"=some (.str "from" ad.tFROM)
 m_MOST_ROUNDS_OF_FRACTIONS:mg "MOST_ROUNDS_OF_FRACTIONS"=some (.int 6 ad.tMOST_ROUNDS_OF_FRACTIONS)
 l_Gap:Cls K ad.Gap
 i_Gap:MkFn K mg "Gap" ad.Gap "Gap.__init__" Lj
 q_Gap_lets:MtFn K ad.Gap "lets" "Piece.lets" Gs
 q_Gap_bent:MtFn K ad.Gap "bent" "Gap.bent" Km
 n_Gap_length:NoAttr K ad.Gap "length"
 l_Glass:Cls K ad.Glass
 i_Glass:MkFn K mg "Glass" ad.Glass "Glass.__init__" Ly
 q_Glass_lets:MtFn K ad.Glass "lets" "Piece.lets" Gs
 q_Glass_bent:MtFn K ad.Glass "bent" "Glass.bent" MT
 n_Glass_strength:NoAttr K ad.Glass "strength"
 l_Stop:Cls K ad.Stop
 i_Stop:MkFn K mg "Stop" ad.Stop "Stop.__init__" M8
 q_Stop_lets:MtFn K ad.Stop "lets" "Stop.lets" Lr
 q_Stop_bent:MtFn K ad.Stop "bent" "Piece.bent" NZ
 n_Stop_low:NoAttr K ad.Stop "low"
 n_Stop_high:NoAttr K ad.Stop "high"
 l_Reader:Cls K ad.Reader
 i_Reader:MkFn K mg "Reader" ad.Reader "Reader.__init__" Ml
 q_Reader_is_done:MtFn K ad.Reader "is_done" "Reader.is_done" N8
 q_Reader_take:MtFn K ad.Reader "take" "Reader.take" Lh
 q_Reader_take_if:MtFn K ad.Reader "take_if" "Reader.take_if" Ls
 n_Reader_words:NoAttr K ad.Reader "words"
 n_Reader_place:NoAttr K ad.Reader "place"
 l_Desk:Cls K ad.Desk
 i_Desk:MkFn K mg "Desk" ad.Desk "Desk.__init__" KZ
 q_Desk_say:MtFn K ad.Desk "say" "Desk.say" Kz
 q_Desk_lay:MtFn K ad.Desk "lay" "Desk.lay" Nb
 q_Desk_bench_by:MtFn K ad.Desk "bench_by" "Desk.bench_by" Mh
 q_Desk_keep:MtFn K ad.Desk "keep" "Desk.keep" N6
 n_Desk_benches:NoAttr K ad.Desk "benches"
 m_NOUGHT:mg "NOUGHT"=some (.ref ad.NOUGHT)
 s_NOUGHT:∀H:Hp,SqT K H ad.NOUGHT [.int 0,.int 1]
 m_ONE:mg "ONE"=some (.ref ad.ONE)
 s_ONE:∀H:Hp,SqT K H ad.ONE [.int 1,.int 1]
 m_LEAVING:mg "LEAVING"=some (.ref ad.LEAVING)
 s_LEAVING:∀H:Hp,SqT K H ad.LEAVING [.ref ad.ONE,.ref ad.NOUGHT,.ref ad.NOUGHT,.ref ad.ONE]
 m_NOWHERE:mg "NOWHERE"=some (.ref ad.NOWHERE)
 s_NOWHERE:∀H:Hp,SqT K H ad.NOWHERE [.str "none"]
 m_EVERYWHERE:mg "EVERYWHERE"=some (.ref ad.EVERYWHERE)
 s_EVERYWHERE:∀H:Hp,SqT K H ad.EVERYWHERE [.str "all"]
 m_ROWS:mg "ROWS"=some (.ref ad.ROWS)
 g_ROWS:∀(P:YA) (w:World),w.params=ad.pr->DKG P w K ad.ROWS (Dd [("join",V.ref ad.ROWS_join),("turn",V.ref ad.ROWS_turn),("show",V.ref ad.ROWS_show),("walk",V.ref ad.ROWS_walk),("table",V.ref ad.ROWS_table),("apart",V.ref ad.ROWS_apart),("image",V.ref ad.ROWS_image),("field",V.ref ad.ROWS_field),("sharp",V.ref ad.ROWS_sharp),("rounds",V.ref ad.ROWS_rounds)])
 Al2:∀H:Hp,SqT K H ad.ROWS_join [.int 3,.int 0]
 Al1:∀H:Hp,SqT K H ad.ROWS_turn [.int 2,.int 0]
 s_ROWS_show:∀H:Hp,SqT K H ad.ROWS_show [.int 1,.int 0]
 s_ROWS_walk:∀H:Hp,SqT K H ad.ROWS_walk [.int 1,.int 2]
 s_ROWS_table:∀H:Hp,SqT K H ad.ROWS_table [.int 1,.int 0]
 s_ROWS_apart:∀H:Hp,SqT K H ad.ROWS_apart [.int 1,.int 0]
 s_ROWS_image:∀H:Hp,SqT K H ad.ROWS_image [.int 1,.int 1]
 s_ROWS_field:∀H:Hp,SqT K H ad.ROWS_field [.int 1,.int 4]
 s_ROWS_sharp:∀H:Hp,SqT K H ad.ROWS_sharp [.int 1,.int 5]
 s_ROWS_rounds:∀H:Hp,SqT K H ad.ROWS_rounds [.int 1,.int 0]
 m_ANSWERS:mg "ANSWERS"=some (.ref ad.ANSWERS)
 f_ANSWERS_show:mg "show_answer"=some (.ref ad.ANSWERS_show)
 f_ANSWERS_walk:mg "walk_answer"=some (.ref ad.ANSWERS_walk)
 f_ANSWERS_table:mg "table_answer"=some (.ref ad.ANSWERS_table)
 f_ANSWERS_apart:mg "apart_answer"=some (.ref ad.ANSWERS_apart)
 f_ANSWERS_image:mg "image_answer"=some (.ref ad.ANSWERS_image)
 f_ANSWERS_field:mg "field_answer"=some (.ref ad.ANSWERS_field)
 f_ANSWERS_sharp:mg "sharp_answer"=some (.ref ad.ANSWERS_sharp)
 f_ANSWERS_rounds:mg "rounds_answer"=some (.ref ad.ANSWERS_rounds)
 g_ANSWERS:∀(P:YA) (w:World),w.params=ad.pr->DKG P w K ad.ANSWERS (Dd [("show",V.ref ad.ANSWERS_show),("walk",V.ref ad.ANSWERS_walk),("table",V.ref ad.ANSWERS_table),("apart",V.ref ad.ANSWERS_apart),("image",V.ref ad.ANSWERS_image),("field",V.ref ad.ANSWERS_field),("sharp",V.ref ad.ANSWERS_sharp),("rounds",V.ref ad.ANSWERS_rounds)])
structure Txt (K:FrG)(mg:Str->Option Value)(ad:Adr):Prop where
 ex:Exc K mg ad
 abs:mg "abs"=none
 all:mg "all"=none
 bool:mg "bool"=none
 enumerate:mg "enumerate"=none
 int:mg "int"=none
 isinstance:mg "isinstance"=none
 len:mg "len"=none
 list:mg "list"=none
 range:mg "range"=none
 reversed:mg "reversed"=none
 str:mg "str"=none
 tuple:mg "tuple"=none
 Xw:TopFn K mg "is_whole" Rw
 Vb:TopFn K mg "common_divisor" W3
 W8:TopFn K mg "is_ratio" Wg
 U7:TopFn K mg "ratio_of" W0
 Uc:TopFn K mg "sum_of" aW
 XD:TopFn K mg "less_by" ZX
 VP:TopFn K mg "product_of" Za
 Xb:TopFn K mg "quotient_of" Wk
 Wj:TopFn K mg "is_less" Wz
 Rp:TopFn K mg "is_piece" Ku
 Sh:TopFn K mg "piece_of" Yz
 Ra:TopFn K mg "look_at" Rg
 au:TopFn K mg "is_table" R0
 Yb:TopFn K mg "look_at_table" W4
 RC:TopFn K mg "table_of_rays" Wq
 Ys:TopFn K mg "table_of" Wv
 T4:TopFn K mg "made_by" Tj
 YZ:TopFn K mg "joined" Ut
 Xi:TopFn K mg "less" UV
 SM:TopFn K mg "part_short_of_one" WQ
 Zo:TopFn K mg "glass_gap_glass" Sx
 RD:TopFn K mg "gap_glass_gap" Vz
 X5:TopFn K mg "taken_apart" Mt
 U0:TopFn K mg "is_stretch" WL
 aq:TopFn K mg "look_at_stretch" U5
 Ui:TopFn K mg "is_box" Y5
 Zu:TopFn K mg "look_at_box" ZQ
 Vq:TopFn K mg "limits_of" Rz
 Wy:TopFn K mg "is_before" SN
 aV:TopFn K mg "corners_of" Ze
 RJ:TopFn K mg "edges_of" Yv
 Zg:TopFn K mg "room_at" Yt
 Wl:TopFn K mg "crossing_of" Yx
 Tg:TopFn K mg "cut_by" OJ
 V4:TopFn K mg "from_the_least" Xr
 Vj:TopFn K mg "field_of" VL
 Xo:TopFn K mg "show_ratio" Z8
 W6:TopFnA K mg "read_part_figures" "read_part" aP
 X4:TopFn K mg "read_ratio" Ma
 aG:TopFn K mg "spread_of" S5
 Xu:TopFn K mg "image_of" Yc
 TV:TopFn K mg "growth_of" Z4
 Sw:TopFn K mg "in_order" TQ
 WM:TopFn K mg "lesser_of" Zi
 Zx:TopFn K mg "greater_of" Ym
 WX:TopFn K mg "slants_by" Yn
 RG:TopFn K mg "slants_of" Ua
 Yq:TopFn K mg "height_at" R3
 S7:TopFn K mg "spots_of" Us
 Rq:TopFn K mg "blur_of" Ye
 XC:TopFn K mg "is_name" Xa
 ZK:TopFn K mg "walk_of" RW
 Yw:TopFn K mg "rounds_of" Vf
 ZV:TopFn K mg "sharp_places" Zy
 Qy:TopFn K mg "words_of" SX
 WP:TopFnA K mg "read_number_texts" "read_number" RN
 gk:TopFn K mg "read_times" j9
 Vp:TopFn K mg "read_round" Vw
 Ww:TopFnA K mg "read_part_texts" "read_part" Zz
 Te:TopFn K mg "read_parts" Th
 PP:TopFn K mg "count_of" Tw
 Oz:TopFn K mg "told_out" TY
 Sv:TopFn K mg "read_bench" Ru
 Wt:TopFn K mg "show_piece" Xk
 ZD:TopFn K mg "show_bench" YM
 aQ:TopFn K mg "turned_bench" Vd
 Vg:TopFn K mg "shown" Xe
 Y8:TopFn K mg "show_answer" V1
 R5:TopFn K mg "walk_answer" Wn
 ZC:TopFn K mg "table_answer" Yp
 Ti:TopFn K mg "apart_answer" Uq
 Xx:TopFn K mg "image_answer" Ve
 Z2:TopFn K mg "field_answer" WK
 Sq:TopFn K mg "sharp_answer" R9
 Uz:TopFn K mg "rounds_answer" b8
 We:TopFn K mg "look_at_name" Y6
 YF:TopFnA K mg "read_number_desk" "read_number" Wu
 ZZ:TopFn K mg "read_row" Ri
 Rh:TopFn K mg "_law_cell_at" Xf
 aL:TopFn K mg "_law_drawn" Z0
 Wd:TopFn K mg "_law_draw" T5
 YW:TopFn K mg "_law_low" WD
 XX:TopFn K mg "_law_under" Wx
 SQ:TopFn K mg "_law_part" LK
 Xl:TopFn K mg "_law_piece" Wb
 Ux:TopFn K mg "_law_plus" V9
 RL:TopFn K mg "_law_less" Vm
 W7:TopFn K mg "_law_written" Tc
 Vi:TopFn K mg "_law_shown" Vu
 Vn:TopFn K mg "_law_piece_text" Wf
 Vk:TopFn K mg "_law_text" b7
 T6:TopFn K mg "_law_called" WN
 YS:TopFn K mg "_law_benches" YQ
 Xv:TopFn K mg "_law_laid" Qc
 Vv:TopFn K mg "_law_row" Wi
 WY:TopFn K mg "_law_walk" VG
 S8:TopFn K mg "_law_image" Vo
 Sy:TopFn K mg "_law_sharp" ZS
 Td:TopFn K mg "_law_field" Tt
 Y7:TopFn K mg "_law_apart" Rv
 VN:TopFn K mg "_law_rounds" X7
 Wr:TopFn K mg "_law_parts" Ni
 XQ:TopFn K mg "_law_answered" U6
theorem xT {K:FrG}{h:Heap}{mg:Str->Option Value}{d1 m0 H1 s5 J2 J3 s6 s7 J4 m b d a c I s8 e1 e2 B s4 S T U V C D E F G t Y n o f g i j k e:Addr}{tGAP:Tok}{tGLASS:Tok}{tSTOP:Tok}{tMOST_PIECES:Tok}{tFIGURES:Tok}{tMOST_FIGURES:Tok}{tPARTED:Tok}{tTIMES:Tok}{tOPENED:Tok}{tCLOSED:Tok}{tMOST_TIMES:Tok}{tMOST_DEEP:Tok}{tLETTERS:Tok}{tMOST_LETTERS:Tok}{tDONE:Tok}{tNONE:Tok}{tFROM:Tok}{tMOST_ROUNDS_OF_FRACTIONS:Tok}{K7:Addr}{B1:Value}{B2 B3:Option Addr}{B4:Array (Option Value)}{B5 B6 B7 d2 B8:Value}{K8:Addr}{B9:Value}{C0 C1:Option Addr}{C2:Array (Option Value)}{C3 C4 C5 d3 C6:Value}{K9:Addr}{C7:Value}{C8 C9:Option Addr}{D0:Array (Option Value)}{D1 D2 D3 d4 D4:Value}{L0:Addr}{m1:Value}{m2 m3:Option Addr}{m4:Array (Option Value)}{m5 m6 m7 Z m8:Value}{L1:Addr}{m9:Value}{n0 n1:Option Addr}{n2:Array (Option Value)}{n3 n4 n5 a0 n6:Value}{L2:Addr}{n7:Value}{n8 n9:Option Addr}{o0:Array (Option Value)}{o1 o2 o3 a1 o4:Value}{L3:Addr}{s9:Value}{t0 t1:Option Addr}{t2:Array (Option Value)}{t3 t4 t5 a4 t6:Value}{L4:Addr}{t7:Value}{t8 t9:Option Addr}{u0:Array (Option Value)}{u1 u2 u3 a5 u4:Value}{L5:Addr}{u5:Value}{u6 u7:Option Addr}{u8:Array (Option Value)}{u9 v0 v1 a6 v2:Value}{L6:Addr}{i2:Value}{i3 i4:Option Addr}{i5:Array (Option Value)}{i6 i7 i8 J i9:Value}{L7:Addr}{b2:Value}{b3 b4:Option Addr}{b5:Array (Option Value)}{b6 b7 b8 p b9:Value}{L8:Addr}{j0:Value}{j1 j2:Option Addr}{j3:Array (Option Value)}{j4 j5 j6 L j7:Value}{L9:Addr}{c0:Value}{c1 c2:Option Addr}{c3:Array (Option Value)}{c4 c5 c6 q c7:Value}{M0:Addr}{v3:Value}{v4 v5:Option Addr}{v6:Array (Option Value)}{v7 v8 v9 a7 w0:Value}{M1:Addr}{D5:Value}{D6 D7:Option Addr}{D8:Array (Option Value)}{D9 E0 E1 d5 E2:Value}{M2:Addr}{E3:Value}{E4 E5:Option Addr}{E6:Array (Option Value)}{E7 E8 E9 d6 F0:Value}{M3:Addr}{e3:Value}{e4 e5:Option Addr}{e6:Array (Option Value)}{e7 e8 e9 u f0:Value}{M4:Addr}{w1:Value}{w2 w3:Option Addr}{w4:Array (Option Value)}{w5 w6 w7 a8 w8:Value}{F1:Tok}{F2:Tok}{J5:Option Addr}{J6:Nat}{J7:Array (Option Value)}{J9:Tok}{K0:Tok}{K3:Option Addr}{K4:Nat}{K5:Array (Option Value)}{H2:Option Addr}{H3:Nat}{H4:Array (Option Value)}{w9:Tok}{H5:Option Addr}{H6:Nat}{H7:Array (Option Value)}{g7:Tok}{o5:Option Addr}{o6:Nat}{o7:Array (Option Value)}{M6:Int}{x0:Tok}{M7:Int}{x1:Tok}{M9:Int}{x2:Tok}{N0:Int}{x3:Tok}{N1:Int}{o8:Tok}{N2:Int}{o9:Tok}{N3:Int}{p0:Tok}{N4:Int}{p1:Tok}{N5:Int}{p2:Tok}{N7:Int}{j8:Tok}{K1:Nat}{j9:Tok}{k0:Tok}{x4:Option Addr}{x5:Nat}{x6:Array (Option Value)}{k1:Tok}{k2:Tok}{x7:Option Addr}{x8:Nat}{x9:Array (Option Value)}{k3:Tok}{k4:Tok}{y0:Option Addr}{y1:Nat}{y2:Array (Option Value)}{k5:Tok}{k6:Tok}{y3:Option Addr}{y4:Nat}{y5:Array (Option Value)}{g8:Tok}{g9:Tok}{p3:Option Addr}{p4:Nat}{p5:Array (Option Value)}{h0:Tok}{h1:Tok}{p6:Option Addr}{p7:Nat}{p8:Array (Option Value)}{h2:Tok}{h3:Tok}{p9:Option Addr}{q0:Nat}{q1:Array (Option Value)}{h4:Tok}{h5:Tok}{q2:Option Addr}{q3:Nat}{q4:Array (Option Value)}{h6:Tok}{h7:Tok}{q5:Option Addr}{q6:Nat}{q7:Array (Option Value)}{f1:Tok}{f2:Tok}{k7:Option Addr}{k8:Nat}{k9:Array (Option Value)}{N9:Int}{h8:Tok}{O0:Int}{h9:Tok}{O1:Int}{f3:Tok}{O2:Int}{f4:Tok}{O3:Int}{f5:Tok}{O5:Int}{f6:Tok}{O7:Int}{f7:Tok}{O8:Int}{c8:Tok}{H8:Nat}(pr:Fk)(X:K.In h)(l:h.Ns ZL mg)(O6:ZT K ZL "BenchError"=some (some (.ref d1)))(Ot:ZT K ZL "NoNumber"=some (some (.ref m0)))(PB:ZT K ZL "NoText"=some (some (.ref H1)))(QW:ZT K ZL "NoTable"=some (some (.ref s5)))(QJ:ZT K ZL "NoBox"=some (some (.ref J2)))(QZ:ZT K ZL "NoRow"=some (some (.ref J3)))(Ng:ZT K ZL "Unknown"=some (some (.ref s6)))(Q7:ZT K ZL "NoBench"=some (some (.ref s7)))(Oc:ZT K ZL "Piece"=some (some (.ref J4)))(Mj:ZT K ZL "Gap"=some (some (.ref m)))(Kq:ZT K ZL "Glass"=some (some (.ref b)))(Ky:ZT K ZL "Stop"=some (some (.ref d)))(Lx:ZT K ZL "Reader"=some (some (.ref a)))(Mi:ZT K ZL "Desk"=some (some (.ref c)))(m_GAP:ZT K ZL "GAP"=some (some (.str "gap" tGAP)))(m_GLASS:ZT K ZL "GLASS"=some (some (.str "glass" tGLASS)))(m_STOP:ZT K ZL "STOP"=some (some (.str "stop" tSTOP)))(m_MOST_PIECES:ZT K ZL "MOST_PIECES"=some (some (.int 60 tMOST_PIECES)))(m_FIGURES:ZT K ZL "FIGURES"=some (some (.str "0123456789" tFIGURES)))(m_MOST_FIGURES:ZT K ZL "MOST_FIGURES"=some (some (.int 15 tMOST_FIGURES)))(m_PARTED:ZT K ZL "PARTED"=some (some (.str ";" tPARTED)))(m_TIMES:ZT K ZL "TIMES"=some (some (.str "times" tTIMES)))(Qd:ZT K ZL "OPENED"=some (some (.str "(" tOPENED)))(QK:ZT K ZL "CLOSED"=some (some (.str ")" tCLOSED)))(Qe:ZT K ZL "MOST_TIMES"=some (some (.int 60 tMOST_TIMES)))(O4:ZT K ZL "MOST_DEEP"=some (some (.int 4 tMOST_DEEP)))(m_LETTERS:ZT K ZL "LETTERS"=some (some (.str "abcdefghijklmnopqrstuvwxyz" tLETTERS)))(m_MOST_LETTERS:ZT K ZL "MOST_LETTERS"=some (some (.int 8 tMOST_LETTERS)))(m_DONE:ZT K ZL "DONE"=some (some (.str "ok" tDONE)))(m_NONE:ZT K ZL "NONE"=some (some (.str "none" tNONE)))(m_FROM:ZT K ZL "FROM"=some (some (.str "from" tFROM)))(m_MOST_ROUNDS_OF_FRACTIONS:ZT K ZL "MOST_ROUNDS_OF_FRACTIONS"=some (some (.int 6 tMOST_ROUNDS_OF_FRACTIONS)))(y6:UM K m uQ=true)(y7:UR K m=true)(y8:Qa K m=true)(y9:ZU K (.ref m) "__setattr__"=some (some (.builtin "object.__setattr__")))(F3:QP K m=true)(H9:ZU K (.ref m) "__init__"=some (some (.ref K7)))(F4:XT K (.ref K7)=true)(F5:YE K (.ref m)=true)(I0:K.lookup K7=some ⟨B1,B2,.func (YP "__init__" "Gap.__init__" (defArgs Lj) (defBody Lj) (defScope Lj) .none B5 B6 B7 B3 d2 B8),B4⟩)(O9:XA K d2 "Gap.__init__"=true)(F6:YE K (.ref K7)=true)(I1:ZU K (.ref m) "lets"=some (some (.ref K8)))(F7:XT K (.ref K8)=true)(d7:YE K (.ref K8)=true)(I2:K.lookup K8=some ⟨B9,C0,.func (YP "lets" "Piece.lets" (defArgs Gs) (defBody Gs) (defScope Gs) .none C3 C4 C5 C1 d3 C6),C2⟩)(P0:XA K d3 "Piece.lets"=true)(I3:ZU K (.ref m) "bent"=some (some (.ref K9)))(F8:XT K (.ref K9)=true)(d8:YE K (.ref K9)=true)(I4:K.lookup K9=some ⟨C7,C8,.func (YP "bent" "Gap.bent" (defArgs Km) (defBody Km) (defScope Km) .none D1 D2 D3 C9 d4 D4),D0⟩)(P1:XA K d4 "Gap.bent"=true)(n_Gap_length:ZU K (.ref m) "length"=some none)(f8:UM K b uQ=true)(f9:UR K b=true)(g0:Qa K b=true)(g1:ZU K (.ref b) "__setattr__"=some (some (.builtin "object.__setattr__")))(q8:QP K b=true)(z0:ZU K (.ref b) "__init__"=some (some (.ref L0)))(q9:XT K (.ref L0)=true)(r0:YE K (.ref b)=true)(z1:K.lookup L0=some ⟨m1,m2,.func (YP "__init__" "Glass.__init__" (defArgs Ly) (defBody Ly) (defScope Ly) .none m5 m6 m7 m3 Z m8),m4⟩)(P2:XA K Z "Glass.__init__"=true)(r1:YE K (.ref L0)=true)(z2:ZU K (.ref b) "lets"=some (some (.ref L1)))(r2:XT K (.ref L1)=true)(a2:YE K (.ref L1)=true)(z3:K.lookup L1=some ⟨m9,n0,.func (YP "lets" "Piece.lets" (defArgs Gs) (defBody Gs) (defScope Gs) .none n3 n4 n5 n1 a0 n6),n2⟩)(P3:XA K a0 "Piece.lets"=true)(z4:ZU K (.ref b) "bent"=some (some (.ref L2)))(r3:XT K (.ref L2)=true)(a3:YE K (.ref L2)=true)(z5:K.lookup L2=some ⟨n7,n8,.func (YP "bent" "Glass.bent" (defArgs MT) (defBody MT) (defScope MT) .none o1 o2 o3 n9 a1 o4),o0⟩)(P4:XA K a1 "Glass.bent"=true)(n_Glass_strength:ZU K (.ref b) "strength"=some none)(l0:UM K d uQ=true)(l1:UR K d=true)(l2:Qa K d=true)(l3:ZU K (.ref d) "__setattr__"=some (some (.builtin "object.__setattr__")))(z6:QP K d=true)(F9:ZU K (.ref d) "__init__"=some (some (.ref L3)))(z7:XT K (.ref L3)=true)(z8:YE K (.ref d)=true)(G0:K.lookup L3=some ⟨s9,t0,.func (YP "__init__" "Stop.__init__" (defArgs M8) (defBody M8) (defScope M8) .none t3 t4 t5 t1 a4 t6),t2⟩)(P5:XA K a4 "Stop.__init__"=true)(z9:YE K (.ref L3)=true)(G1:ZU K (.ref d) "lets"=some (some (.ref L4)))(A0:XT K (.ref L4)=true)(a9:YE K (.ref L4)=true)(G2:K.lookup L4=some ⟨t7,t8,.func (YP "lets" "Stop.lets" (defArgs Lr) (defBody Lr) (defScope Lr) .none u1 u2 u3 t9 a5 u4),u0⟩)(P6:XA K a5 "Stop.lets"=true)(G3:ZU K (.ref d) "bent"=some (some (.ref L5)))(A1:XT K (.ref L5)=true)(b0:YE K (.ref L5)=true)(G4:K.lookup L5=some ⟨u5,u6,.func (YP "bent" "Piece.bent" (defArgs NZ) (defBody NZ) (defScope NZ) .none u9 v0 v1 u7 a6 v2),u8⟩)(P7:XA K a6 "Piece.bent"=true)(n_Stop_low:ZU K (.ref d) "low"=some none)(n_Stop_high:ZU K (.ref d) "high"=some none)(x:UM K a uQ=true)(y:UR K a=true)(z:Qa K a=true)(A:ZU K (.ref a) "__setattr__"=some (some (.builtin "object.__setattr__")))(l4:QP K a=true)(r4:ZU K (.ref a) "__init__"=some (some (.ref L6)))(l5:XT K (.ref L6)=true)(l6:YE K (.ref a)=true)(r5:K.lookup L6=some ⟨i2,i3,.func (YP "__init__" "Reader.__init__" (defArgs Ml) (defBody Ml) (defScope Ml) .none i6 i7 i8 i4 J i9),i5⟩)(P8:XA K J "Reader.__init__"=true)(l7:YE K (.ref L6)=true)(g2:ZU K (.ref a) "is_done"=some (some (.ref L7)))(c9:XT K (.ref L7)=true)(r:YE K (.ref L7)=true)(g3:K.lookup L7=some ⟨b2,b3,.func (YP "is_done" "Reader.is_done" (defArgs N8) (defBody N8) (defScope N8) .none b6 b7 b8 b4 p b9),b5⟩)(P9:XA K p "Reader.is_done"=true)(r6:ZU K (.ref a) "take"=some (some (.ref L8)))(l8:XT K (.ref L8)=true)(M:YE K (.ref L8)=true)(r7:K.lookup L8=some ⟨j0,j1,.func (YP "take" "Reader.take" (defArgs Lh) (defBody Lh) (defScope Lh) .none j4 j5 j6 j2 L j7),j3⟩)(Q0:XA K L "Reader.take"=true)(g4:ZU K (.ref a) "take_if"=some (some (.ref L9)))(d0:XT K (.ref L9)=true)(s:YE K (.ref L9)=true)(g5:K.lookup L9=some ⟨c0,c1,.func (YP "take_if" "Reader.take_if" (defArgs Ls) (defBody Ls) (defScope Ls) .none c4 c5 c6 c2 q c7),c3⟩)(Q1:XA K q "Reader.take_if"=true)(n_Reader_words:ZU K (.ref a) "words"=some none)(n_Reader_place:ZU K (.ref a) "place"=some none)(N:UM K c uQ=true)(O:UR K c=true)(Q:Qa K c=true)(R:ZU K (.ref c) "__setattr__"=some (some (.builtin "object.__setattr__")))(A2:QP K c=true)(G5:ZU K (.ref c) "__init__"=some (some (.ref M0)))(A3:XT K (.ref M0)=true)(A4:YE K (.ref c)=true)(G6:K.lookup M0=some ⟨v3,v4,.func (YP "__init__" "Desk.__init__" (defArgs KZ) (defBody KZ) (defScope KZ) .none v7 v8 v9 v5 a7 w0),v6⟩)(Q2:XA K a7 "Desk.__init__"=true)(A5:YE K (.ref M0)=true)(I5:ZU K (.ref c) "say"=some (some (.ref M1)))(G7:XT K (.ref M1)=true)(d9:YE K (.ref M1)=true)(I6:K.lookup M1=some ⟨D5,D6,.func (YP "say" "Desk.say" (defArgs Kz) (defBody Kz) (defScope Kz) .none D9 E0 E1 D7 d5 E2),D8⟩)(Q3:XA K d5 "Desk.say"=true)(I7:ZU K (.ref c) "lay"=some (some (.ref M2)))(G8:XT K (.ref M2)=true)(e0:YE K (.ref M2)=true)(I8:K.lookup M2=some ⟨E3,E4,.func (YP "lay" "Desk.lay" (defArgs Nb) (defBody Nb) (defScope Nb) .none E7 E8 E9 E5 d6 F0),E6⟩)(Q4:XA K d6 "Desk.lay"=true)(i0:ZU K (.ref c) "bench_by"=some (some (.ref M3)))(g6:XT K (.ref M3)=true)(v:YE K (.ref M3)=true)(i1:K.lookup M3=some ⟨e3,e4,.func (YP "bench_by" "Desk.bench_by" (defArgs Mh) (defBody Mh) (defScope Mh) .none e7 e8 e9 e5 u f0),e6⟩)(Q5:XA K u "Desk.bench_by"=true)(G9:ZU K (.ref c) "keep"=some (some (.ref M4)))(A6:XT K (.ref M4)=true)(b1:YE K (.ref M4)=true)(H0:K.lookup M4=some ⟨w1,w2,.func (YP "keep" "Desk.keep" (defArgs N6) (defBody N6) (defScope N6) .none w5 w6 w7 w3 a8 w8),w4⟩)(Q6:XA K a8 "Desk.keep"=true)(n_Desk_benches:ZU K (.ref c) "benches"=some none)(m_NOUGHT:ZT K ZL "NOUGHT"=some (some (.ref I)))(J8:K.lookup I=some ⟨.type "tuple",J5,.seq #[.int 0 F1,.int 1 F2] J6,J7⟩)(m_ONE:ZT K ZL "ONE"=some (some (.ref s8)))(K6:K.lookup s8=some ⟨.type "tuple",K3,.seq #[.int 1 J9,.int 1 K0] K4,K5⟩)(m_LEAVING:ZT K ZL "LEAVING"=some (some (.ref e1)))(I9:K.lookup e1=some ⟨.type "tuple",H2,.seq #[.ref s8,.ref I,.ref I,.ref s8] H3,H4⟩)(m_NOWHERE:ZT K ZL "NOWHERE"=some (some (.ref e2)))(J0:K.lookup e2=some ⟨.type "tuple",H5,.seq #[.str "none" w9] H6,H7⟩)(m_EVERYWHERE:ZT K ZL "EVERYWHERE"=some (some (.ref B)))(r8:K.lookup B=some ⟨.type "tuple",o5,.seq #[.str "all" g7] o6,o7⟩)(m_ROWS:ZT K ZL "ROWS"=some (some (.ref s4)))(K2:K.lookup s4=some ⟨.type "dict",none,.dict #[⟨M6,.str "join" x0,.ref S⟩,⟨M7,.str "turn" x1,.ref T⟩,⟨M9,.str "show" x2,.ref U⟩,⟨N0,.str "walk" x3,.ref V⟩,⟨N1,.str "table" o8,.ref C⟩,⟨N2,.str "apart" o9,.ref D⟩,⟨N3,.str "image" p0,.ref E⟩,⟨N4,.str "field" p1,.ref F⟩,⟨N5,.str "sharp" p2,.ref G⟩,⟨N7,.str "rounds" j8,.ref t⟩] K1,#[]⟩)(Q8:M6=Dv pr "join")(Q9:M7=Dv pr "turn")(R0:M9=Dv pr "show")(R1:N0=Dv pr "walk")(R2:N1=Dv pr "table")(R3:N2=Dv pr "apart")(R4:N3=Dv pr "image")(R5:N4=Dv pr "field")(R6:N5=Dv pr "sharp")(R7:N7=Dv pr "rounds")(R8:(s4 == Qr)=false)(A7:K.lookup S=some ⟨.type "tuple",x4,.seq #[.int 3 j9,.int 0 k0] x5,x6⟩)(A8:K.lookup T=some ⟨.type "tuple",x7,.seq #[.int 2 k1,.int 0 k2] x8,x9⟩)(A9:K.lookup U=some ⟨.type "tuple",y0,.seq #[.int 1 k3,.int 0 k4] y1,y2⟩)(B0:K.lookup V=some ⟨.type "tuple",y3,.seq #[.int 1 k5,.int 2 k6] y4,y5⟩)(r9:K.lookup C=some ⟨.type "tuple",p3,.seq #[.int 1 g8,.int 0 g9] p4,p5⟩)(s0:K.lookup D=some ⟨.type "tuple",p6,.seq #[.int 1 h0,.int 0 h1] p7,p8⟩)(s1:K.lookup E=some ⟨.type "tuple",p9,.seq #[.int 1 h2,.int 1 h3] q0,q1⟩)(s2:K.lookup F=some ⟨.type "tuple",q2,.seq #[.int 1 h4,.int 4 h5] q3,q4⟩)(s3:K.lookup G=some ⟨.type "tuple",q5,.seq #[.int 1 h6,.int 5 h7] q6,q7⟩)(l9:K.lookup t=some ⟨.type "tuple",k7,.seq #[.int 1 f1,.int 0 f2] k8,k9⟩)(m_ANSWERS:ZT K ZL "ANSWERS"=some (some (.ref Y)))(f_ANSWERS_show:ZT K ZL "show_answer"=some (some (.ref n)))(f_ANSWERS_walk:ZT K ZL "walk_answer"=some (some (.ref o)))(f_ANSWERS_table:ZT K ZL "table_answer"=some (some (.ref f)))(f_ANSWERS_apart:ZT K ZL "apart_answer"=some (some (.ref g)))(f_ANSWERS_image:ZT K ZL "image_answer"=some (some (.ref i)))(f_ANSWERS_field:ZT K ZL "field_answer"=some (some (.ref j)))(f_ANSWERS_sharp:ZT K ZL "sharp_answer"=some (some (.ref k)))(f_ANSWERS_rounds:ZT K ZL "rounds_answer"=some (some (.ref e)))(J1:K.lookup Y=some ⟨.type "dict",none,.dict #[⟨N9,.str "show" h8,.ref n⟩,⟨O0,.str "walk" h9,.ref o⟩,⟨O1,.str "table" f3,.ref f⟩,⟨O2,.str "apart" f4,.ref g⟩,⟨O3,.str "image" f5,.ref i⟩,⟨O5,.str "field" f6,.ref j⟩,⟨O7,.str "sharp" f7,.ref k⟩,⟨O8,.str "rounds" c8,.ref e⟩] H8,#[]⟩)(R9:N9=Dv pr "show")(S0:O0=Dv pr "walk")(S1:O1=Dv pr "table")(S2:O2=Dv pr "apart")(S3:O3=Dv pr "image")(S4:O5=Dv pr "field")(S5:O7=Dv pr "sharp")(S6:O8=Dv pr "rounds")(S7:(Y == Qr)=false):Exc K mg ⟨0,d1,m0,H1,s5,J2,J3,s6,s7,J4,m,b,d,a,c,I,s8,e1,e2,B,s4,S,T,U,V,C,D,E,F,G,t,Y,n,o,f,g,i,j,k,e,tGAP,tGLASS,tSTOP,tMOST_PIECES,tFIGURES,tMOST_FIGURES,tPARTED,tTIMES,tOPENED,tCLOSED,tMOST_TIMES,tMOST_DEEP,tLETTERS,tMOST_LETTERS,tDONE,tNONE,tFROM,tMOST_ROUNDS_OF_FRACTIONS,pr⟩:=⟨trivial,ZG X l O6,ZG X l Ot,ZG X l PB,ZG X l QW,ZG X l QJ,ZG X l QZ,ZG X l Ng,ZG X l Q7,ZG X l Oc,ZG X l Mj,ZG X l Kq,ZG X l Ky,ZG X l Lx,ZG X l Mi,ZG X l m_GAP,ZG X l m_GLASS,ZG X l m_STOP,ZG X l m_MOST_PIECES,ZG X l m_FIGURES,ZG X l m_MOST_FIGURES,ZG X l m_PARTED,ZG X l m_TIMES,ZG X l Qd,ZG X l QK,ZG X l Qe,ZG X l O4,ZG X l m_LETTERS,ZG X l m_MOST_LETTERS,ZG X l m_DONE,ZG X l m_NONE,ZG X l m_FROM,ZG X l m_MOST_ROUNDS_OF_FRACTIONS,⟨y6,y7,y8,y9⟩,⟨⟨_,_,Dw I0 O9 F6,⟨F3,H9,F4,F5⟩⟩,ZG X l Mj⟩,⟨⟨_,_,Dw I2 P0 d7,⟨I1,F7,d7⟩⟩,⟨y6,y7,y8,y9⟩⟩,⟨⟨_,_,Dw I4 P1 d8,⟨I3,F8,d8⟩⟩,⟨y6,y7,y8,y9⟩⟩,n_Gap_length,⟨f8,f9,g0,g1⟩,⟨⟨_,_,Dw z1 P2 r1,⟨q8,z0,q9,r0⟩⟩,ZG X l Kq⟩,⟨⟨_,_,Dw z3 P3 a2,⟨z2,r2,a2⟩⟩,⟨f8,f9,g0,g1⟩⟩,⟨⟨_,_,Dw z5 P4 a3,⟨z4,r3,a3⟩⟩,⟨f8,f9,g0,g1⟩⟩,n_Glass_strength,⟨l0,l1,l2,l3⟩,⟨⟨_,_,Dw G0 P5 z9,⟨z6,F9,z7,z8⟩⟩,ZG X l Ky⟩,⟨⟨_,_,Dw G2 P6 a9,⟨G1,A0,a9⟩⟩,⟨l0,l1,l2,l3⟩⟩,⟨⟨_,_,Dw G4 P7 b0,⟨G3,A1,b0⟩⟩,⟨l0,l1,l2,l3⟩⟩,n_Stop_low,n_Stop_high,⟨x,y,z,A⟩,⟨⟨_,_,Dw r5 P8 l7,⟨l4,r4,l5,l6⟩⟩,ZG X l Lx⟩,⟨⟨_,_,Dw g3 P9 r,⟨g2,c9,r⟩⟩,⟨x,y,z,A⟩⟩,⟨⟨_,_,Dw r7 Q0 M,⟨r6,l8,M⟩⟩,⟨x,y,z,A⟩⟩,⟨⟨_,_,Dw g5 Q1 s,⟨g4,d0,s⟩⟩,⟨x,y,z,A⟩⟩,n_Reader_words,n_Reader_place,⟨N,O,Q,R⟩,⟨⟨_,_,Dw G6 Q2 A5,⟨A2,G5,A3,A4⟩⟩,ZG X l Mi⟩,⟨⟨_,_,Dw I6 Q3 d9,⟨I5,G7,d9⟩⟩,⟨N,O,Q,R⟩⟩,⟨⟨_,_,Dw I8 Q4 e0,⟨I7,G8,e0⟩⟩,⟨N,O,Q,R⟩⟩,⟨⟨_,_,Dw i1 Q5 v,⟨i0,g6,v⟩⟩,⟨N,O,Q,R⟩⟩,⟨⟨_,_,Dw H0 Q6 b1,⟨G9,A6,b1⟩⟩,⟨N,O,Q,R⟩⟩,n_Desk_benches,ZG X l m_NOUGHT,λ H=>.inr ⟨_,_,_,J8,rfl,rfl,by show 2<=Y3;decide,(.cons ⟨_,rfl⟩ (.cons ⟨_,rfl⟩ .nil))⟩,ZG X l m_ONE,λ H=>.inr ⟨_,_,_,K6,rfl,rfl,by show 2<=Y3;decide,(.cons ⟨_,rfl⟩ (.cons ⟨_,rfl⟩ .nil))⟩,ZG X l m_LEAVING,λ H=>.inr ⟨_,_,_,I9,rfl,rfl,by show 4<=Y3;decide,(.cons rfl (.cons rfl (.cons rfl (.cons rfl .nil))))⟩,ZG X l m_NOWHERE,λ H=>.inr ⟨_,_,_,J0,rfl,rfl,by show 1<=Y3;decide,(.cons ⟨_,rfl⟩ .nil)⟩,ZG X l m_EVERYWHERE,λ H=>.inr ⟨_,_,_,r8,rfl,rfl,by show 1<=Y3;decide,(.cons ⟨_,rfl⟩ .nil)⟩,ZG X l m_ROWS,λ P w M5=>mZ M5 K2 (.cons Q8 rfl rfl (.cons Q9 rfl rfl (.cons R0 rfl rfl (.cons R1 rfl rfl (.cons R2 rfl rfl (.cons R3 rfl rfl (.cons R4 rfl rfl (.cons R5 rfl rfl (.cons R6 rfl rfl (.cons R7 rfl rfl .nil)))))))))) (show Uu [("join":Str),("turn":Str),("show":Str),("walk":Str),("table":Str),("apart":Str),("image":Str),("field":Str),("sharp":Str),("rounds":Str)] by decide+kernel) R8,λ H=>.inr ⟨_,_,_,A7,rfl,rfl,by show 2<=Y3;decide,(.cons ⟨_,rfl⟩ (.cons ⟨_,rfl⟩ .nil))⟩,λ H=>.inr ⟨_,_,_,A8,rfl,rfl,by show 2<=Y3;decide,(.cons ⟨_,rfl⟩ (.cons ⟨_,rfl⟩ .nil))⟩,λ H=>.inr ⟨_,_,_,A9,rfl,rfl,by show 2<=Y3;decide,(.cons ⟨_,rfl⟩ (.cons ⟨_,rfl⟩ .nil))⟩,λ H=>.inr ⟨_,_,_,B0,rfl,rfl,by show 2<=Y3;decide,(.cons ⟨_,rfl⟩ (.cons ⟨_,rfl⟩ .nil))⟩,λ H=>.inr ⟨_,_,_,r9,rfl,rfl,by show 2<=Y3;decide,(.cons ⟨_,rfl⟩ (.cons ⟨_,rfl⟩ .nil))⟩,λ H=>.inr ⟨_,_,_,s0,rfl,rfl,by show 2<=Y3;decide,(.cons ⟨_,rfl⟩ (.cons ⟨_,rfl⟩ .nil))⟩,λ H=>.inr ⟨_,_,_,s1,rfl,rfl,by show 2<=Y3;decide,(.cons ⟨_,rfl⟩ (.cons ⟨_,rfl⟩ .nil))⟩,λ H=>.inr ⟨_,_,_,s2,rfl,rfl,by show 2<=Y3;decide,(.cons ⟨_,rfl⟩ (.cons ⟨_,rfl⟩ .nil))⟩,λ H=>.inr ⟨_,_,_,s3,rfl,rfl,by show 2<=Y3;decide,(.cons ⟨_,rfl⟩ (.cons ⟨_,rfl⟩ .nil))⟩,λ H=>.inr ⟨_,_,_,l9,rfl,rfl,by show 2<=Y3;decide,(.cons ⟨_,rfl⟩ (.cons ⟨_,rfl⟩ .nil))⟩,ZG X l m_ANSWERS,ZG X l f_ANSWERS_show,ZG X l f_ANSWERS_walk,ZG X l f_ANSWERS_table,ZG X l f_ANSWERS_apart,ZG X l f_ANSWERS_image,ZG X l f_ANSWERS_field,ZG X l f_ANSWERS_sharp,ZG X l f_ANSWERS_rounds,λ P w M5=>mZ M5 J1 (.cons R9 rfl rfl (.cons S0 rfl rfl (.cons S1 rfl rfl (.cons S2 rfl rfl (.cons S3 rfl rfl (.cons S4 rfl rfl (.cons S5 rfl rfl (.cons S6 rfl rfl .nil)))))))) (show Uu [("show":Str),("walk":Str),("table":Str),("apart":Str),("image":Str),("field":Str),("sharp":Str),("rounds":Str)] by decide+kernel) S7⟩
section
variable {P:YA}{w:World}{K:FrG}{mg:Str->Option Value}{base:Heap}{ad:Adr}{c:Bool}
theorem kh (T:Txt K mg ad):CalB P w K mg base true 1 "is_whole" ["thing"] (spW K):=by
 refine T.Xw.calN uz (λ _ _ _ _ _ _=>by1 λ _=>rfl) (λ vs H Q E h=>?_) (λ f i A outer s H vs Q E j h=>?_)
 ·obtain ⟨v,d,rfl,_⟩:=h;rfl
 obtain ⟨v,d,rfl,hv,q⟩:=h;obtain ⟨b,a,hb,hc,e⟩:=AX2 d;refine ⟨_,(Aj (Ar (HX (Br Ff rfl T.isinstance Fv (Ac (pv 0) (Ac (Fg (v:=.ty "int") rfl T.int JM rfl) Aa))) (Ho (Ms (Br Ff rfl T.isinstance Fv (Ac (pv 0) (Ac (Fg (v:=.ty "bool") rfl T.bool wC rfl) Aa)))))))),?_⟩;refine ⟨_,rfl,_,_,_,b,rfl,hv,hb,_,rfl,?_⟩;cases b with
 | false=>
  have g:Qt d=false:=e.symm;rw [g] at q;exact iteF q
 | true=>
  refine iteT ?_;refine ⟨_,rfl,_,_,_,a,rfl,hv,hc,_,rfl,?_⟩;have g:(!a)=Qt d:=e;show Q (.bl (!a)) H;rw [g];exact q
theorem fj (T:Txt K mg ad):CalB P w K mg base true 1 "common_divisor" ["one","other"] AQ9:=by
 refine T.Vb.calN Jf (λ _ _ _ _ _ _=>Bg λ _ _=>rfl) (λ vs H Q E h=>?_) (λ f u A outer s H vs Q E v h=>?_)
 ·obtain ⟨a,b,rfl,_⟩:=h;rfl
 obtain ⟨a,b,rfl,q⟩:=h;refine ⟨_,(Ah (Aw (i:=2) Jf.nd (Br K8 rfl T.abs Jd (Ac (pv 0) Aa))) (Ah (Aw (i:=3) Jf.nd (Br K8 rfl T.abs Jd (Ac (pv 1) Aa))) (Ah (O5 YR (BR FZ (pv 3) Ab) (Ah (Aw (i:=4) Jf.nd (Ax Dq (pv 2) (pv 3))) (Ah (Aw (i:=2) Jf.nd (pv 3)) (Aj (Aw (i:=3) Jf.nd (pv 4)))))) (Aj (Ar (pv 2)))))),?_⟩;refine ⟨_,rfl,_,rfl,_,rfl,_,rfl,?_⟩;have l:=Fr.P0 a;have o:=Fr.P0 b;refine ⟨λ k p d=>H=d/\∃(m:Nat) (r:Option V),p=[some (.int a),some (.int b),some (.int m),some (.int k),r]/\GG m k=GG a.natAbs b.natAbs,⟨b.natAbs,rfl,a.natAbs,none,by rw [<- l,<- o];rfl,rfl⟩,?_⟩
 rintro n _ _ ⟨rfl,m,r,rfl,e⟩
 refine ⟨_,rfl,rfl,_,rfl,?_⟩;refine ite2 (λ c=>?_) (λ c=>?_)
 ·have g:n≠0:=by
   intro z;subst z;simp at c
  have t:(m:Int) % (n:Int)=((m % n:Nat):Int):=(FE m n).symm;refine ⟨λ j d=>H=d/\j=[some (.int a),some (.int b),some (.int n),some (.int ((m:Int) % (n:Int))),some (.int ((m:Int) % (n:Int)))],?_,?_⟩
  ·rintro _ _ ⟨rfl,rfl⟩
   rw [t];exact ⟨m % n,MM _ ∅,rfl,n,_,rfl,by rw [Fr.bD,e]⟩
  ·exact ⟨_,rfl,_,rfl,_,_,rfl,rfl,(by show (0:Int) < (n:Int);omega),_,rfl,_,rfl,rfl,rfl⟩
 ·have g:n=0:=by
   by_cases z:n=0
   ·exact z
   ·exfalso
    apply c
    rw [GJ];simp
    omega
  subst g;refine ⟨_,rfl,?_⟩;have e2:(m:Int)=Fr.gcd a b:=by
   unfold Fr.gcd;rw [<- e,Nat.gcd_zero_right]
  rw [e2];exact q
theorem Ou (T:Txt K mg ad):CalB P w K mg base true 2 "is_ratio" ["thing"] (AZ0 K):=by
 refine T.W8.calN XR (λ _ _ _ _ _ _=>by1 λ _=>rfl) (λ vs H Q E h=>?_) (λ f e A outer s H vs Q E d h=>?_)
 ·obtain ⟨_,_,rfl,_⟩:=h;rfl
 obtain ⟨v,b,rfl,hv,q⟩:=h;obtain ⟨a,rfl,ha⟩:=hv.fr;refine ⟨_,(Ah (BJ (PW.pt (pw_or (Cd (Bs (Br Ff rfl T.isinstance Fv (Ac (pv 0) (Ac (Fg (v:=.ty "tuple") rfl T.tuple N7 rfl) Aa))))) (pw_or1 (BR FZ (Br Do rfl T.len Dc (Ac (pv 0) Aa)) Ab)))) (Aj (Ar Dn)) BL) (Ah (Aw (i:=1) XR.nd (Ae Al (pv 0) Ab)) (Ah (Aw (i:=2) XR.nd (Ae Al (pv 0) Ab)) (Ah (BJ (PW.pt (pw_or (Cd (Bs (Ag (kh T) d.m Af (Ac (pv 1) Aa)))) (pw_or1 (Cd (Bs (Ag (kh T) d.m Af (Ac (pv 2) Aa))))))) (Aj (Ar Dn)) BL) (Aj (Ar (HX (Dr bR (pv 2) Ab) (Ho (Dr Bq (Ag (fj T) d.m Af (Ac (pv 1) (Ac (pv 2) Aa))) Ab))))))))),?_⟩
 refine ⟨_,rfl,_,_,_,_,rfl,hv,Od _,_,rfl,iteF ?_⟩;refine ⟨_,rfl,a,_,rfl,.inr ha,rfl,_,rfl,iteF ?_⟩;refine ⟨_,rfl,a,_,_,_,rfl,rfl,ha,rfl,?_⟩;refine ⟨_,rfl,a,_,_,_,rfl,rfl,ha,rfl,?_⟩;refine ⟨_,rfl,_,_,rfl,.int _,_,rfl,iteF ?_⟩;refine ⟨_,rfl,_,_,rfl,.int _,_,rfl,iteF ?_⟩;refine ⟨_,rfl,_,_,rfl,rfl,_,rfl,Bk (ζ (Z3 b)) ⟨_,rfl,_,rfl,_,_,rfl,rfl,?_⟩⟩;show Q (.bl (decide (V.int (Fr.gcd b.num (b.den:Int))=V.int 1))) H;rw [GJ,ζ (AW6 b)];exact q
theorem QT (T:Txt K mg ad):CalB P w K mg base true 2 "ratio_of" ["top","bottom"] zm:=by
 refine T.U7.calN Rk (λ _ _ _ _ _ _=>Bg λ _ _=>rfl) (λ vs H Q E h=>?_) (λ f v A outer s H vs Q E k h=>?_)
 ·obtain ⟨x,y,rfl,_⟩:=h;rfl
 obtain ⟨a,b,rfl,g,bs,q⟩:=h;refine ⟨_,(Ah (BJ (PW.pt (pw_or (Cd (Bs (Ag (kh T) k.m Af (Ac (pv 0) Aa)))) (pw_or (Cd (Bs (Ag (kh T) k.m Af (Ac (pv 1) Aa)))) (pw_or1 (BR Bq (pv 1) Ab))))) (Aj Dh) BL) (Ah (Aw (i:=2) Rk.nd (Ag (fj T) k.m Af (Ac (pv 0) (Ac (pv 1) Aa)))) (Ah (BJ (BR Hc (pv 1) Ab) (Aj (Aw (i:=2) Rk.nd (Ax Gm Ab (pv 2)))) BL) (Aj (Ar (Bh (CJ (Ax Qf (pv 0) (pv 2)) (CJ (Ax Qf (pv 1) (pv 2)) Aa)))))))),?_⟩
 refine ⟨_,rfl,_,_,rfl,.int a,_,rfl,?_⟩;refine iteF ?_;refine ⟨_,rfl,_,_,rfl,.int b,_,rfl,?_⟩;refine iteF ?_;refine ⟨_,rfl,rfl,_,rfl,?_⟩;refine ite2 (λ z=>?_) (λ _=>?_)
 ·exfalso;rw [GJ] at z;exact g (of_decide_eq_true z)
 refine ⟨_,rfl,_,rfl,a,b,rfl,?_⟩;have B:=Fr.iM (a:=a) g;have C:=Fr.jA a b;have r:∀j:Int,j.natAbs=(Fr.gcd a b).natAbs->j.natAbs.log2 < 9000:=λ j t=>by
  have u:j.natAbs < lim:=by omega
  exact jY u
 have d:∀j:Int,j=Fr.sg a b->aF a j/\aF b j:=λ j t=>by
  subst t;exact ⟨⟨Fr.Js g,r _ Fr.YB⟩,⟨Fr.Js g,r _ Fr.YB⟩⟩
 refine ⟨_,rfl,_,_,rfl,rfl,_,rfl,?_⟩;refine ite2 (λ l=>?_) (λ l=>?_)
 ·have n:b < 0:=of_decide_eq_true l;have e:(0:Int) - Fr.gcd a b=Fr.sg a b:=by
   unfold Fr.sg;rw [if_pos n]
  refine ⟨_,rfl,_,_,rfl,rfl,?_⟩;refine ⟨_,rfl,_,rfl,_,_,rfl,rfl,(d _ e).1,_,rfl,_,rfl,_,_,rfl,rfl,(d _ e).2,(by show 2<=Y3;decide),λ p o=>?_⟩
  rw [e];exact q p o
 ·have n:¬ b < 0:=λ z=>l (ζ z)
  have e:Fr.gcd a b=Fr.sg a b:=by
   unfold Fr.sg;rw [if_neg n]
  refine ⟨_,rfl,_,rfl,_,_,rfl,rfl,(d _ e).1,_,rfl,_,rfl,_,_,rfl,rfl,(d _ e).2,(by show 2<=Y3;decide),λ p o=>?_⟩
  rw [e];exact q p o
theorem Ih (T:Txt K mg ad):CalB P w K mg base true 3 "sum_of" ["one","other"] (PR K (Ka λ p q=>p+q)):=by
 refine T.Uc.calN qD (λ _ _ _ _ _ _=>Bg λ _ _=>rfl) (λ vs H Q E h=>?_) (λ f l A outer s H vs Q E g h=>?_)
 ·obtain ⟨_,_,dv,⟨_,_,rfl,_⟩,_⟩:=h;exact dv.len
 obtain ⟨_,_,dv,⟨p,q,rfl,sp,d,rfl⟩,k⟩:=h;obtain ⟨_,_,rfl,i,j⟩:=dv.two;obtain ⟨a,rfl,ha⟩:=i.fr;obtain ⟨b,rfl,hb⟩:=j.fr;refine ⟨_,(Aj (Ar (Ag (QT T) g.m Af (CJ (Ax DW (Ax Ef (Ae Al (pv 0) Ab) (Ae Al (pv 1) Ab)) (Ax Ef (Ae Al (pv 1) Ab) (Ae Al (pv 0) Ab))) (CJ (Ax Ef (Ae Al (pv 0) Ab) (Ae Al (pv 1) Ab)) Aa))))),?_⟩
 refine ⟨_,rfl,a,_,_,_,rfl,rfl,ha,rfl,_,rfl,b,_,_,_,rfl,rfl,hb,rfl,_,_,rfl,rfl,Em sp.n d.dn,?_⟩;refine ⟨_,rfl,b,_,_,_,rfl,rfl,hb,rfl,_,rfl,a,_,_,_,rfl,rfl,ha,rfl,_,_,rfl,rfl,Em d.n sp.dn,_,_,rfl,rfl,?_⟩;refine ⟨_,rfl,a,_,_,_,rfl,rfl,ha,rfl,_,rfl,b,_,_,_,rfl,rfl,hb,rfl,_,_,rfl,rfl,Em sp.dn d.dn,?_⟩;refine ⟨_,_,rfl,JH p q,Lw sp.dn d.dn,λ r g=>k _ _ (Ao g _) ?_⟩
 have e:=J0 (K:=K) (H:=H) (t:=p.num * (q.den:Int)+q.num * (p.den:Int)) (b:=(p.den:Int) * (q.den:Int)) (p:=r) (JH p q);rw [Fr.Vt] at e;exact e
theorem Ge (T:Txt K mg ad):CalB P w K mg base true 3 "less_by" ["one","other"] (PR K (Ka λ p q=>p - q)):=by
 refine T.XD.calN rM (λ _ _ _ _ _ _=>Bg λ _ _=>rfl) (λ vs H Q E h=>?_) (λ f l A outer s H vs Q E g h=>?_)
 ·obtain ⟨_,_,dv,⟨_,_,rfl,_⟩,_⟩:=h;exact dv.len
 obtain ⟨_,_,dv,⟨p,q,rfl,sp,d,rfl⟩,k⟩:=h;obtain ⟨_,_,rfl,i,j⟩:=dv.two;obtain ⟨a,rfl,ha⟩:=i.fr;obtain ⟨b,rfl,hb⟩:=j.fr;refine ⟨_,(Aj (Ar (Ag (QT T) g.m Af (CJ (Ax Gm (Ax Ef (Ae Al (pv 0) Ab) (Ae Al (pv 1) Ab)) (Ax Ef (Ae Al (pv 1) Ab) (Ae Al (pv 0) Ab))) (CJ (Ax Ef (Ae Al (pv 0) Ab) (Ae Al (pv 1) Ab)) Aa))))),?_⟩
 refine ⟨_,rfl,a,_,_,_,rfl,rfl,ha,rfl,_,rfl,b,_,_,_,rfl,rfl,hb,rfl,_,_,rfl,rfl,Em sp.n d.dn,?_⟩;refine ⟨_,rfl,b,_,_,_,rfl,rfl,hb,rfl,_,rfl,a,_,_,_,rfl,rfl,ha,rfl,_,_,rfl,rfl,Em d.n sp.dn,_,_,rfl,rfl,?_⟩;refine ⟨_,rfl,a,_,_,_,rfl,rfl,ha,rfl,_,rfl,b,_,_,_,rfl,rfl,hb,rfl,_,_,rfl,rfl,Em sp.dn d.dn,?_⟩;refine ⟨_,_,rfl,JH p q,Lw sp.dn d.dn,λ r g=>k _ _ (Ao g _) ?_⟩
 have e:=J0 (K:=K) (H:=H) (t:=p.num * (q.den:Int) - q.num * (p.den:Int)) (b:=(p.den:Int) * (q.den:Int)) (p:=r) (JH p q);rw [Fr.jM] at e;exact e
theorem Gz (T:Txt K mg ad):CalB P w K mg base true 3 "product_of" ["one","other"] (PR K (Ka λ p q=>p * q)):=by
 refine T.VP.calN rJ (λ _ _ _ _ _ _=>Bg λ _ _=>rfl) (λ vs H Q E h=>?_) (λ f l A outer s H vs Q E d h=>?_)
 ·obtain ⟨_,_,dv,⟨_,_,rfl,_⟩,_⟩:=h;exact dv.len
 obtain ⟨_,_,dv,⟨p,q,rfl,sp,g,rfl⟩,k⟩:=h;obtain ⟨_,_,rfl,i,j⟩:=dv.two;obtain ⟨a,rfl,ha⟩:=i.fr;obtain ⟨b,rfl,hb⟩:=j.fr;refine ⟨_,(Aj (Ar (Ag (QT T) d.m Af (CJ (Ax Ef (Ae Al (pv 0) Ab) (Ae Al (pv 1) Ab)) (CJ (Ax Ef (Ae Al (pv 0) Ab) (Ae Al (pv 1) Ab)) Aa))))),?_⟩
 refine ⟨_,rfl,a,_,_,_,rfl,rfl,ha,rfl,_,rfl,b,_,_,_,rfl,rfl,hb,rfl,_,_,rfl,rfl,Em sp.n g.n,?_⟩;refine ⟨_,rfl,a,_,_,_,rfl,rfl,ha,rfl,_,rfl,b,_,_,_,rfl,rfl,hb,rfl,_,_,rfl,rfl,Em sp.dn g.dn,?_⟩;refine ⟨_,_,rfl,JH p q,Lw sp.dn g.dn,λ r d=>k _ _ (Ao d _) ?_⟩
 have e:=J0 (K:=K) (H:=H) (t:=p.num * q.num) (b:=(p.den:Int) * (q.den:Int)) (p:=r) (JH p q);rw [Fr.oV] at e;exact e
theorem Jt (T:Txt K mg ad):CalB P w K mg base true 3 "quotient_of" ["one","other"] (PR K sG):=by
 refine T.Xb.calN qe (λ _ _ _ _ _ _=>Bg λ _ _=>rfl) (λ vs H Q E h=>?_) (λ f v A outer s H vs Q E d h=>?_)
 ·obtain ⟨_,_,dv,⟨_,_,rfl,_⟩,_⟩:=h;exact dv.len
 obtain ⟨_,_,dv,⟨p,q,rfl,sp,g,j,rfl⟩,k⟩:=h;obtain ⟨_,_,rfl,l,o⟩:=dv.two;obtain ⟨a,rfl,ha⟩:=l.fr;obtain ⟨b,rfl,hb⟩:=o.fr;refine ⟨_,(Aj (Ar (Ag (QT T) d.m Af (CJ (Ax Ef (Ae Al (pv 0) Ab) (Ae Al (pv 1) Ab)) (CJ (Ax Ef (Ae Al (pv 0) Ab) (Ae Al (pv 1) Ab)) Aa))))),?_⟩
 refine ⟨_,rfl,a,_,_,_,rfl,rfl,ha,rfl,_,rfl,b,_,_,_,rfl,rfl,hb,rfl,_,_,rfl,rfl,Em sp.n g.dn,?_⟩;refine ⟨_,rfl,a,_,_,_,rfl,rfl,ha,rfl,_,rfl,b,_,_,_,rfl,rfl,hb,rfl,_,_,rfl,rfl,Em sp.dn g.n,?_⟩;have u:q.num≠0:=λ e=>j (Fr.ig q |>.mp e)
 have i:(p.den:Int) * q.num≠0:=yl (aZ p) u;refine ⟨_,_,rfl,i,Lw sp.dn g.n,λ r d=>k _ _ (Ao d _) ?_⟩
 have e:=J0 (K:=K) (H:=H) (t:=p.num * (q.den:Int)) (b:=(p.den:Int) * q.num) (p:=r) i;rw [Fr.iZ] at e;exact e
theorem Hj (T:Txt K mg ad):CalB P w K mg base true 1 "is_less" ["one","other"] (PR K cu):=by
 refine T.Wj.calN AP0 (λ _ _ _ _ _ _=>Bg λ _ _=>rfl) (λ vs H Q E h=>?_) (λ f j A outer s H vs Q E l h=>?_)
 ·obtain ⟨_,_,dv,⟨_,_,rfl,_⟩,_⟩:=h;exact dv.len
 obtain ⟨_,_,dv,⟨p,q,rfl,sp,d,rfl⟩,k⟩:=h;obtain ⟨_,_,rfl,g,i⟩:=dv.two;obtain ⟨a,rfl,ha⟩:=g.fr;obtain ⟨b,rfl,hb⟩:=i.fr;refine ⟨_,(Aj (Ar (Dr Hc (Ax Ef (Ae Al (pv 0) Ab) (Ae Al (pv 1) Ab)) (Ax Ef (Ae Al (pv 1) Ab) (Ae Al (pv 0) Ab))))),?_⟩;refine ⟨_,rfl,a,_,_,_,rfl,rfl,ha,rfl,_,rfl,b,_,_,_,rfl,rfl,hb,rfl,_,_,rfl,rfl,Em sp.n d.dn,?_⟩;refine ⟨_,rfl,b,_,_,_,rfl,rfl,hb,rfl,_,rfl,a,_,_,_,rfl,rfl,ha,rfl,_,_,rfl,rfl,Em d.n sp.dn,_,_,rfl,rfl,?_⟩;have e:decide (p.num * (q.den:Int) < q.num * (p.den:Int))=decide (p < q):=decide_eq_decide.mpr (Fr.gw p q);show Q (.bl (decide (p.num * (q.den:Int) < q.num * (p.den:Int)))) H;rw [e];exact k _ _ (Same.refl _) (.bl _)
end
end K69
namespace K69
open PySem L2 Lib Fr Op
seal PE PT PW PA PS PSs PG PGs PI PO CP
section
variable {P:YA}{w:World}{K:FrG}{mg:Str->Option Value}{base:Heap}{ad:Adr}{c:Bool}
theorem km (T:Txt K mg ad):MkC P w K mg base 1 "Gap" ad.Gap ["self","length"] (bJ ad.Gap "length"):=by
 refine T.ex.i_Gap.mkc AS0 (λ _ _ _ _ _ _=>Bg λ _ _=>rfl) (λ vs H Q E h=>?_) (λ f d A outer s H vs Q E e h=>?_)
 ·obtain ⟨a,b,x,rfl,_⟩:=h;rfl
 obtain ⟨a,b,x,rfl,ha,q⟩:=h;refine ⟨_,(Aj (J8 (pv 0) (pv 1))),?_⟩;exact ⟨_,rfl,_,rfl,a,ad.Gap,b,[],rfl,ha,T.ex.l_Gap,T.ex.n_Gap_length,by decide,q⟩
theorem AN5 (T:Txt K mg ad):MkC P w K mg base 1 "Glass" ad.Glass ["self","strength"] (bJ ad.Glass "strength"):=by
 refine T.ex.i_Glass.mkc tY (λ _ _ _ _ _ _=>Bg λ _ _=>rfl) (λ vs H Q E h=>?_) (λ f d A outer s H vs Q E e h=>?_)
 ·obtain ⟨a,b,x,rfl,_⟩:=h;rfl
 obtain ⟨a,b,x,rfl,ha,q⟩:=h;refine ⟨_,(Aj (J8 (pv 0) (pv 1))),?_⟩;exact ⟨_,rfl,_,rfl,a,ad.Glass,b,[],rfl,ha,T.ex.l_Glass,T.ex.n_Glass_strength,by decide,q⟩
theorem AU9 (T:Txt K mg ad):MkC P w K mg base 1 "Stop" ad.Stop ["self","low","high"] (AJ1 ad.Stop "low" "high"):=by
 refine T.ex.i_Stop.mkc Aj1 (λ _ _ _ _ _ _=>Mz λ _ _ _=>rfl) (λ vs H Q E h=>?_) (λ f d A outer s H vs Q E e h=>?_)
 ·obtain ⟨a,b,x,y,rfl,_⟩:=h;rfl
 obtain ⟨a,b,x,y,rfl,ha,q⟩:=h;refine ⟨_,(Ah (J8 (pv 0) (pv 1)) (Aj (J8 (pv 0) (pv 2)))),?_⟩;refine ⟨_,rfl,_,rfl,a,ad.Stop,b,[],rfl,ha,T.ex.l_Stop,T.ex.n_Stop_low,by decide,?_⟩
 refine ⟨_,rfl,_,rfl,a,ad.Stop,b,_,rfl,Aq,T.ex.l_Stop,T.ex.n_Stop_high,(by show 1 < 1000;decide),?_⟩
 rw [HY];exact q
theorem qM (T:Txt K mg ad):MC P w K mg base 4 ad.Gap "lets" ["self","ray"] iC:=by
 refine T.ex.q_Gap_lets.mc cU (λ _ _ _ _ _ _=>Bg λ _ _=>rfl) (λ vs H Q E h=>?_) (λ f a A outer s H vs Q E b h=>?_)
 ·obtain ⟨x,y,rfl,_⟩:=h;rfl
 obtain ⟨x,y,rfl,q⟩:=h;exact ⟨_,(Aj (Ar Dn)),q⟩
theorem Ae1 (T:Txt K mg ad):MC P w K mg base 4 ad.Glass "lets" ["self","ray"] iC:=by
 refine T.ex.q_Glass_lets.mc cU (λ _ _ _ _ _ _=>Bg λ _ _=>rfl) (λ vs H Q E h=>?_) (λ f a A outer s H vs Q E b h=>?_)
 ·obtain ⟨x,y,rfl,_⟩:=h;rfl
 obtain ⟨x,y,rfl,q⟩:=h;exact ⟨_,(Aj (Ar Dn)),q⟩
theorem vz (T:Txt K mg ad):MC P w K mg base 4 ad.Stop "lets" ["self","ray"] (Vr K ad.Gap ad.Glass ad.Stop (λ p r=>.bool (p.lets r)) isStop):=by
 refine T.ex.q_Stop_lets.mc xG (λ _ _ _ _ _ _=>Bg λ _ _=>rfl) (λ vs H Q E h=>?_) (λ f B A outer s H vs Q E j h=>?_)
 ·obtain ⟨_,_,_,_,_,_,rfl,_⟩:=h;rfl
 obtain ⟨o,y,p,r,n,m,rfl,hc,q,t,rb,pb,b,k⟩:=h;cases q with
 | gap _ _=>exact hc.elim
 | glass _ _=>exact hc.elim
 | @stop a D F G lo hi ha u x=>
  obtain ⟨l,I,J,rfl,g,i,C⟩:=t.t2;refine ⟨_,(Aj (Ar (HX (Ms (Ag (Hj T) j.m Af (Am (Ae Al (pv 1) Ab) (DY (Fi (pv 0)) Aa)))) (Ho (Ms (Ag (Hj T) j.m Af (DY (Fi (pv 0)) (Am (Ae Al (pv 1) Ab) Aa)))))))),?_⟩
  refine ⟨_,rfl,l,_,_,_,rfl,rfl,g,rfl,_,rfl,a,_,_,_,_,rfl,ha,T.ex.l_Stop,T.ex.n_Stop_low,rfl,?_⟩;refine ⟨_,_,.cons i (.cons u .nil),⟨_,_,rfl,rb.y.sm (Jg b),pb.1.sm (Pr b),rfl⟩,λ v L d hv=>?_⟩
  obtain rfl:=hv.bl_of;refine ⟨_,rfl,_,rfl,?_⟩;cases c1:decide (r.1 < lo) with
  | true=>
   refine iteF ?_;refine k _ _ d ?_;have e:(Pc.stop lo hi).lets r=false:=by show (!decide (r.1 < lo) && _)=false;rw [c1];rfl
   show DV K _ _ (.bool ((Pc.stop lo hi).lets r));rw [e];exact .bl _
  | false=>
   refine iteT ?_;refine ⟨_,rfl,a,_,_,_,_,rfl,d _ _ ha,T.ex.l_Stop,T.ex.n_Stop_high,rfl,_,rfl,l,_,_,_,rfl,rfl,g.keep d,rfl,?_⟩;refine ⟨_,_,.cons (x.keep d) (.cons (i.keep d) .nil),⟨_,_,rfl,pb.2.sm (Pr b),rb.y.sm (Jg b),rfl⟩,λ v M z hv=>?_⟩
   obtain rfl:=hv.bl_of;refine ⟨_,rfl,?_⟩;refine k _ _ (d.trans z) ?_;have e:(Pc.stop lo hi).lets r=!decide (hi < r.1):=by show (!decide (r.1 < lo) && _)=_;rw [c1];rfl
   show DV K _ _ (.bool ((Pc.stop lo hi).lets r));rw [e];exact .bl _
theorem Ab3 (T:Txt K mg ad):MC P w K mg base 4 ad.Stop "bent" ["self","ray"] AT9:=by
 refine T.ex.q_Stop_bent.mc AZ1 (λ _ _ _ _ _ _=>Bg λ _ _=>rfl) (λ vs H Q E h=>?_) (λ f a A outer s H vs Q E b h=>?_)
 ·obtain ⟨x,y,rfl,_⟩:=h;rfl
 obtain ⟨x,y,rfl,q⟩:=h;exact ⟨_,(Aj (Ar (pv 1))),_,rfl,q⟩
theorem VH (T:Txt K mg ad):MC P w K mg base 4 ad.Gap "bent" ["self","ray"] (Vr K ad.Gap ad.Glass ad.Stop (λ p r=>BZ (p.bent r)) AK1):=by
 refine T.ex.q_Gap_bent.mc qU (λ _ _ _ _ _ _=>Bg λ _ _=>rfl) (λ vs H Q E h=>?_) (λ f G A outer s H vs Q E q h=>?_)
 ·obtain ⟨_,_,_,_,_,_,rfl,_⟩:=h;rfl
 obtain ⟨o,y,p,r,n,m,rfl,hc,C,D,rb,pb,b,k⟩:=h;cases C with
 | glass _ _=>exact hc.elim
 | stop _ _ _=>exact hc.elim
 | @gap a I J d ha F=>
  have pb:Bd m d:=pb;obtain ⟨j,L,M,rfl,e,x,i⟩:=D.t2;refine ⟨_,(Aj (Ar (Bh (BX (Ag (Ih T) q.m Af (Am (Ae Al (pv 1) Ab) (BX (Ag (Gz T) q.m Af (DY (Fi (pv 0)) (Am (Ae Al (pv 1) Ab) Aa))) Aa))) (Am (Ae Al (pv 1) Ab) Aa))))),?_⟩
  refine ⟨_,rfl,j,_,_,_,rfl,rfl,e,rfl,?_⟩;refine ⟨_,rfl,a,_,_,_,_,rfl,ha,T.ex.l_Gap,T.ex.n_Gap_length,rfl,_,rfl,j,_,_,_,rfl,rfl,e,rfl,?_⟩;refine ⟨_,_,.cons F (.cons i .nil),⟨_,_,rfl,pb.sm (Pr b),rb.u.sm (Jg b),rfl⟩,λ v N g hv=>?_⟩
  refine ⟨_,_,.cons (x.keep g) (.cons hv .nil),⟨_,_,rfl,rb.y.sm (Jg b),(pb.mul rb.u).sm (nF b),rfl⟩,λ O R l z=>?_⟩
  refine ⟨_,rfl,j,_,_,_,rfl,rfl,e.keep (g.trans l),rfl,(by show 2<=Y3;decide),λ t B=>?_⟩
  exact k _ _ ((g.trans l).trans (Ao B _)) (DV.upd2 B z (i.keep (g.trans l)))
theorem vm (T:Txt K mg ad):MC P w K mg base 4 ad.Glass "bent" ["self","ray"] (Vr K ad.Gap ad.Glass ad.Stop (λ p r=>BZ (p.bent r)) qy):=by
 refine T.ex.q_Glass_bent.mc AH7 (λ _ _ _ _ _ _=>Bg λ _ _=>rfl) (λ vs H Q E h=>?_) (λ f G A outer s H vs Q E l h=>?_)
 ·obtain ⟨_,_,_,_,_,_,rfl,_⟩:=h;rfl
 obtain ⟨o,y,p,r,n,m,rfl,hc,C,D,rb,pb,b,k⟩:=h;cases C with
 | gap _ _=>exact hc.elim
 | stop _ _ _=>exact hc.elim
 | @glass a I J d ha F=>
  have pb:Bd m d:=pb;obtain ⟨i,L,M,rfl,e,g,q⟩:=D.t2;refine ⟨_,(Aj (Ar (Bh (Am (Ae Al (pv 1) Ab) (BX (Ag (Ge T) l.m Af (Am (Ae Al (pv 1) Ab) (BX (Ag (Gz T) l.m Af (DY (Fi (pv 0)) (Am (Ae Al (pv 1) Ab) Aa))) Aa))) Aa))))),?_⟩
  refine ⟨_,rfl,i,_,_,_,rfl,rfl,e,rfl,?_⟩;refine ⟨_,rfl,i,_,_,_,rfl,rfl,e,rfl,?_⟩;refine ⟨_,rfl,a,_,_,_,_,rfl,ha,T.ex.l_Glass,T.ex.n_Glass_strength,rfl,_,rfl,i,_,_,_,rfl,rfl,e,rfl,?_⟩;refine ⟨_,_,.cons F (.cons g .nil),⟨_,_,rfl,pb.sm (Pr b),rb.y.sm (Jg b),rfl⟩,λ v N j hv=>?_⟩
  refine ⟨_,_,.cons (q.keep j) (.cons hv .nil),⟨_,_,rfl,rb.u.sm (Jg b),(pb.mul rb.y).sm (nF b),rfl⟩,λ O R x z=>?_⟩
  refine ⟨(by show 2<=Y3;decide),λ t B=>?_⟩
  exact k _ _ ((j.trans x).trans (Ao B _)) (DV.upd2 B (g.keep (j.trans x)) z)
theorem vM (T:Txt K mg ad){H:Hp}{v y:V}{p:Pc}{r:Ad}{n m:Nat}(h:ObAt K ad.Gap ad.Glass ad.Stop H v p)(f:DV K H y (BZ r))(rb:RB n r)(pb:p.bd m)(d:n+m<=3900):
  ∃(a C g:Addr) (fs:List (Str×V)) (ps:List Str) (sp:Sp),v=.ref a/\H a=some (.ins C g fs)/\fs.lookup ("lets":Str)=none/\MC P w K mg base 4 C "lets" ps sp/\∀Q:VK,(∀b,Same H b->Q (.bl (p.lets r)) b)->sp [v,y] H Q E0:=by
 cases id h with
 | gap ha e=>exact ⟨_,_,_,_,_,_,rfl,ha,rfl,qM T,λ Q k=>⟨_,_,rfl,k _ (Same.refl _)⟩⟩
 | glass ha e=>exact ⟨_,_,_,_,_,_,rfl,ha,rfl,Ae1 T,λ Q k=>⟨_,_,rfl,k _ (Same.refl _)⟩⟩
 | stop ha e hz=>exact ⟨_,_,_,_,_,_,rfl,ha,rfl,vz T,λ Q k=>⟨_,_,.stop _ _,r,n,m,rfl,trivial,h,f,rb,pb,d,λ v b s' hv=>by obtain rfl:=hv.bl_of;exact k _ s'⟩⟩
theorem HH (T:Txt K mg ad){H:Hp}{v y:V}{p:Pc}{r:Ad}{n m:Nat}(h:ObAt K ad.Gap ad.Glass ad.Stop H v p)(d:DV K H y (BZ r))(rb:RB n r)(pb:p.bd m)(b:n+m<=3900):
  ∃(a C g:Addr) (fs:List (Str×V)) (ps:List Str) (sp:Sp),v=.ref a/\H a=some (.ins C g fs)/\fs.lookup ("bent":Str)=none/\MC P w K mg base 4 C "bent" ps sp/\∀Q:VK,(∀v e,Same H e->DV K e v (BZ (p.bent r))->Q v e)->sp [v,y] H Q E0:=by
 cases id h with
 | gap ha f=>exact ⟨_,_,_,_,_,_,rfl,ha,rfl,VH T,λ Q k=>⟨_,_,.gap _,r,n,m,rfl,trivial,h,d,rb,pb,b,k⟩⟩
 | glass ha f=>exact ⟨_,_,_,_,_,_,rfl,ha,rfl,vm T,λ Q k=>⟨_,_,.glass _,r,n,m,rfl,trivial,h,d,rb,pb,b,k⟩⟩
 | stop ha f hz=>exact ⟨_,_,_,_,_,_,rfl,ha,rfl,Ab3 T,λ Q k=>⟨_,_,rfl,k _ _ (Same.refl _) d⟩⟩
theorem XF (T:Txt K mg ad):CalB P w K mg base true 3 "piece_of" ["told"] (AK8 K ad.Gap ad.Glass ad.Stop):=by
 refine T.Sh.calN vO (λ _ _ _ _ _ _=>by1 λ _=>rfl) (λ vs H Q E h=>?_) (λ f u A outer s H vs Q E t h=>?_)
 ·obtain ⟨v,p,rfl,_⟩:=h;rfl
 obtain ⟨v,p,rfl,hv,q⟩:=h;refine ⟨_,(Ah (BJ (BR Bq (Ae Al (pv 0) Ab) (Bb (v:=.str "gap") rfl T.ex.m_GAP ⟨_,rfl⟩)) (Aj (Ar (Jj (km T) t.m (Am (Ae Al (pv 0) Ab) Aa)))) BL) (Ah (BJ (BR Bq (Ae Al (pv 0) Ab) (Bb (v:=.str "glass") rfl T.ex.m_GLASS ⟨_,rfl⟩)) (Aj (Ar (Jj (AN5 T) t.m (Am (Ae Al (pv 0) Ab) Aa)))) BL) (Aj (Ar (Jj (AU9 T) t.m (Am (Ae Al (pv 0) Ab) (Am (Ae Al (pv 0) Ab) Aa))))))),?_⟩
 cases p with
 | gap d=>
  obtain ⟨a,x,y,rfl,ha,k,l⟩:=DV.t2 hv;obtain rfl:=k.str_of;refine ⟨_,rfl,a,_,_,_,rfl,rfl,ha,rfl,rfl,_,rfl,Bk ⋯ ?_⟩
  refine ⟨_,rfl,a,_,_,_,rfl,rfl,ha,rfl,λ o b n g i=>⟨o,b,y,rfl,Aq,rfl,?_⟩⟩
  have r:Same H (upd H b (.own o)):=Ao g _;have j:upd H b (.own o) o=none:=by rw [BP (JE i)];exact n
  have e:=r.trans (Ao j (.ins ad.Gap b [("length",y)]));rw [HY];exact q _ _ e (.gap Aq (l.keep e))
 | glass d=>
  obtain ⟨a,x,y,rfl,ha,k,l⟩:=DV.t2 hv;obtain rfl:=k.str_of;refine ⟨_,rfl,a,_,_,_,rfl,rfl,ha,rfl,rfl,_,rfl,BV ⋯ ?_⟩
  refine ⟨_,rfl,a,_,_,_,rfl,rfl,ha,rfl,rfl,_,rfl,Bk ⋯ ?_⟩
  refine ⟨_,rfl,a,_,_,_,rfl,rfl,ha,rfl,λ o b n g i=>⟨o,b,y,rfl,Aq,rfl,?_⟩⟩
  have r:Same H (upd H b (.own o)):=Ao g _;have j:upd H b (.own o) o=none:=by rw [BP (JE i)];exact n
  have e:=r.trans (Ao j (.ins ad.Glass b [("strength",y)]));rw [HY];exact q _ _ e (.glass Aq (l.keep e))
 | stop lo hi=>
  obtain ⟨a,x,y,z,rfl,ha,k,l,hz⟩:=DV.t3 hv;obtain rfl:=k.str_of;refine ⟨_,rfl,a,_,_,_,rfl,rfl,ha,rfl,rfl,_,rfl,BV ⋯ ?_⟩
  refine ⟨_,rfl,a,_,_,_,rfl,rfl,ha,rfl,rfl,_,rfl,BV ⋯ ?_⟩
  refine ⟨_,rfl,a,_,_,_,rfl,rfl,ha,rfl,_,rfl,a,_,_,_,rfl,rfl,ha,rfl,λ o b n g i=>⟨o,b,y,z,rfl,Aq,rfl,?_⟩⟩
  have r:Same H (upd H b (.own o)):=Ao g _;have j:upd H b (.own o) o=none:=by rw [BP (JE i)];exact n
  have e:=r.trans (Ao j (.ins ad.Stop b [("low",y),("high",z)]));rw [HY];exact q _ _ e (.stop Aq (l.keep e) (hz.keep e))
theorem cT (T:Txt K mg ad):CalB P w K mg base true 3 "is_piece" ["thing"] (Ab8 K):=by
 refine T.Rp.calN AM2 (λ _ _ _ _ _ _=>by1 λ _=>rfl) (λ vs H Q E h=>?_) (λ f y A outer s H vs Q E B h=>?_)
 ·obtain ⟨_,_,_,rfl,_⟩:=h;rfl
 obtain ⟨v,a8,m,rfl,hv,ok,pb,C,q⟩:=h;obtain ⟨z,es,S,sh⟩:=tX ok pb;rw [S] at hv;obtain ⟨a,xs,rfl,ha,D⟩:=hv.tup_of;obtain ⟨a9,b,rfl,F,j⟩:=D.cons_of;obtain rfl:=F.str_of;have hl:=j.len;rw [Y2] at hl;have a7:=sh.len;obtain ⟨b0,U,W⟩:∃t,PSs (Eu true P w K mg base ["thing"] "is_piece" (defScope Ku) f y A outer s H E).nox ((defBody Ku).drop 2) t/\∀(R:Ends) (r:Hp),Same H r->(∀g,Same H g->R.rt (.bl true) g)->t R [some (.ref a)] r:=by
  refine ⟨_,(Ah (BJ (BR Bq (Ae Al (pv 0) Ab) (Bb (v:=.str "stop") rfl T.ex.m_STOP ⟨_,rfl⟩)) (Aj (Ar (HX (Dr Bq (Br Do rfl T.len Dc (Ac (pv 0) Aa)) Ab) (Ho (Ms (Ag (Hj T) B.m Af (Am (Ae Al (pv 0) Ab) (Am (Ae Al (pv 0) Ab) Aa)))))))) BL) (Aj (Ar (HX (Dr AT2 (Ae Al (pv 0) Ab) (Bh (Ac (Bb (v:=.str "gap") rfl T.ex.m_GAP ⟨_,rfl⟩) (Ac (Bb (v:=.str "glass") rfl T.ex.m_GLASS ⟨_,rfl⟩) Aa)))) (Ho (Dr Bq (Br Do rfl T.len Dc (Ac (pv 0) Aa)) Ab)))))),?_⟩
  intro R r t2 q;refine ⟨_,rfl,a,_,_,_,rfl,rfl,ha.keep t2,Ek,rfl,_,rfl,?_⟩;rw [Cy];cases sh with
  | stop G I J=>
   obtain ⟨b1,b2,rfl,X,Y⟩:=j.two;refine Bk ⋯ ?_
   refine ⟨_,rfl,a,_,rfl,.inr (ha.keep t2),rfl,_,rfl,iteT ?_⟩;refine ⟨_,rfl,a,_,_,_,rfl,rfl,ha.keep t2,rfl,_,rfl,a,_,_,_,rfl,rfl,ha.keep t2,rfl,?_⟩;refine ⟨_,_,.cons (Y.keep t2) (.cons (X.keep t2) .nil),⟨_,_,rfl,J.sm C,I.sm C,rfl⟩,λ v b3 Z hv=>?_⟩
   obtain rfl:=hv.bl_of;refine ⟨_,rfl,?_⟩;rw [η G];exact q _ (t2.trans Z)
  | one e1 e2=>
   refine BV e1 ?_;refine ⟨_,rfl,a,_,_,_,rfl,rfl,ha.keep t2,Ek,(by show 2<=Y3;decide),λ a0 L=>?_⟩
   have t3:=t2.trans (Ao L (.tup [.str "gap",.str "glass"]));refine ⟨a0,_,rfl,.inr (SqT.of Aq),rfl,rfl,_,rfl,Bk ((Aa3 z).trans e2) ?_⟩;refine ⟨_,rfl,a,_,rfl,.inr (ha.keep t3),rfl,?_⟩;have M:b.length=1:=hl;show R.rt (.bl (decide (V.int ((b.length+1:Nat):Int)=V.int 2))) _;rw [M];exact q _ t3
 refine ⟨_,(Ah (BJ (PW.pt (pw_or (Cd (Bs (Br Ff rfl T.isinstance Fv (Ac (pv 0) (Ac (Fg (v:=.ty "tuple") rfl T.tuple N7 rfl) Aa))))) (pw_or (BR Hc (Br Do rfl T.len Dc (Ac (pv 0) Aa)) Ab) (pw_or1 (Cd (Bs (Br Ff rfl T.isinstance Fv (Am (Ae Al (pv 0) Ab) (Ac (Fg (v:=.ty "str") rfl T.str HR rfl) Aa))))))))) (Aj (Ar Dn)) BL) (Ah (BJ (Cd (Bs (Br (Np rfl) rfl T.all Qw (DY (G4 ["part"] [none] rfl (Kf (Ea LR (pv 0) (Cu Ab) FJ)) (λ _ _ _ _ _=>(Bp (i:=0) (show Uu [("part":Str)] by decide))) (λ _ _ _ _ _=>FQ) (λ _ _ _ _ _=>(Ag (Ou T) B.m Af (Ac (pv 0) Aa))) (Fo ⋯ ⋯) ⋯ rfl ⋯ rfl (Fw rfl)) Aa)))) (Aj (Ar Dn)) BL) U)),?_⟩
 refine ⟨_,rfl,_,_,_,_,rfl,hv,Od _,_,rfl,iteF ?_⟩;refine ⟨_,rfl,a,_,rfl,.inr ha,_,_,rfl,rfl,_,rfl,BV (η (by simp only [X2];omega)) ?_⟩
 refine ⟨_,rfl,a,_,_,_,rfl,rfl,ha,Ek,_,_,_,_,rfl,F,K7 _,_,rfl,iteF ?_⟩;refine ⟨_,rfl,_,rfl,a,_,rfl,ha,(λ e=>by rw [K3] at e;simp only [X2] at e;omega),λ p a1=>⟨p,rfl,⟨_,SqT.of Aq⟩,?_⟩⟩
 rw [Kw];have u:=Ao a1 (.tup ((V.str z::b).drop 1));have d:=j.keep u;have o:upd H p (.tup ((V.str z::b).drop 1)) p=some (.tup b):=Aq;generalize upd H p (.tup ((V.str z::b).drop 1))=a2 at u d o ⊢;refine Mm (K:=K) (a:=p) (xs:=b) (λ i k l g=>∃c0,k=[c0]/\l=Xz i (V.bl true)/\Same a2 g) ⟨_,rfl,rfl,Same.refl _⟩ ?_ ?_ ?_
 ·rintro i k l g hi ⟨c0,rfl,rfl,s'⟩
  refine ⟨?_,SqT.of (s' _ _ o)⟩;have b4:=small1000 (n:=1000) ⋯
  rw [wt];omega
 ·rintro i x k l g hi ⟨c0,rfl,rfl,s'⟩
  obtain ⟨b5,N,a3⟩:=d.get hi;obtain ⟨a4,rfl⟩:=dX N;exact ⟨_,rfl,_,a4,rfl,a3.keep s',nx (CQ hi) ⟨_,rfl,NU.symm,s'⟩⟩
 ·rintro k l g a5 ⟨c0,rfl,rfl,s'⟩ O
  have a6:=Ao O (.lst (Xz b.length (V.bl true)));refine ⟨a5,Xz b.length true,rfl,SqL.of (by rw [tL];exact Aq),_,rfl,?_⟩
  rw [AU3];exact iteF (W _ _ (u.trans (s'.trans a6)) q)
theorem Lk (T:Txt K mg ad):CalB P w K mg base true 4 "look_at" ["bench"] (pU K):=by
 refine T.Ra.calN Zf (λ _ _ _ _ _ _=>by1 λ _=>rfl) (λ vs H Q E h=>?_) (λ f D A outer s H vs Q E t h=>?_)
 ·obtain ⟨_,_,_,rfl,_⟩:=h;rfl
 obtain ⟨v,ps,m,rfl,hv,u,y,q⟩:=h;obtain ⟨a,xs,rfl,ha,l⟩:=DV.lst_of hv;have hl:xs.length=ps.length:=by have:=l.len;rw [Y2] at this;exact this
 have F:=u.len;refine ⟨_,(Ah (BJ (PW.pt (pw_or (Cd (Bs (Br Ff rfl T.isinstance Fv (Ac (pv 0) (Ac (Fg (v:=.ty "list") rfl T.list Ai6 rfl) Aa))))) (pw_or1 (BR Hu (Br Do rfl T.len Dc (Ac (pv 0) Aa)) (Bb (v:=.int 60) rfl T.ex.m_MOST_PIECES ⟨_,rfl⟩))))) (Aj Dh) BL) (Aj (Dj YR rfl (Lb rfl T.enumerate (Ac (pv 0) Aa)) (JV (n:=2) rfl (Eb (Bp (i:=1) Zf.nd) (Eb (Bp (i:=2) Zf.nd) HD))) (Aj (BJ (Cd (Bs (Ag (cT T) t.m Af (Ac (pv 2) Aa)))) (Aj Dh) BL))))),?_⟩
 refine ⟨_,rfl,_,_,_,_,rfl,hv,AS9 _,_,rfl,?_⟩;refine iteF ?_;refine ⟨_,rfl,a,_,rfl,.inl ha,_,_,rfl,rfl,_,rfl,BV (η ∅) ?_⟩
 refine ⟨_,rfl,a,rfl,⟨_,ha⟩,?_⟩;refine M7 (K:=K) (a:=a) (xs:=xs) (λ i g j=>∃c1 k,g=[some (.ref a),c1,k]/\Same H j) ⟨_,_,rfl,Same.refl _⟩ ?_ ?_ ?_
 ·rintro i g j hi ⟨c1,k,rfl,b⟩
  exact ha.keep b
 ·rintro i x g j p hi ⟨c1,k,rfl,b⟩ z
  obtain ⟨d,hd,B⟩:=l.get hi;obtain ⟨G,o,rfl⟩:=Hg hd;have e:=ZI o;have r:=b.trans (Ao z (.tup [.int i,x]));refine ⟨p,_,rfl,SqT.of Aq,rfl,_,_,rfl,_,_,rfl,rfl,?_⟩;exact ⟨_,rfl,_,_,_,rfl,B.keep r,u.ok _ e,u.bd _ e,y,λ I C=>⟨_,rfl,iteF ⟨_,_,rfl,r.trans C⟩⟩⟩
 ·rintro g j ⟨c1,k,rfl,b⟩
  exact q _ b
theorem bC (T:Txt K mg ad):CalB P w K mg base true 5 "walk_of" ["bench","ray"] (AR1 K):=by
 refine T.ZK.calN Je (λ _ _ _ _ _ _=>Bg λ _ _=>rfl) (λ vs H Q E h=>?_) (λ f d1 A outer s H vs Q E Y h=>?_)
 ·obtain ⟨_,_,_,_,_,_,rfl,_⟩:=h;rfl
 obtain ⟨b,y,ps,r,n,m,rfl,hb,b5,b6,rb,b7,q⟩:=h;obtain ⟨a,xs,rfl,ha,a5⟩:=DV.lst_of hb;have hl:xs.length=ps.length:=by have:=a5.len;rw [Y2] at this;exact this
 have d2:=b5.len;refine ⟨_,(Ah (Cq (Ag (Lk T) Y.m Af (Ac (pv 0) Aa))) (Ah (Aw (i:=2) Je.nd (CW (Ac (pv 1) Aa))) (Ah (Dj YR rfl (Lb rfl T.enumerate (Ac (pv 0) Aa)) (JV (n:=2) rfl (Eb (Bp (i:=3) Je.nd) (Eb (Bp (i:=4) Je.nd) HD))) (Ah (Aw (i:=5) Je.nd (Ag (XF T) Y.m Af (Ac (pv 4) Aa))) (Ah (BJ (Cd (Bs (CZ (k:=4) (pv 5) Y.m (Ac (pv 1) Aa)))) (Aj (Ar (Bh (Ac (pv 2) (Ac (pv 3) Aa))))) BL) (Ah (Aw (i:=1) Je.nd (CZ (k:=4) (pv 5) Y.m (Ac (pv 1) Aa))) (Aj (Cq (Ca YY Xq Xs Fq (pv 2) (Ac (pv 1) Aa)))))))) (Aj (Ar (Bh (Ac (pv 2) (Bj Ec Aa)))))))),?_⟩
 refine ⟨_,rfl,_,ps,m,rfl,hb,b5,by omega,λ d3 b8=>?_⟩
 refine ⟨_,rfl,(by show 1<=Y3;decide),λ l a6=>?_⟩
 have b0:H l=none:=b8.free a6;have Z:=b8.trans (Ao a6 (.lst [y]));refine ⟨_,rfl,a,rfl,⟨_,ha.keep Z⟩,?_⟩;refine M7 (K:=K) (a:=a) (xs:=xs) (λ i a0 B=>∃c1 a1 a2 v g D vs,a0=[some (.ref a),some v,some (.ref l),c1,a1,a2]/\Same H B/\B l=some (.lst vs)/\DVs K B vs ((r::D).map BZ)/\DV K B v (BZ g)/\At ps r i D g/\RB (n+i * (m+1)) g/\D.length<=i) ⟨_,_,_,y,r,[],[y],rfl,Z,Aq,.cons (b6.keep Z) .nil,b6.keep Z,xX ps r,by simpa using rb,ZY _⟩ ?_ ?_ ?_
 ·rintro i a0 B hi ⟨c1,a1,a2,v,g,D,vs,rfl,G,_⟩
  exact ha.keep G
 ·rintro i x a0 B p hi ⟨c1,a1,a2,v,g,D,vs,rfl,G,L,j,hv,u,N,a7⟩ c6
  obtain ⟨d,hd,c7⟩:=a5.get hi;obtain ⟨a3,O,rfl⟩:=Hg hd;have I:=ZI O;have b9:=CQ O;have up:=Ao c6 (.tup [.int i,x]);have c8:=G.trans up;have c0:=gR b7 b9;refine ⟨p,_,rfl,SqT.of Aq,rfl,_,_,rfl,_,_,rfl,rfl,?_⟩;refine ⟨_,rfl,_,a3,rfl,c7.keep c8,λ o d4 c9 c2=>?_⟩
  have a8:=up.trans c9;obtain ⟨b1,C,b2,fs,S,sp,e1,e2,b3,M,U⟩:=vM (P:=P) (w:=w) (base:=base) T c2 (hv.keep a8) N (b5.bd _ I) c0;refine ⟨_,rfl,b1,C,b2,fs,S,sp,e1,e2,b3,M,_,rfl,U _ (λ d5 c3=>⟨_,rfl,?_⟩)⟩
  have z:=a8.trans c3;have d0:=G.trans z;cases R:a3.lets g with
  | false=>
   refine iteT ?_;refine ⟨_,rfl,_,rfl,(by show 2<=Y3;decide),λ t b4=>?_⟩
   have J:=Ao b4 (.tup [.ref l,.int (i:Int)]);have V:=u.stop O R;refine q t l vs (.int i) _ (d0.trans J) b0 ((z.trans J) _ _ L) Aq ?_ ?_
   ·rw [V];exact j.keep (z.trans J)
   ·rw [V];exact .int _
  | true=>
   refine iteF ?_;obtain ⟨b1,C,b2,fs,S,sp,e1,e2,b3,M,U⟩:=HH (P:=P) (w:=w) (base:=base) T (c2.keep c3) (hv.keep z) N (b5.bd _ I) c0;refine ⟨_,rfl,b1,C,b2,fs,S,sp,e1,e2,b3,M,_,rfl,U _ (λ a4 d6 c4 a9=>?_)⟩
   have W:=z.trans c4;have X:=W _ _ L;refine ⟨_,rfl,.inl ⟨rfl,_,SqL.of X⟩,_,rfl,l,vs,a4,rfl,rfl,X,vD j ∅,?_⟩
   have c5:=Gp X (.lst (vs++[a4]));refine ⟨_,_,_,a4,a3.bent g,D++[a3.bent g],vs++[a4],rfl,?_,Aq,?_,?_,u.step O R,?_,?_⟩
   ·intro b o e;rw [BP (Bt e b0)];exact (G.trans W) _ _ e
   ·rw [<- wI,ZB];exact Cp c5 (by rw [<- ZB];exact De GF _) ((j.keep W).append (.cons a9 .nil))
   ·exact Er c5 (GF _) a9
   ·have:=Hf (b5.bd _ I) N;exact Rb.mono this (wg _ _ _)
   ·exact AK7 a7
 ·rintro a0 B ⟨c1,a1,a2,v,g,D,vs,rfl,G,L,j,hv,u,N,a7⟩
  refine ⟨_,rfl,(by show 2<=Y3;decide),λ t b4=>?_⟩
  have J:=Ao b4 (.tup [.ref l,.non]);rw [hl] at u;have V:=u.done;refine q t l vs .non _ (G.trans J) b0 (J _ _ L) Aq ?_ ?_
  ·rw [V];exact j.keep J
  ·rw [V];exact .non
theorem dN (T:Txt K mg ad)(H:Hp):DV K H (.ref ad.NOUGHT) (Ak 0):=.tup (T.ex.s_NOUGHT H) (.cons (.int 0) (.cons (.int 1) .nil))
theorem dO (T:Txt K mg ad)(H:Hp):DV K H (.ref ad.ONE) (Ak 1):=.tup (T.ex.s_ONE H) (.cons (.int 1) (.cons (.int 1) .nil))
theorem wG (T:Txt K mg ad):CalB P w K mg base true 4 "is_table" ["thing"] (PR K qZ):=by
 refine T.au.calN AK0 (λ _ _ _ _ _ _=>by1 λ _=>rfl) (λ vs H Q E h=>?_) (λ f W A outer s H vs Q E e h=>?_)
 ·obtain ⟨_,_,dv,⟨_,_,rfl,_⟩,_⟩:=h;exact dv.len
 obtain ⟨_,_,dv,⟨t,n,rfl,tb,X,rfl⟩,k⟩:=h;obtain ⟨_,rfl,B⟩:=dv.one;obtain ⟨a,o,q,r,y,rfl,ha,C,D,F,G⟩:=DV.t4 B;have z:DVs K H [o,q,r,y] [Ak t.a,Ak t.b,Ak t.c,Ak t.d]:=.cons C (.cons D (.cons F (.cons G .nil)));refine ⟨_,(Ah (BJ (PW.pt (pw_or (Cd (Bs (Br Ff rfl T.isinstance Fv (Ac (pv 0) (Ac (Fg (v:=.ty "tuple") rfl T.tuple N7 rfl) Aa))))) (pw_or (BR FZ (Br Do rfl T.len Dc (Ac (pv 0) Aa)) Ab) (pw_or1 (Cd (Bs (Br (Np rfl) rfl T.all Qw (DY (G4 ["part"] [none] rfl (Kf (pv 0)) (λ _ _ _ _ _=>(Bp (i:=0) (show Uu [("part":Str)] by decide))) (λ _ _ _ _ _=>FQ) (λ _ _ _ _ _=>(Ag (Ou T) e.m Af (Ac (pv 0) Aa))) (Fo ⋯ ⋯) ⋯ rfl ⋯ rfl (Fw rfl)) Aa)))))))) (Aj (Ar Dn)) BL) (Aj (Ar (Dr (Gh e.units) (Ag (Ge T) e.m Af (BX (Ag (Gz T) e.m Af (Am (Ae Al (pv 0) Ab) (Am (Ae Al (pv 0) Ab) Aa))) (BX (Ag (Gz T) e.m Af (Am (Ae Al (pv 0) Ab) (Am (Ae Al (pv 0) Ab) Aa))) Aa))) (Bb (v:=.ref ad.ONE) rfl T.ex.m_ONE rfl))))),?_⟩
 refine ⟨_,rfl,_,_,_,_,rfl,B,Od _,_,rfl,iteF ?_⟩;refine ⟨_,rfl,a,_,rfl,.inr ha,rfl,_,rfl,iteF ?_⟩;refine ⟨_,rfl,a,rfl,⟨_,ha⟩,?_⟩;refine Mm (K:=K) (a:=a) (xs:=[o,q,r,y]) (λ i g j l=>∃c0,g=[c0]/\j=Xz i (.bl true)/\l=H) ⟨_,rfl,rfl,rfl⟩ ?_ ?_ ?_
 ·rintro i g j l hi ⟨c0,rfl,rfl,rfl⟩
  refine ⟨?_,ha⟩;rw [wt];exact XG (small1000 (by simp only [X2,YH] at hi;omega))
 ·rintro i x g j l hi ⟨c0,rfl,rfl,rfl⟩
  obtain ⟨d,hd,I⟩:=z.get hi;obtain ⟨O,rfl⟩:=dX (es:=[t.a,t.b,t.c,t.d]) hd;exact ⟨_,rfl,_,O,rfl,I,nx (CQ hi) ⟨_,rfl,NU.symm,rfl⟩⟩
 ·rintro g j l p ⟨c0,rfl,rfl,rfl⟩ R
  have u:=Ao R (.lst (Xz [o,q,r,y].length (.bl true)));refine ⟨p,[true,true,true,true],rfl,SqL.of Aq,_,rfl,iteF ?_⟩;refine ⟨_,rfl,a,_,_,_,rfl,rfl,ha.keep u,rfl,_,rfl,a,_,_,_,rfl,rfl,ha.keep u,rfl,?_⟩;refine ⟨_,_,.cons (C.keep u) (.cons (G.keep u) .nil),⟨_,_,rfl,tb.a.sm ∅,tb.d.sm ∅,rfl⟩,λ Y Z S J=>?_⟩
  have us:=u.trans S;refine ⟨_,rfl,a,_,_,_,rfl,rfl,ha.keep us,rfl,_,rfl,a,_,_,_,rfl,rfl,ha.keep us,rfl,?_⟩;refine ⟨_,_,.cons (D.keep us) (.cons (F.keep us) .nil),⟨_,_,rfl,tb.b.sm ∅,tb.c.sm ∅,rfl⟩,λ a0 a1 L M=>?_⟩
  refine ⟨_,_,.cons (J.keep L) (.cons M .nil),⟨_,_,rfl,(tb.a.mul tb.d).sm ∅,(tb.b.mul tb.c).sm ∅,rfl⟩,λ a2 U V N=>?_⟩
  exact M6 N (dO T U) (k _ _ (us.trans (L.trans V)) (.bl _))
theorem Pu (T:Txt K mg ad):CalB P w K mg base true 5 "look_at_table" ["table"] (PR K xq):=by
 refine T.Yb.calN Ac2 (λ _ _ _ _ _ _=>by1 λ _=>rfl) (λ vs H Q E h=>?_) (λ f i A outer s H vs Q E b h=>?_)
 ·obtain ⟨_,_,dv,⟨_,_,rfl,_⟩,_⟩:=h;exact dv.len
 obtain ⟨_,_,dv,⟨t,n,rfl,tb,d,a,rfl⟩,k⟩:=h;obtain ⟨_,rfl,e⟩:=dv.one;refine ⟨_,(Aj (BJ (Cd (Bs (Ag (wG T) b.m Af (Ac (pv 0) Aa)))) (Aj Dh) BL)),?_⟩
 refine ⟨_,rfl,_,_,.cons e .nil,⟨t,n,rfl,tb,d,rfl⟩,λ v j g hv=>?_⟩
 rw [ζ a] at hv;obtain rfl:=hv.bl_of;exact ⟨_,rfl,iteF (k _ _ g .non)⟩
theorem g8 (T:Txt K mg ad):CalB P w K mg base true 1 "table_of_rays" ["high","slanted"] (PR K AV9):=by
 refine T.RC.calN qF (λ _ _ _ _ _ _=>Bg λ _ _=>rfl) (λ vs H Q E h=>?_) (λ f n A outer s H vs Q E o h=>?_)
 ·obtain ⟨_,_,dv,⟨_,_,rfl,_⟩,_⟩:=h;exact dv.len
 obtain ⟨_,_,dv,⟨r,t,rfl,rfl⟩,k⟩:=h;obtain ⟨_,_,rfl,l,m⟩:=dv.two;obtain ⟨a,q,u,rfl,ha,d,e⟩:=DV.t2 l;obtain ⟨b,v,x,rfl,hb,g,i⟩:=DV.t2 m;refine ⟨_,(Aj (Ar (Bh (Am (Ae Al (pv 0) Ab) (Am (Ae Al (pv 1) Ab) (Am (Ae Al (pv 0) Ab) (Am (Ae Al (pv 1) Ab) Aa))))))),?_⟩;refine ⟨_,rfl,a,_,_,_,rfl,rfl,ha,rfl,_,rfl,b,_,_,_,rfl,rfl,hb,rfl,_,rfl,a,_,_,_,rfl,rfl,ha,rfl,_,rfl,b,_,_,_,rfl,rfl,hb,rfl,(by show 4<=Y3;decide),λ p j=>?_⟩
 exact k _ _ (Ao j _) (DV.upd4 j d g e i)
theorem Gf (T:Txt K mg ad):CalB P w K mg base true 5 "table_of" ["bench"] (PR K zU):=by
 refine T.Ys.calN JL (λ _ _ _ _ _ _=>by1 λ _=>rfl) (λ vs H Q E h=>?_) (λ f c1 A outer s H vs Q E n h=>?_)
 ·obtain ⟨_,_,dv,⟨_,_,rfl,_⟩,_⟩:=h;exact dv.len
 obtain ⟨_,_,dv,⟨ps,m,rfl,Y,c2,rfl⟩,k⟩:=h;obtain ⟨_,rfl,hb⟩:=dv.one;obtain ⟨a,xs,rfl,ha,I⟩:=DV.lst_of hb;have hl:xs.length=ps.length:=by have:=I.len;rw [Y2] at this;exact this
 have c4:=Y.len;have a9:RB 2 e1:=⟨1,0,1,by decide,by decide,by decide,by decide,by decide+kernel,by decide+kernel⟩
 have b0:RB 2 e2:=⟨0,1,1,by decide,by decide,by decide,by decide,by decide+kernel,by decide+kernel⟩
 refine ⟨_,(Ah (Cq (Ag (Lk T) n.m Af (Ac (pv 0) Aa))) (Ah (Aw (i:=1) JL.nd (Bh (Ac (Bb (v:=.ref ad.ONE) rfl T.ex.m_ONE rfl) (Ac (Bb (v:=.ref ad.NOUGHT) rfl T.ex.m_NOUGHT rfl) Aa)))) (Ah (Aw (i:=2) JL.nd (Bh (Ac (Bb (v:=.ref ad.NOUGHT) rfl T.ex.m_NOUGHT rfl) (Ac (Bb (v:=.ref ad.ONE) rfl T.ex.m_ONE rfl) Aa)))) (Ah (Dj YR rfl (Dt (pv 0)) (Bp (i:=3) JL.nd) (Ah (Aw (i:=4) JL.nd (Ag (XF T) n.m Af (Ac (pv 3) Aa))) (Ah (Aw (i:=1) JL.nd (CZ (k:=4) (pv 4) n.m (Ac (pv 1) Aa))) (Aj (Aw (i:=2) JL.nd (CZ (k:=4) (pv 4) n.m (Ac (pv 2) Aa))))))) (Aj (Ar (Ag (g8 T) n.m Af (Ac (pv 1) (Ac (pv 2) Aa))))))))),?_⟩
 refine ⟨_,rfl,_,ps,m,rfl,hb,Y,by omega,λ z b3=>?_⟩
 refine ⟨(by show 2<=Y3;decide),λ N J=>?_⟩
 have b4:=Ao J (.tup [.ref ad.ONE,.ref ad.NOUGHT]);have b5:DV K (upd z N (.tup [.ref ad.ONE,.ref ad.NOUGHT])) (.ref N) (BZ e1):=DV.upd2 J (dO T z) (dN T z);refine ⟨(by show 2<=Y3;decide),λ Z L=>?_⟩
 have a0:=Ao L (.tup [.ref ad.NOUGHT,.ref ad.ONE]);have b6:DV K (upd (upd z N (.tup [.ref ad.ONE,.ref ad.NOUGHT])) Z (.tup [.ref ad.NOUGHT,.ref ad.ONE])) (.ref Z) (BZ e2):=DV.upd2 L (dN T _) (dO T _);have a1:=b3.trans (b4.trans a0);refine ⟨_,rfl,a,rfl,⟨_,ha.keep a1⟩,?_⟩;refine GX (K:=K) (a:=a) (xs:=xs) (λ i B j=>∃D F p q,B=[some (.ref a),some p,some q,D,F]/\Same H j/\DV K j p (BZ (BW (ps.take i) e1))/\DV K j q (BZ (BW (ps.take i) e2))/\RB (2+i * (m+1)) (BW (ps.take i) e1)/\RB (2+i * (m+1)) (BW (ps.take i) e2)) ⟨_,_,_,_,rfl,a1,b5.keep a0,b6,by simpa [BW] using a9,by simpa [BW] using b0⟩ ?_ ?_ ?_
 ·rintro i B j hi ⟨D,F,p,q,rfl,l,_⟩
  exact ha.keep l
 ·rintro i x B j hi ⟨D,F,p,q,rfl,l,e,g,b1,b2⟩
  obtain ⟨d,hd,b7⟩:=I.get hi;obtain ⟨a2,t,rfl⟩:=Hg hd;have b:=ZI t;have c3:=CQ t;have a3:2+i * (m+1)+m<=3900:=by
   have:i * (m+1)<=ps.length * (m+1):=ZH _ ∅
   omega
  have G:∀r,BW (ps.take (i+1)) r=a2.bent (BW (ps.take i) r):=λ r=>by
   rw [YU,t,Pg];rfl
  refine ⟨_,rfl,_,a2,rfl,b7.keep l,λ o c5 O a4=>?_⟩
  obtain ⟨R,C,S,fs,u,sp,U,V,W,M,y⟩:=HH (P:=P) (w:=w) (base:=base) T a4 (e.keep O) b1 (Y.bd _ b) a3;refine ⟨_,rfl,R,C,S,fs,u,sp,U,V,W,M,_,rfl,y _ (λ b8 c6 X a5=>?_)⟩
  obtain ⟨R,C,S,fs,u,sp,U,V,W,M,y⟩:=HH (P:=P) (w:=w) (base:=base) T (a4.keep X) (g.keep (O.trans X)) b2 (Y.bd _ b) a3;refine ⟨_,rfl,R,C,S,fs,u,sp,U,V,W,M,_,rfl,y _ (λ b9 c7 a6 a7=>?_)⟩
  refine ⟨_,_,b8,b9,rfl,l.trans (O.trans (X.trans a6)),?_,?_,?_,?_⟩
  ·rw [G];exact a5.keep a6
  ·rw [G];exact a7
  ·rw [G];exact Rb.mono (Hf (Y.bd _ b) b1) (by rw [Qv];omega)
  ·rw [G];exact Rb.mono (Hf (Y.bd _ b) b2) (by rw [Qv];omega)
 ·rintro B j ⟨D,F,p,q,rfl,l,e,g,b1,b2⟩
  rw [hl,YX] at e g;exact ⟨_,rfl,_,rfl,_,_,.cons e (.cons g .nil),⟨_,_,rfl,rfl⟩,λ c8 c9 c0 a8=>k _ _ (l.trans c0) a8⟩
theorem mY (T:Txt K mg ad):CalB P w K mg base true 4 "made_by" ["table","ray"] (PR K AG0):=by
 refine T.T4.calN XN (λ _ _ _ _ _ _=>Bg λ _ _=>rfl) (λ vs H Q E h=>?_) (λ f U A outer s H vs Q E j h=>?_)
 ·obtain ⟨_,_,dv,⟨_,_,_,rfl,_⟩,_⟩:=h;exact dv.len
 obtain ⟨_,_,dv,⟨t,r,n,rfl,tb,b1,b2,V,rfl⟩,k⟩:=h;obtain ⟨_,_,rfl,J,L⟩:=dv.two;obtain ⟨a,W,X,Y,Z,rfl,ha,M,N,O,R⟩:=DV.t4 J;obtain ⟨b,a0,a1,rfl,hb,o,q⟩:=DV.t2 L;refine ⟨_,(Ah (Aw (i:=2) XN.nd (Ag (Ih T) j.m Af (BX (Ag (Gz T) j.m Af (Am (Ae Al (pv 0) Ab) (Am (Ae Al (pv 1) Ab) Aa))) (BX (Ag (Gz T) j.m Af (Am (Ae Al (pv 0) Ab) (Am (Ae Al (pv 1) Ab) Aa))) Aa)))) (Ah (Aw (i:=3) XN.nd (Ag (Ih T) j.m Af (BX (Ag (Gz T) j.m Af (Am (Ae Al (pv 0) Ab) (Am (Ae Al (pv 1) Ab) Aa))) (BX (Ag (Gz T) j.m Af (Am (Ae Al (pv 0) Ab) (Am (Ae Al (pv 1) Ab) Aa))) Aa)))) (Aj (Ar (Bh (Ac (pv 2) (Ac (pv 3) Aa))))))),?_⟩
 refine ⟨_,rfl,a,_,_,_,rfl,rfl,ha,rfl,_,rfl,b,_,_,_,rfl,rfl,hb,rfl,?_⟩;refine ⟨_,_,.cons M (.cons o .nil),⟨_,_,rfl,tb.a.sm ∅,b1.sm ∅,rfl⟩,λ a2 a3 l v=>?_⟩
 refine ⟨_,rfl,a,_,_,_,rfl,rfl,ha.keep l,rfl,_,rfl,b,_,_,_,rfl,rfl,hb.keep l,rfl,?_⟩;refine ⟨_,_,.cons (N.keep l) (.cons (q.keep l) .nil),⟨_,_,rfl,tb.b.sm ∅,b2.sm ∅,rfl⟩,λ a4 a5 x y=>?_⟩
 refine ⟨_,_,.cons (v.keep x) (.cons y .nil),⟨_,_,rfl,(tb.a.mul b1).sm ∅,(tb.b.mul b2).sm ∅,rfl⟩,λ a6 a7 S z=>?_⟩
 have e:=l.trans (x.trans S);refine ⟨_,rfl,a,_,_,_,rfl,rfl,ha.keep e,rfl,_,rfl,b,_,_,_,rfl,rfl,hb.keep e,rfl,?_⟩;refine ⟨_,_,.cons (O.keep e) (.cons (o.keep e) .nil),⟨_,_,rfl,tb.c.sm ∅,b1.sm ∅,rfl⟩,λ a8 a9 B C=>?_⟩
 have g:=e.trans B;refine ⟨_,rfl,a,_,_,_,rfl,rfl,ha.keep g,rfl,_,rfl,b,_,_,_,rfl,rfl,hb.keep g,rfl,?_⟩;refine ⟨_,_,.cons (R.keep g) (.cons (q.keep g) .nil),⟨_,_,rfl,tb.d.sm ∅,b2.sm ∅,rfl⟩,λ b0 b3 u D=>?_⟩
 refine ⟨_,_,.cons (C.keep u) (.cons D .nil),⟨_,_,rfl,(tb.c.mul b1).sm ∅,(tb.d.mul b2).sm ∅,rfl⟩,λ b4 b5 F G=>?_⟩
 refine ⟨_,rfl,_,rfl,(by show 2<=Y3;decide),λ p I=>?_⟩
 exact k _ _ (g.trans (u.trans (F.trans (Ao I _)))) (DV.upd2 I (z.keep (B.trans (u.trans F))) G)
theorem qC (T:Txt K mg ad):CalB P w K mg base true 5 "joined" ["first","second"] (PR K Ab7):=by
 refine T.YZ.calN AV0 (λ _ _ _ _ _ _=>Bg λ _ _=>rfl) (λ vs H Q E h=>?_) (λ f V A outer s H vs Q E i h=>?_)
 ·obtain ⟨_,_,dv,⟨_,_,_,rfl,_⟩,_⟩:=h;exact dv.len
 obtain ⟨_,_,dv,⟨t,u,n,rfl,tt,j,l,rfl⟩,k⟩:=h;obtain ⟨_,y,rfl,F,o⟩:=dv.two;obtain ⟨a,G,I,J,L,rfl,ha,M,N,O,R⟩:=DV.t4 F;refine ⟨_,(Aj (Ar (Ag (g8 T) i.m Af (BX (Ag (mY T) i.m Af (Ac (pv 1) (DG (Bh (Am (Ae Al (pv 0) Ab) (Am (Ae Al (pv 0) Ab) Aa))) Aa))) (BX (Ag (mY T) i.m Af (Ac (pv 1) (DG (Bh (Am (Ae Al (pv 0) Ab) (Am (Ae Al (pv 0) Ab) Aa))) Aa))) Aa))))),?_⟩
 refine ⟨_,rfl,_,rfl,a,_,_,_,rfl,rfl,ha,rfl,_,rfl,a,_,_,_,rfl,rfl,ha,rfl,(by show 2<=Y3;decide),λ p q=>?_⟩
 have r:=Ao q (.tup [G,J]);refine ⟨_,_,.cons (o.keep r) (.cons (DV.upd2 q M O) .nil),⟨u,(t.a,t.c),n,rfl,j,tt.a,tt.c,l,rfl⟩,λ W X S v=>?_⟩
 have e:=r.trans S;refine ⟨_,rfl,_,rfl,a,_,_,_,rfl,rfl,ha.keep e,rfl,_,rfl,a,_,_,_,rfl,rfl,ha.keep e,rfl,(by show 2<=Y3;decide),λ Y g=>?_⟩
 have x:=Ao g (.tup [I,L]);have z:=e.trans x;refine ⟨_,_,.cons (o.keep z) (.cons (DV.upd2 g (N.keep e) (R.keep e)) .nil),⟨u,(t.b,t.d),n,rfl,j,tt.b,tt.d,l,rfl⟩,λ Z a0 B C=>?_⟩
 exact ⟨_,_,.cons (v.keep (x.trans B)) (.cons C .nil),⟨_,_,rfl,rfl⟩,λ a1 a2 U D=>k _ _ (z.trans (B.trans U)) D⟩
theorem ZR (T:Txt K mg ad):CalB P w K mg base true 4 "spread_of" ["table","s"] (PR K AW0):=by
 refine T.aG.calN Vx (λ _ _ _ _ _ _=>Bg λ _ _=>rfl) (λ vs H Q E h=>?_) (λ f N A outer s H vs Q E j h=>?_)
 ·obtain ⟨_,_,dv,⟨_,_,_,rfl,_⟩,_⟩:=h;exact dv.len
 obtain ⟨_,_,dv,⟨t,q,n,rfl,tb,l,O,rfl⟩,k⟩:=h;obtain ⟨_,y,rfl,F,r⟩:=dv.two;obtain ⟨a,R,S,U,V,rfl,ha,G,I,J,L⟩:=DV.t4 F;refine ⟨_,(Ah (Aw (i:=2) Vx.nd (Ag (Ih T) j.m Af (BX (Ag (Gz T) j.m Af (Am (Ae Al (pv 0) Ab) (Ac (pv 1) Aa))) (Am (Ae Al (pv 0) Ab) Aa)))) (Ah (Aw (i:=3) Vx.nd (Ag (Ih T) j.m Af (BX (Ag (Gz T) j.m Af (Am (Ae Al (pv 0) Ab) (Ac (pv 1) Aa))) (Am (Ae Al (pv 0) Ab) Aa)))) (Aj (Ar (Bh (Ac (pv 2) (Ac (pv 3) Aa))))))),?_⟩
 refine ⟨_,rfl,a,_,_,_,rfl,rfl,ha,rfl,_,rfl,?_⟩;refine ⟨_,_,.cons G (.cons r .nil),⟨_,_,rfl,tb.a.sm ∅,l.sm ∅,rfl⟩,λ W X o u=>?_⟩
 refine ⟨_,rfl,a,_,_,_,rfl,rfl,ha.keep o,rfl,?_⟩;refine ⟨_,_,.cons u (.cons (I.keep o) .nil),⟨_,_,rfl,(tb.a.mul l).sm ∅,tb.b.sm ∅,rfl⟩,λ Y Z M v=>?_⟩
 have e:=o.trans M;refine ⟨_,rfl,a,_,_,_,rfl,rfl,ha.keep e,rfl,_,rfl,?_⟩;refine ⟨_,_,.cons (J.keep e) (.cons (r.keep e) .nil),⟨_,_,rfl,tb.c.sm ∅,l.sm ∅,rfl⟩,λ a0 a1 x z=>?_⟩
 have g:=e.trans x;refine ⟨_,rfl,a,_,_,_,rfl,rfl,ha.keep g,rfl,?_⟩;refine ⟨_,_,.cons z (.cons (L.keep g) .nil),⟨_,_,rfl,(tb.c.mul l).sm ∅,tb.d.sm ∅,rfl⟩,λ a2 a3 B C=>?_⟩
 refine ⟨_,rfl,_,rfl,(by show 2<=Y3;decide),λ p D=>?_⟩
 exact k _ _ (g.trans (B.trans (Ao D _))) (DV.upd2 D (v.keep (x.trans B)) C)
theorem RZ (T:Txt K mg ad):CalB P w K mg base true 6 "image_of" ["table","s"] (PR K vV):=by
 refine T.Xu.calN dB (λ _ _ _ _ _ _=>Bg λ _ _=>rfl) (λ vs H Q E h=>?_) (λ f J A outer s H vs Q E a h=>?_)
 ·obtain ⟨_,_,dv,⟨_,_,_,rfl,_⟩,_⟩:=h;exact dv.len
 obtain ⟨_,_,dv,⟨t,q,n,rfl,tb,l,p,L,rfl⟩,k⟩:=h;obtain ⟨_,y,rfl,r,B⟩:=dv.two;obtain ⟨d,e⟩:=n6 tb p;refine ⟨_,(Ah (Cq (Ag (Pu T) a.m Af (Ac (pv 0) Aa))) (Ah (Aw (i:=2) dB.nd (Ag (ZR T) a.m Af (Ac (pv 0) (Ac (pv 1) Aa)))) (Ah (BJ (BR (Gh a.units) (Ae Al (pv 2) Ab) (Bb (v:=.ref ad.NOUGHT) rfl T.ex.m_NOUGHT rfl)) (Aj (Ar Ec)) BL) (Aj (Ar (Ag (Ge T) a.m Af (Ac (Bb (v:=.ref ad.NOUGHT) rfl T.ex.m_NOUGHT rfl) (BX (Ag (Jt T) a.m Af (Am (Ae Al (pv 2) Ab) (Am (Ae Al (pv 2) Ab) Aa))) Aa)))))))),?_⟩
 refine ⟨_,rfl,_,_,.cons r .nil,⟨t,n,rfl,tb,by omega,l,rfl⟩,λ M N o _=>?_⟩
 refine ⟨_,rfl,_,rfl,_,_,.cons (r.keep o) (.cons (B.keep o) .nil),⟨t,q,n,rfl,tb,p,by omega,rfl⟩,λ v C D hv=>?_⟩
 obtain ⟨b,O,R,rfl,hb,u,g⟩:=DV.t2 hv;have j:=o.trans D;refine ⟨_,rfl,b,_,_,_,rfl,rfl,hb,rfl,M6 g (dN T C) ⟨_,rfl,?_⟩⟩;unfold img at k;by_cases hz:(spread t q).2=0
 ·rw [if_pos hz] at k;exact Bk (ζ hz) (k _ _ j .non)
 ·rw [if_neg hz] at k;refine BV (η hz) ?_;refine ⟨_,rfl,b,_,_,_,rfl,rfl,hb,rfl,_,rfl,b,_,_,_,rfl,rfl,hb,rfl,?_⟩;refine ⟨_,_,.cons u (.cons g .nil),⟨_,_,rfl,d.sm ∅,e.sm ∅,hz,rfl⟩,λ S F G x=>?_⟩
  exact ⟨_,_,.cons (dN T F) (.cons x .nil),⟨0,_,rfl,Sm.zero,(d.div e hz).sm ∅,rfl⟩,λ U V I z=>k _ _ (j.trans (G.trans I)) z⟩
theorem jz (T:Txt K mg ad):CalB P w K mg base true 6 "growth_of" ["table","s"] (PR K AG9):=by
 refine T.TV.calN nU (λ _ _ _ _ _ _=>Bg λ _ _=>rfl) (λ vs H Q E h=>?_) (λ f C A outer s H vs Q E a h=>?_)
 ·obtain ⟨_,_,dv,⟨_,_,_,rfl,_⟩,_⟩:=h;exact dv.len
 obtain ⟨_,_,dv,⟨t,q,n,rfl,tb,g,l,G,rfl⟩,k⟩:=h;obtain ⟨_,y,rfl,o,x⟩:=dv.two;obtain ⟨D,p⟩:=n6 tb l;refine ⟨_,(Ah (Cq (Ag (Pu T) a.m Af (Ac (pv 0) Aa))) (Ah (Aw (i:=2) nU.nd (Ag (ZR T) a.m Af (Ac (pv 0) (Ac (pv 1) Aa)))) (Ah (BJ (BR (Gh a.units) (Ae Al (pv 2) Ab) (Bb (v:=.ref ad.NOUGHT) rfl T.ex.m_NOUGHT rfl)) (Aj (Ar Ec)) BL) (Aj (Ar (Ag (Jt T) a.m Af (Ac (Bb (v:=.ref ad.ONE) rfl T.ex.m_ONE rfl) (Am (Ae Al (pv 2) Ab) Aa)))))))),?_⟩
 refine ⟨_,rfl,_,_,.cons o .nil,⟨t,n,rfl,tb,by omega,g,rfl⟩,λ I J j _=>?_⟩
 refine ⟨_,rfl,_,rfl,_,_,.cons (o.keep j) (.cons (x.keep j) .nil),⟨t,q,n,rfl,tb,l,by omega,rfl⟩,λ v r z hv=>?_⟩
 obtain ⟨b,L,M,rfl,hb,F,d⟩:=DV.t2 hv;have e:=j.trans z;refine ⟨_,rfl,b,_,_,_,rfl,rfl,hb,rfl,M6 d (dN T r) ⟨_,rfl,?_⟩⟩;unfold Jy at k;by_cases hz:(spread t q).2=0
 ·rw [if_pos hz] at k;exact Bk (ζ hz) (k _ _ e .non)
 ·rw [if_neg hz] at k;refine BV (η hz) ?_;refine ⟨_,rfl,b,_,_,_,rfl,rfl,hb,rfl,?_⟩;exact ⟨_,_,.cons (dO T r) (.cons d .nil),⟨1,_,rfl,Sm.one,p.sm ∅,hz,rfl⟩,λ N O B u=>k _ _ (e.trans B) u⟩
theorem dL (T:Txt K mg ad)(H:Hp):DV K H (.ref ad.LEAVING) (Cj Tab.id):=.tup (T.ex.s_LEAVING H) (.cons (dO T H) (.cons (dN T H) (.cons (dN T H) (.cons (dO T H) .nil))))
theorem oH (T:Txt K mg ad):CalB P w K mg base true 4 "less" ["one"] (PR K AW8):=by
 refine T.Xi.calN xJ (λ _ _ _ _ _ _=>by1 λ _=>rfl) (λ vs H Q E h=>?_) (λ f g A outer s H vs Q E a h=>?_)
 ·obtain ⟨_,_,dv,⟨_,rfl,_⟩,_⟩:=h;exact dv.len
 obtain ⟨_,_,dv,⟨q,rfl,b,rfl⟩,k⟩:=h;obtain ⟨_,rfl,d⟩:=dv.one;refine ⟨_,(Aj (Ar (Ag (Ge T) a.m Af (Ac (Bb (v:=.ref ad.NOUGHT) rfl T.ex.m_NOUGHT rfl) (Ac (pv 0) Aa))))),?_⟩
 exact ⟨_,rfl,_,_,.cons (dN T H) (.cons d .nil),⟨0,q,rfl,Sm.zero,b,rfl⟩,λ v i e hv=>k _ _ e hv⟩
theorem nT (T:Txt K mg ad):CalB P w K mg base true 4 "part_short_of_one" ["one","whole"] (PR K AS8):=by
 refine T.SM.calN AM3 (λ _ _ _ _ _ _=>Bg λ _ _=>rfl) (λ vs H Q E h=>?_) (λ f q A outer s H vs Q E a h=>?_)
 ·obtain ⟨_,_,dv,⟨_,_,_,rfl,_⟩,_⟩:=h;exact dv.len
 obtain ⟨_,_,dv,⟨x,y,n,rfl,b,d,r,j,rfl⟩,k⟩:=h;obtain ⟨_,_,rfl,l,o⟩:=dv.two;refine ⟨_,(Aj (Ar (Ag (Jt T) a.m Af (BX (Ag (Ge T) a.m Af (Ac (Bb (v:=.ref ad.ONE) rfl T.ex.m_ONE rfl) (Ac (pv 0) Aa))) (Ac (pv 1) Aa))))),?_⟩
 refine ⟨_,rfl,_,_,.cons (dO T H) (.cons l .nil),⟨1,x,rfl,Sm.one,b.sm ∅,rfl⟩,λ t u e g=>?_⟩
 exact ⟨_,rfl,_,_,.cons g (.cons (o.keep e) .nil),⟨_,_,rfl,((Ex 1 ⋯).sub b).sm ∅,d.sm ∅,j,rfl⟩,λ z B p i=>k _ _ (e.trans p) i⟩
theorem Ac3 (T:Txt K mg ad):CalB P w K mg base true 5 "glass_gap_glass" ["table"] (zT K):=by
 refine T.Zo.calN Ue (λ _ _ _ _ _ _=>by1 λ _=>rfl) (λ vs H Q E h=>?_) (λ f Z A outer s H vs Q E D h=>?_)
 ·obtain ⟨_,_,_,_,_,_,rfl,_⟩:=h;rfl
 obtain ⟨v,a,b,c,d,n,rfl,hv,tb,F,hb,q⟩:=h;obtain ⟨t,a0,G,a1,a2,rfl,e,O,y,a3,R⟩:=DV.t4 hv;refine ⟨_,(Ah (Aw (i:=1) Ue.nd (Bh (Ac (Bb (v:=.str "glass") rfl T.ex.m_GLASS ⟨_,rfl⟩) (BX (Ag (nT T) D.m Af (Am (Ae Al (pv 0) Ab) (Am (Ae Al (pv 0) Ab) Aa))) Aa)))) (Ah (Aw (i:=2) Ue.nd (Bh (Ac (Bb (v:=.str "glass") rfl T.ex.m_GLASS ⟨_,rfl⟩) (BX (Ag (nT T) D.m Af (Am (Ae Al (pv 0) Ab) (Am (Ae Al (pv 0) Ab) Aa))) Aa)))) (Aj (Ar (CW (Ac (pv 1) (DG (Bh (Ac (Bb (v:=.str "gap") rfl T.ex.m_GAP ⟨_,rfl⟩) (Am (Ae Al (pv 0) Ab) Aa))) (Ac (pv 2) Aa)))))))),?_⟩
 refine ⟨_,rfl,t,_,_,_,rfl,rfl,e,rfl,_,rfl,t,_,_,_,rfl,rfl,e,rfl,_,_,.cons O (.cons y .nil),⟨a,b,n,rfl,tb.a,tb.b,F,hb,rfl⟩,λ z I S J=>⟨(by show 2<=Y3;decide),λ j r=>?_⟩⟩
 have U:=Ao r (.tup [.str "glass",z]);have e1:DV K (upd I j (.tup [.str "glass",z])) (.ref j) (Bm (.glass ((1 - a) / b))):=DV.upd2 r (.str _) J;have t1:=S.trans U;generalize upd I j (.tup [.str "glass",z])=a4 at e1 t1 ⊢;refine ⟨_,rfl,t,_,_,_,rfl,rfl,e.keep t1,rfl,_,rfl,t,_,_,_,rfl,rfl,e.keep t1,rfl,_,_,.cons (R.keep t1) (.cons (y.keep t1) .nil),⟨d,b,n,rfl,tb.d,tb.b,F,hb,rfl⟩,λ B L V M=>⟨(by show 2<=Y3;decide),λ k u=>?_⟩⟩
 have W:=Ao u (.tup [.str "glass",B]);have N:DV K (upd L k (.tup [.str "glass",B])) (.ref k) (Bm (.glass ((1 - d) / b))):=DV.upd2 u (.str _) M;have g:=V.trans W;have t3:=t1.trans g;generalize upd L k (.tup [.str "glass",B])=X at N g t3 ⊢;refine ⟨_,rfl,_,rfl,t,_,_,_,rfl,rfl,e.keep t3,rfl,(by show 2<=Y3;decide),λ C x=>⟨_,rfl,(by show 3<=Y3;decide),λ l hl=>?_⟩⟩
 have o:=Ao x (.tup [.str "gap",G]);have Y:DV K (upd X C (.tup [.str "gap",G])) (.ref C) (Bm (.gap b)):=DV.upd2 x (.str _) (y.keep t3);have p:=Ao hl (.lst [.ref j,.ref C,.ref k]);exact q l _ _ (t3.trans (o.trans p)) ((t3.trans o).free hl) Aq (.cons (e1.keep (g.trans (o.trans p))) (.cons (Y.keep p) (.cons (N.keep (o.trans p)) .nil)))
theorem AT5 (T:Txt K mg ad):CalB P w K mg base true 5 "gap_glass_gap" ["table"] (Ab6 K):=by
 refine T.RD.calN Q8 (λ _ _ _ _ _ _=>by1 λ _=>rfl) (λ vs H Q E h=>?_) (λ f a2 A outer s H vs Q E z h=>?_)
 ·obtain ⟨_,_,_,_,_,_,rfl,_⟩:=h;rfl
 obtain ⟨v,a,b,c,d,n,rfl,hv,tb,a3,hc,q⟩:=h;obtain ⟨t,a4,a5,a6,a7,rfl,B,S,a8,U,V⟩:=DV.t4 hv;have I:¬ 0 - c=0:=by grind
 have bs:Bd (n+2) (0 - c):=((Ed 1 ⋯).sub tb.c).mono ∅
 refine ⟨_,(Ah (Aw (i:=1) Q8.nd (Ag (oH T) z.m Af (Am (Ae Al (pv 0) Ab) Aa))) (Ah (Aw (i:=2) Q8.nd (Bh (Ac (Bb (v:=.str "gap") rfl T.ex.m_GAP ⟨_,rfl⟩) (BX (Ag (nT T) z.m Af (Am (Ae Al (pv 0) Ab) (Ac (pv 1) Aa))) Aa)))) (Ah (Aw (i:=3) Q8.nd (Bh (Ac (Bb (v:=.str "gap") rfl T.ex.m_GAP ⟨_,rfl⟩) (BX (Ag (nT T) z.m Af (Am (Ae Al (pv 0) Ab) (Ac (pv 1) Aa))) Aa)))) (Aj (Ar (CW (Ac (pv 2) (DG (Bh (Ac (Bb (v:=.str "glass") rfl T.ex.m_GLASS ⟨_,rfl⟩) (Ac (pv 1) Aa))) (Ac (pv 3) Aa))))))))),?_⟩
 refine ⟨_,rfl,t,_,_,_,rfl,rfl,B,rfl,_,_,.cons U .nil,⟨c,rfl,tb.c.sm ∅,rfl⟩,λ J a9 C j=>?_⟩
 refine ⟨_,rfl,t,_,_,_,rfl,rfl,B.keep C,rfl,_,rfl,_,_,.cons (V.keep C) (.cons j .nil),⟨d,0 - c,n+2,rfl,tb.d.mono ∅,bs,by omega,I,rfl⟩,λ D L W M=>⟨(by show 2<=Y3;decide),λ k u=>?_⟩⟩
 have X:=Ao u (.tup [.str "gap",D]);have e1:DV K (upd L k (.tup [.str "gap",D])) (.ref k) (Bm (.gap ((1 - d) / (0 - c)))):=DV.upd2 u (.str _) M;have e:=W.trans X;have t1:=C.trans e;generalize upd L k (.tup [.str "gap",D])=b0 at e1 e t1 ⊢;refine ⟨_,rfl,t,_,_,_,rfl,rfl,B.keep t1,rfl,_,rfl,_,_,.cons (S.keep t1) (.cons (j.keep e) .nil),⟨a,0 - c,n+2,rfl,tb.a.mono ∅,bs,by omega,I,rfl⟩,λ F N Y O=>⟨(by show 2<=Y3;decide),λ o x=>?_⟩⟩
 have Z:=Ao x (.tup [.str "gap",F]);have R:DV K (upd N o (.tup [.str "gap",F])) (.ref o) (Bm (.gap ((1 - a) / (0 - c)))):=DV.upd2 x (.str _) O;have g:=Y.trans Z;have t3:=t1.trans g;generalize upd N o (.tup [.str "gap",F])=a0 at R g t3 ⊢;refine ⟨_,rfl,_,rfl,(by show 2<=Y3;decide),λ G y=>⟨_,rfl,(by show 3<=Y3;decide),λ l hl=>?_⟩⟩
 have p:=Ao y (.tup [.str "glass",J]);have a1:DV K (upd a0 G (.tup [.str "glass",J])) (.ref G) (Bm (.glass (0 - c))):=DV.upd2 y (.str _) (j.keep (e.trans g));have r:=Ao hl (.lst [.ref k,.ref G,.ref o]);exact q l _ _ (t3.trans (p.trans r)) ((t3.trans p).free hl) Aq (.cons (e1.keep (g.trans (p.trans r))) (.cons (a1.keep r) (.cons (R.keep (p.trans r)) .nil)))
theorem eN (T:Txt K mg ad):CalB P w K mg base true 6 "taken_apart" ["table"] (AL1 K):=by
 refine T.X5.calN Nj (λ _ _ _ _ _ _=>by1 λ _=>rfl) (λ vs H Q E h=>?_) (λ f b4 A outer s H vs Q E B h=>?_)
 ·obtain ⟨_,_,_,rfl,_⟩:=h;rfl
 obtain ⟨v,t,n,rfl,hv,tb,G,det,q⟩:=h;obtain ⟨e4,d4,a8⟩:∃b5,PSs (Eu true P w K mg base ["table","pieces"] "taken_apart" (defScope Mt) f b4 A outer s H E).nox ((defBody Mt).drop 3) b5/\∀(d5:Ends) (L:Addr) (xs:List V) (ps:List Pc) (r:Hp),Same H r->r L=some (.lst xs)->DVs K r xs (ps.map Bm)->IK ps->ps.length<=4->(∀l o j,Same r o->r l=none->o l=some (.lst j)->DVs K o j ((ps.filter nz).map Bm)->d5.rt (.ref l) o)->b5 d5 [some v,some (.ref L)] r:=by
  refine ⟨_,(Aj (Ar (G4 ["piece"] [none] rfl (Dt (pv 1)) (λ _ _ _ _ _=>(Bp (i:=0) (show Uu [("piece":Str)] by decide))) (λ _ _ _ _ _=>(fc (BR (AZ8 (K:=K) B.units) (Ae (m8 (K:=K)) (pv 0) Ab) (Bb (v:=.ref ad.NOUGHT) rfl T.ex.m_NOUGHT rfl)))) (λ _ _ _ _ _=>(pv 0)) (Fo ⋯ ⋯) ⋯ rfl ⋯ rfl (Fw rfl)))),?_⟩
  intro d5 L xs ps r e5 a1 a2 ns b6 k;have hl:xs.length=ps.length:=by have:=a2.len;rw [Y2] at this;exact this
  refine ⟨_,rfl,L,rfl,⟨_,SqL.of a1⟩,?_⟩;refine U9 (K:=K) (a:=L) (xs:=xs) (λ i Y j o=>∃c0,Y=[c0]/\o=r/\DVs K r j (((ps.take i).filter nz).map Bm)) ⟨_,rfl,rfl,.nil⟩ ?_ ?_ ?_
  ·rintro i Y j o hi ⟨c0,rfl,rfl,g⟩
   refine ⟨?_,SqL.of a1⟩;have Z:=g.len;rw [Y2] at Z;have a9:=QL nz (ps.take i);rw [YG] at a9;exact XG (small1000 ∅)
  ·rintro i x Y j o hi ⟨c0,rfl,rfl,g⟩
   obtain ⟨d,hd,b7⟩:=a2.get hi;obtain ⟨J,a3,rfl⟩:=Hg hd;have b8:=ns J (ZI a3);obtain ⟨wd,b9⟩:∃wd:String,Bm J=.tuple [.str wd,Ak J.part]:=by
    cases J with
    | gap e=>exact ⟨_,rfl⟩
    | glass e=>exact ⟨_,rfl⟩
    | stop lo hi=>cases b8
   have a4:=b7;rw [b9] at a4;obtain ⟨d6,z,e6,rfl,c1,hz,c2⟩:=DV.t2 a4;refine ⟨_,rfl,d6,_,_,_,rfl,rfl,c1,rfl,TX c2 (dN T _) ⟨_,rfl,?_⟩⟩;have c3:(ps.take (i+1)).filter nz=(ps.take i).filter nz++[J].filter nz:=by
    rw [YU,a3,List.filter_append];rfl
   cases G:nz J with
   | true=>
    refine Bk G ⟨_,rfl,nx (CQ hi) ⟨_,rfl,rfl,?_⟩⟩;rw [c3,xS G,ZB];exact g.append (.cons b7 .nil)
   | false=>
    refine BV G (nx (CQ hi) ⟨_,rfl,rfl,?_⟩);rw [c3,FA (by rw [G];exact ZM)]
    show DVs K o j (((ps.take i).filter nz++[]).map Bm);rw [Xg];exact g
  ·rintro Y j o l ⟨c0,rfl,rfl,g⟩ M
   rw [hl,YX] at g;exact k l _ j (Ao M _) M Aq (g.keep (Ao M _))
 refine ⟨_,(Ah (Cq (Ag (Pu T) B.m Af (Ac (pv 0) Aa))) (Ah (BJ (BR (Gh B.units) (pv 0) (Bb (v:=.ref ad.LEAVING) rfl T.ex.m_LEAVING rfl)) (Aj (Ar (CW Aa))) BL) (Ah (BJ (BR (Ke B.units) (Ae Al (pv 0) Ab) (Bb (v:=.ref ad.NOUGHT) rfl T.ex.m_NOUGHT rfl)) (Aj (Aw (i:=1) Nj.nd (Ag (Ac3 T) B.m Af (Ac (pv 0) Aa)))) (Aj (BJ (BR (Ke B.units) (Ae Al (pv 0) Ab) (Bb (v:=.ref ad.NOUGHT) rfl T.ex.m_NOUGHT rfl)) (Aj (Aw (i:=1) Nj.nd (Ag (AT5 T) B.m Af (Ac (pv 0) Aa)))) (Aj (Aw (i:=1) Nj.nd (Ax Gk (CW (DG (Bh (Ac (Bb (v:=.str "gap") rfl T.ex.m_GAP ⟨_,rfl⟩) (Ac (Bb (v:=.ref ad.ONE) rfl T.ex.m_ONE rfl) Aa))) Aa)) (Ag (Ac3 T) B.m Af (DG (Bh (Am (Ae Al (pv 0) Ab) (BX (Ag (oH T) B.m Af (Am (Ae Al (pv 0) Ab) Aa)) (Ac (Bb (v:=.ref ad.NOUGHT) rfl T.ex.m_NOUGHT rfl) (Am (Ae Al (pv 0) Ab) Aa))))) Aa)))))))) d4))),?_⟩
 refine ⟨_,rfl,_,_,.cons hv .nil,⟨t,n,rfl,tb,G,det,rfl⟩,λ e7 b0 u _=>?_⟩
 have I:=hv.keep u;refine ⟨_,rfl,gQ I (dL T _) ⟨_,rfl,?_⟩⟩;by_cases y:t=Tab.id
 ·refine Bk (ζ y) ⟨(by show 0<=Y3;decide),λ l hl=>?_⟩
  refine q l _ [] (u.trans (Ao hl _)) (u.free hl) Aq ?_;unfold Cv;rw [if_pos y];exact .nil
 refine BV (η y) ?_;obtain ⟨N,c4,e8,e9,c5,rfl,O,Z,a9,d7,b6⟩:=DV.t4 I;refine ⟨_,rfl,N,_,_,_,rfl,rfl,O,rfl,TX a9 (dN T _) ⟨_,rfl,?_⟩⟩;by_cases hb:t.b=0
 ·refine BV (by rw [ζ hb];rfl) ?_
  refine ⟨_,rfl,N,_,_,_,rfl,rfl,O,rfl,TX d7 (dN T _) ⟨_,rfl,?_⟩⟩;by_cases hc:t.c=0
  ·refine BV (by rw [ζ hc];rfl) ?_
   have ha:=di det hb;have d8:Bd (n+2) (0 - t.a):=((Ed 1 ⋯).sub tb.a).mono ∅
   refine ⟨(by show 2<=Y3;decide),λ D a5=>⟨(by show 1<=Y3;decide),λ a0 c6=>?_⟩⟩
   have c7:=Ao a5 (.tup [.str "gap",.ref ad.ONE]);have b1:=Ao c6 (.lst [.ref D]);have e1:DV K _ (.ref D) (Bm (.gap 1)):=(DV.upd2 a5 (.str _) (dO T b0)).keep b1;have R:upd (upd b0 D (.tup [.str "gap",.ref ad.ONE])) a0 (.lst [.ref D]) a0=some (.lst [.ref D]):=Aq;have t1:=c7.trans b1;clear c7 b1;generalize upd (upd b0 D (.tup [.str "gap",.ref ad.ONE])) a0 (.lst [.ref D])=r at e1 R t1 ⊢;refine ⟨_,rfl,N,_,_,_,rfl,rfl,O.keep t1,rfl,_,rfl,N,_,_,_,rfl,rfl,O.keep t1,rfl,_,_,.cons (Z.keep t1) .nil,⟨t.a,rfl,tb.a.sm ∅,rfl⟩,λ c8 d9 c9 d0=>?_⟩
   have t3:=t1.trans c9;refine ⟨_,rfl,N,_,_,_,rfl,rfl,O.keep t3,rfl,(by show 4<=Y3;decide),λ d1 a6=>?_⟩
   have e0:=Ao a6 (.tup [c4,c8,.ref ad.NOUGHT,c5]);have e2:DV K (upd d9 d1 (.tup [c4,c8,.ref ad.NOUGHT,c5])) (.ref d1) (Cj ⟨t.a,0 - t.a,0,t.d⟩):=DV.upd4 a6 (Z.keep t3) d0 (dN T _) (b6.keep t3);refine ⟨_,t.a,0 - t.a,0,t.d,n+2,rfl,e2,⟨tb.a.mono ∅,d8,Ed (n+2) ∅,tb.d.mono ∅⟩,by omega,ha,λ S d2 j C a7 F g=>?_⟩
   have U:=c9.trans (e0.trans C);have W:=g.len;rw [Y2] at W;have W:j.length=3:=W;refine ⟨a0,S,_,_,rfl,rfl,U _ _ R,F,XG (small1000 (by simp only [X2,YH];omega)),λ e3 d3=>?_⟩
   have b2:=Ao d3 (.lst ([.ref D]++j));have b3:=u.trans (t1.trans (U.trans b2));refine a8 _ e3 _ (.gap 1::Df t.a (0 - t.a) t.d) _ b3 Aq (.cons (e1.keep (U.trans b2)) (g.keep b2)) (xu _ _ _) (by show 4<=4;decide) λ l o zs s' X hl p=>?_
   rw [AH3 y hb hc] at p;exact q l _ zs (b3.trans s') (b3.free X) hl p
  ·refine Bk (by rw [η hc];rfl) ?_
   refine ⟨_,rfl,_,t.a,t.b,t.c,t.d,n,rfl,I,tb,G,hc,λ S d2 j C a7 F g=>?_⟩
   refine a8 _ S j (Fj t.a t.c t.d) _ (u.trans C) F g (yJ _ _ _) (by show 3<=4;decide) λ l o zs s' X hl p=>?_
   rw [AZ6 y hb hc] at p;exact q l _ zs ((u.trans C).trans s') ((u.trans C).free X) hl p
 ·refine Bk (by rw [η hb];rfl) ?_
  refine ⟨_,rfl,_,t.a,t.b,t.c,t.d,n,rfl,I,tb,by omega,hb,λ S d2 j C a7 F g=>?_⟩
  refine a8 _ S j (Df t.a t.b t.d) _ (u.trans C) F g (ie _ _ _) (by show 3<=4;decide) λ l o zs s' X hl p=>?_
  rw [AK4 y hb] at p;exact q l _ zs ((u.trans C).trans s') ((u.trans C).free X) hl p
end
end K69
section
open PySem L2 Lib Fr Op K69
local macro_rules | `(tactic| walk_at "Zs")=>`(tactic| first | with_reducible assumption | with_reducible exact Same.refl _ | exact Dk (by with_reducible assumption) (by walk_at "Zs") | exact Gq (by with_reducible assumption) (by walk_at "Zs"))
local macro_rules | `(tactic| walk_at "Zd")=>`(tactic| first | with_reducible assumption | with_reducible exact DV.int _ | with_reducible exact DV.str _ | with_reducible exact DV.bl _ | with_reducible exact DV.non | exact HB (by first | with_reducible assumption | assumption) (by walk_at "Zs") | with_reducible exact dN (by assumption) _ | with_reducible exact dO (by assumption) _ | exact zd2 (by with_reducible assumption) (by walk_at "Zs") (by walk_at "Zd") (by walk_at "Zd") | exact zd3 (by with_reducible assumption) (by walk_at "Zs") (by walk_at "Zd") (by walk_at "Zd") (by walk_at "Zd") | exact zd4 (by with_reducible assumption) (by walk_at "Zs") (by walk_at "Zd") (by walk_at "Zd") (by walk_at "Zd") (by walk_at "Zd"))
local macro_rules | `(tactic| walk_at "Zt")=>`(tactic| first | assumption | exact Gw (by assumption) (by walk_at "Zs") | exact zt2 (by walk_at "Zs"))
local macro_rules | `(tactic| walk_at "Zl")=>`(tactic| first | assumption | exact zl1 (by assumption) (by walk_at "Zs") | exact zl2 (by walk_at "Zs"))
local macro_rules | `(tactic| walk_at "Zv")=>`(tactic| first | exact DVs.nil | exact DVs.cons (by walk_at "Zd") (by walk_at "Zv"))
local macro_rules | `(tactic| walk_at "Zb")=>`(tactic| first | with_reducible assumption | exact Ed 1 ⋯ | exact Ex 1 ⋯ | with_reducible exact Bd.mul (by walk_at "Zb") (by walk_at "Zb") | with_reducible exact Bd.add (by walk_at "Zb") (by walk_at "Zb") | with_reducible exact Bd.sub (by walk_at "Zb") (by walk_at "Zb") | with_reducible exact Tb.a (by with_reducible assumption) | with_reducible exact Tb.b (by with_reducible assumption) | with_reducible exact Tb.c (by with_reducible assumption) | with_reducible exact Tb.d (by with_reducible assumption) | with_reducible exact Rb.y (by with_reducible assumption) | with_reducible exact Rb.u (by with_reducible assumption))
local macro_rules | `(tactic| walk_at "Zm")=>`(tactic| first | with_reducible assumption | with_reducible exact Sm.zero | with_reducible exact Sm.one | exact Bd.sm (by walk_at "Zb") (by first | decide | omega))
local macro_rules | `(tactic| walk_at "Zr")=>`(tactic| first | exact ⟨_,_,rfl,by walk_at "Zm",by walk_at "Zm",rfl⟩ | exact ⟨_,_,rfl,by walk_at "Zm",by walk_at "Zm",by assumption,rfl⟩)
local macro_rules | `(tactic| walk_at "Zc")=>`(tactic| (refine ⟨_,_,by walk_at "Zv",by walk_at "Zr",λ v H' s hv=>?_⟩;(first | (obtain rfl:=DV.bl_of hv) | (have:=(show DV _ _ _ (Ak _) from hv);clear this) | (obtain ⟨a,x1,x2,x3,x4,rfl,ha,h1,h2,h3,h4⟩:=DV.t4 hv) | (obtain ⟨a,x1,x2,x3,rfl,ha,h1,h2,h3⟩:=DV.t3 hv) | (obtain ⟨a,x1,x2,rfl,ha,h1,h2⟩:=DV.t2 hv) | skip)))
local macro_rules | `(tactic| walk_at "Zp")=>`(tactic| first | refine ⟨by (show 2<=sizeLine;decide),λ p hp=>?_⟩ | refine ⟨by (show 3<=sizeLine;decide),λ p hp=>?_⟩ | refine ⟨by (show 4<=sizeLine;decide),λ p hp=>?_⟩)
local macro_rules | `(tactic| walk_at "Zn")=>`(tactic| first | refine ⟨_,rfl,?_⟩ | refine ⟨_,_,_,_,rfl,rfl,by walk_at "Zt",by rfl,?_⟩ | refine ⟨_,_,rfl,rfl,?_⟩)
local macro_rules | `(tactic| walk_at "Z1")=>`(tactic| first | walk_at "Zn" | walk_at "Zp" | walk_at "Zc" | refine iteF ?_ | refine iteT ?_)
local macro_rules | `(tactic| walk_at "Z")=>`(tactic| repeat walk_at "Z1")
namespace K69
open PySem L2 Lib Fr Op
seal PE PT PW PA PS PSs PG PGs PI PO CP
section
variable {P:YA}{w:World}{K:FrG}{mg:Str->Option Value}{base:Heap}{ad:Adr}{c:Bool}
theorem lE (T:Txt K mg ad):CalB P w K mg base true 5 "limits_of" ["bench"] (pQ K):=by
 refine T.Vq.calN Gu (λ _ _ _ _ _ _=>by1 λ _=>rfl) (λ vs H Q E h=>?_) (λ f i2 A outer s H vs Q E d2 h=>?_)
 ·obtain ⟨_,_,_,rfl,_⟩:=h;rfl
 obtain ⟨b,ps,m,rfl,hb,d1,f7,q⟩:=h;obtain ⟨a,xs,rfl,ha,d6⟩:=DV.lst_of hb;have hl:xs.length=ps.length:=by have:=d6.len;rw [Y2] at this;exact this
 have i5:=d1.len;refine ⟨_,(Ah (Cq (Ag (Lk T) d2.m Af (Ac (pv 0) Aa))) (Ah (Aw (i:=1) Gu.nd (CW Aa)) (Ah (Aw (i:=2) Gu.nd (Bh (Ac (Bb (v:=.ref ad.ONE) rfl T.ex.m_ONE rfl) (Ac (Bb (v:=.ref ad.NOUGHT) rfl T.ex.m_NOUGHT rfl) Aa)))) (Ah (Aw (i:=3) Gu.nd (Bh (Ac (Bb (v:=.ref ad.NOUGHT) rfl T.ex.m_NOUGHT rfl) (Ac (Bb (v:=.ref ad.ONE) rfl T.ex.m_ONE rfl) Aa)))) (Ah (Dj YR rfl (Lb rfl T.enumerate (Ac (pv 0) Aa)) (JV (n:=2) rfl (Eb (Bp (i:=4) Gu.nd) (Eb (Bp (i:=5) Gu.nd) HD))) (Ah (BJ (BR Bq (Ae Al (pv 5) Ab) (Bb (v:=.str "stop") rfl T.ex.m_STOP ⟨_,rfl⟩)) (Aj (Cq (Ca YY Xq Xs Fq (pv 1) (DG (Bh (Ac (pv 4) (Am (Ae Al (pv 2) Ab) (Am (Ae Al (pv 3) Ab) (Am (Ae Al (pv 5) Ab) (Am (Ae Al (pv 5) Ab) Aa)))))) Aa)))) BL) (Ah (Aw (i:=6) Gu.nd (Ag (XF T) d2.m Af (Ac (pv 5) Aa))) (Ah (Aw (i:=2) Gu.nd (CZ (k:=4) (pv 6) d2.m (Ac (pv 2) Aa))) (Aj (Aw (i:=3) Gu.nd (CZ (k:=4) (pv 6) d2.m (Ac (pv 3) Aa)))))))) (Aj (Ar (pv 1)))))))),?_⟩
 refine ⟨_,rfl,_,ps,m,rfl,hb,d1,by omega,λ f8 f9=>?_⟩
 refine ⟨(by show 0<=Y3;decide),λ l d7=>?_⟩
 have g0:H l=none:=f9.free d7;have u0:=Ao d7 (.lst []);have d8:upd f8 l (.lst []) l=some (.lst []):=Aq;generalize upd f8 l (.lst [])=d9 at u0 d8 ⊢;refine ⟨(by show 2<=Y3;decide),λ e9 e0=>?_⟩
 have g1:=Ao e0 (.tup [.ref ad.ONE,.ref ad.NOUGHT]);have h5:DV K (upd d9 e9 (.tup [.ref ad.ONE,.ref ad.NOUGHT])) (.ref e9) (BZ e1):=DV.upd2 e0 (dO T _) (dN T _);refine ⟨(by show 2<=Y3;decide),λ g2 e3=>?_⟩
 have f0:=Ao e3 (.tup [.ref ad.NOUGHT,.ref ad.ONE]);have h6:DV K (upd (upd d9 e9 (.tup [.ref ad.ONE,.ref ad.NOUGHT])) g2 (.tup [.ref ad.NOUGHT,.ref ad.ONE])) (.ref g2) (BZ e2):=DV.upd2 e3 (dN T _) (dO T _);have g3:=f9.trans (u0.trans (g1.trans f0));refine ⟨_,rfl,a,rfl,⟨_,ha.keep g3⟩,?_⟩;refine M7 (K:=K) (a:=a) (xs:=xs) (λ i d3 a0=>∃b8 b9 c0 a1 a2 vs,d3=[some (.ref a),some (.ref l),some a1,some a2,b8,b9,c0]/\Same H a0/\a0 l=some (.lst vs)/\DVs K a0 vs ((Bv (ps.take i)).map FN)/\DV K a0 a1 (BZ (BW (ps.take i) e1))/\DV K a0 a2 (BZ (BW (ps.take i) e2))/\RB (2+i * (m+1)) (BW (ps.take i) e1)/\RB (2+i * (m+1)) (BW (ps.take i) e2)) ⟨_,_,_,_,_,[],rfl,g3,(g1.trans f0) _ _ d8,.nil,h5.keep f0,h6,by simpa [BW] using X3,by simpa [BW] using Xj⟩ ?_ ?_ ?_
 ·rintro i d3 a0 hi ⟨b8,b9,c0,a1,a2,vs,rfl,a6,_⟩
  exact ha.keep a6
 ·rintro i x d3 a0 p hi ⟨b8,b9,c0,a1,a2,vs,rfl,a6,a7,B,a8,a9,b1,b2⟩ h7
  obtain ⟨d,hd,h8⟩:=d6.get hi;obtain ⟨c2,b4,rfl⟩:=Hg hd;have j:=ZI b4;have g4:=CQ b4;have c1:=gR f7 g4;have up:=Ao h7 (.tup [.int i,x]);have u:=h8.keep (a6.trans up);refine ⟨p,_,rfl,SqT.of Aq,rfl,_,_,rfl,_,_,rfl,rfl,?_⟩;have d4:=tZ b4;have f1:=wu b4;have i6:vs.length<=60:=by
   have g5:=B.len;rw [Y2] at g5;have h9:=ak (ps.take i) 0 e1 e2;rw [YG] at h9;unfold Bv at g5;omega
  have c3:∀(b5:List V) (g:Hp),Same H g->g l=some (.lst b5)->DVs K g b5 ((Bv (ps.take (i+1))).map FN)->DV K g a1 (BZ (BW (ps.take i) e1))->DV K g a2 (BZ (BW (ps.take i) e2))->DV K g x (Bm c2)->∀(o:Addr) a3,Same g a3->ObAt K ad.Gap ad.Glass ad.Stop a3 (.ref o) c2->∀W X,Same a3 X->DV K X W (BZ (c2.bent (BW (ps.take i) e1)))->∀Y Z,Same X Z->DV K Z Y (BZ (c2.bent (BW (ps.take i) e2)))->
    ∃b8 b9 c0 a1 a2 vs,([some (.ref a),some (.ref l),some W,some Y,some (.int (i:Int)),some x,some (.ref o)]:St)=[some (.ref a),some (.ref l),some a1,some a2,b8,b9,c0]/\Same H Z/\Z l=some (.lst vs)/\DVs K Z vs ((Bv (ps.take (i+1))).map FN)/\DV K Z a1 (BZ (BW (ps.take (i+1)) e1))/\DV K Z a2 (BZ (BW (ps.take (i+1)) e2))/\RB (2+(i+1) * (m+1)) (BW (ps.take (i+1)) e1)/\RB (2+(i+1) * (m+1)) (BW (ps.take (i+1)) e2):=by
   intro b5 g a4 b6 f2 _ _ _ o a3 D _ W X G I Y Z b0 J;refine ⟨_,_,_,W,Y,b5,rfl,a4.trans (D.trans (G.trans b0)),(D.trans (G.trans b0)) _ _ b6,f2.keep (D.trans (G.trans b0)),?_,?_,?_,?_⟩
   ·rw [d4];exact I.keep b0
   ·rw [d4];exact J
   ·rw [d4];exact Rb.mono (Hf (d1.bd _ j) b1) (by rw [Qv];omega)
   ·rw [d4];exact Rb.mono (Hf (d1.bd _ j) b2) (by rw [Qv];omega)
  cases c2 with
  | gap e=>
   obtain ⟨a5,z,c4,rfl,y,hz,b7⟩:=DV.t2 u;obtain rfl:=hz.str_of;refine ⟨_,rfl,a5,_,_,_,rfl,rfl,y,rfl,rfl,_,rfl,BV ⋯ ?_⟩
   refine ⟨_,rfl,_,.gap e,rfl,u,λ o g a4 L=>?_⟩
   obtain ⟨N,C,O,fs,r,sp,R,S,U,M,t⟩:=HH (P:=P) (w:=w) (base:=base) T L (a8.keep (up.trans a4)) b1 (d1.bd _ j) c1;refine ⟨_,rfl,N,C,O,fs,r,sp,R,S,U,M,_,rfl,t _ (λ W a3 D I=>?_)⟩
   obtain ⟨N,C,O,fs,r,sp,R,S,U,M,t⟩:=HH (P:=P) (w:=w) (base:=base) T (L.keep D) (a9.keep (up.trans (a4.trans D))) b2 (d1.bd _ j) c1;refine ⟨_,rfl,N,C,O,fs,r,sp,R,S,U,M,_,rfl,t _ (λ Y X G J=>?_)⟩
   exact c3 vs _ (a6.trans up) (up _ _ a7) (by rw [f1];show DVs K _ vs ((Bv (ps.take i)++[]).map FN);rw [Xg];exact B.keep up) (a8.keep up) (a9.keep up) u o g a4 L W a3 D I Y X G J
  | glass e=>
   obtain ⟨a5,z,c4,rfl,y,hz,b7⟩:=DV.t2 u;obtain rfl:=hz.str_of;refine ⟨_,rfl,a5,_,_,_,rfl,rfl,y,rfl,rfl,_,rfl,BV ⋯ ?_⟩
   refine ⟨_,rfl,_,.glass e,rfl,u,λ o g a4 L=>?_⟩
   obtain ⟨N,C,O,fs,r,sp,R,S,U,M,t⟩:=HH (P:=P) (w:=w) (base:=base) T L (a8.keep (up.trans a4)) b1 (d1.bd _ j) c1;refine ⟨_,rfl,N,C,O,fs,r,sp,R,S,U,M,_,rfl,t _ (λ W a3 D I=>?_)⟩
   obtain ⟨N,C,O,fs,r,sp,R,S,U,M,t⟩:=HH (P:=P) (w:=w) (base:=base) T (L.keep D) (a9.keep (up.trans (a4.trans D))) b2 (d1.bd _ j) c1;refine ⟨_,rfl,N,C,O,fs,r,sp,R,S,U,M,_,rfl,t _ (λ Y X G J=>?_)⟩
   exact c3 vs _ (a6.trans up) (up _ _ a7) (by rw [f1];show DVs K _ vs ((Bv (ps.take i)++[]).map FN);rw [Xg];exact B.keep up) (a8.keep up) (a9.keep up) u o g a4 L W a3 D I Y X G J
  | stop lo c5=>
   obtain ⟨a5,z,c4,f3,rfl,y,hz,b7,e4⟩:=DV.t3 u;obtain rfl:=hz.str_of;have c6:=up _ _ a7;have f4:=a8.keep up;have f5:=a9.keep up;have c7:=B.keep up;have e5:=a6.trans up;generalize upd a0 p (.tup [.int i,.ref a5])=g6 at y hz b7 e4 u c6 f4 f5 c7 e5 ⊢;obtain ⟨g7,f6,i7,rfl,g8,g9,i3⟩:=DV.t2 f4;obtain ⟨h0,t1,t2,rfl,h1,h2,i4⟩:=DV.t2 f5;refine ⟨_,rfl,a5,_,_,_,rfl,rfl,y,rfl,rfl,_,rfl,Bk ⋯ ?_⟩
   refine ⟨_,rfl,.inl ⟨rfl,_,SqL.of c6⟩,?_⟩;refine ⟨_,rfl,_,rfl,g7,_,_,_,rfl,rfl,g8,rfl,_,rfl,h0,_,_,_,rfl,rfl,h1,rfl,_,rfl,a5,_,_,_,rfl,rfl,y,rfl,_,rfl,a5,_,_,_,rfl,rfl,y,rfl,(by show 5<=Y3;decide),λ t5 e6=>?_⟩
   have h3:DV K (upd g6 t5 (.tup [.int i,f6,t1,c4,f3])) (.ref t5) (FN ⟨i,(BW (ps.take i) e1).1,(BW (ps.take i) e2).1,lo,c5⟩):=DV.upd5 e6 (.int _) g9 h2 b7 e4;have b3:=Ao e6 (.tup [.int i,f6,t1,c4,f3]);generalize upd g6 t5 (.tup [.int i,f6,t1,c4,f3])=g at h3 b3 ⊢;have b6:=b3 _ _ c6;refine ⟨l,vs,_,rfl,rfl,b6,small1000 ∅,?_⟩
   have d5:=Gp b6 (.lst (vs++[.ref t5]));have h4:Same H (upd g l (.lst (vs++[.ref t5]))):=λ b o e=>by
    rw [BP (Bt e g0)];exact (e5.trans b3) _ _ e
   have e7:DVs K (upd g l (.lst (vs++[.ref t5]))) (vs++[.ref t5]) ((Bv (ps.take (i+1))).map FN):=by
    rw [f1,ZB];exact Cp d5 (by rw [<- ZB];exact De sS _) ((c7.keep b3).append (.cons h3 .nil))
   have c8:DV K (upd g l (.lst (vs++[.ref t5]))) (.ref g7) (BZ (BW (ps.take i) e1)):=Er d5 (GF _) (f4.keep b3);have c9:DV K (upd g l (.lst (vs++[.ref t5]))) (.ref h0) (BZ (BW (ps.take i) e2)):=Er d5 (GF _) (f5.keep b3);have d0:DV K (upd g l (.lst (vs++[.ref t5]))) (.ref a5) (Bm (.stop lo c5)):=Er d5 (JZ _) (u.keep b3);have e8:upd g l (.lst (vs++[.ref t5])) l=some (.lst (vs++[.ref t5])):=Aq;generalize upd g l (.lst (vs++[.ref t5]))=a3 at h4 e7 c8 c9 d0 e8 ⊢;refine ⟨_,rfl,_,.stop lo c5,rfl,d0,λ o X G L=>?_⟩
   obtain ⟨N,C,O,fs,r,sp,R,S,U,M,t⟩:=HH (P:=P) (w:=w) (base:=base) T L (c8.keep G) b1 (d1.bd _ j) c1;refine ⟨_,rfl,N,C,O,fs,r,sp,R,S,U,M,_,rfl,t _ (λ W Z b0 I=>?_)⟩
   obtain ⟨N,C,O,fs,r,sp,R,S,U,M,t⟩:=HH (P:=P) (w:=w) (base:=base) T (L.keep b0) (c9.keep (G.trans b0)) b2 (d1.bd _ j) c1;refine ⟨_,rfl,N,C,O,fs,r,sp,R,S,U,M,_,rfl,t _ (λ Y i0 i1 J=>?_)⟩
   exact c3 _ _ h4 e8 e7 c8 c9 d0 o X G L W Z b0 I Y i0 i1 J
 ·rintro d3 a0 ⟨b8,b9,c0,a1,a2,vs,rfl,a6,a7,B,_⟩
  rw [hl,YX] at B;exact ⟨_,rfl,q l vs _ a6 g0 a7 B⟩
theorem jU (T:Txt K mg ad):CalB P w K mg base true 3 "is_stretch" ["first","last"] (PR K uR):=by
 refine T.U0.calN AG1 (λ _ _ _ _ _ _=>Bg λ _ _=>rfl) (λ vs H Q E h=>?_) (λ f j A outer s H vs Q E a h=>?_)
 ·obtain ⟨_,_,dv,⟨_,_,rfl,_⟩,_⟩:=h;exact dv.len
 obtain ⟨_,_,dv,⟨p,q,rfl,sp,g,ord,rfl⟩,k⟩:=h;obtain ⟨x,y,rfl,d,e⟩:=dv.two;refine ⟨_,(Aj (Ar (HX (Ag (Ou T) a.m Af (Ac (pv 0) Aa)) (HX (Ag (Ou T) a.m Af (Ac (pv 1) Aa)) (Ho (Ms (Ag (Hj T) a.m Af (Ac (pv 1) (Ac (pv 0) Aa))))))))),?_⟩
 refine ⟨_,rfl,_,_,rfl,d,_,rfl,iteT ?_⟩;refine ⟨_,rfl,_,_,rfl,e,_,rfl,iteT ?_⟩;refine ⟨_,rfl,_,rfl,_,_,.cons e (.cons d .nil),⟨_,_,rfl,g,sp,rfl⟩,λ b l i hb=>?_⟩
 obtain rfl:=hb.bl_of;rw [η (show ¬ q < p by grind)]
 exact ⟨_,rfl,k _ _ i (.bl _)⟩
theorem AM6 (T:Txt K mg ad):CalB P w K mg base true 4 "is_box" ["thing"] (PR K Ab9):=by
 refine T.Ui.calN AV1 (λ _ _ _ _ _ _=>by1 λ _=>rfl) (λ vs H Q E h=>?_) (λ f u A outer s H vs Q E j h=>?_)
 ·obtain ⟨_,_,dv,⟨_,_,rfl,_⟩,_⟩:=h;exact dv.len
 obtain ⟨_,_,dv,⟨x,n,rfl,ok,bd,e,rfl⟩,k⟩:=h;obtain ⟨_,rfl,l⟩:=dv.one;obtain ⟨a,y,z,B,C,rfl,ha,o,p,q,r⟩:=DV.t4b l;refine ⟨_,(Ah (BJ (PW.pt (pw_or (Cd (Bs (Br Ff rfl T.isinstance Fv (Ac (pv 0) (Ac (Fg (v:=.ty "tuple") rfl T.tuple N7 rfl) Aa))))) (pw_or1 (BR FZ (Br Do rfl T.len Dc (Ac (pv 0) Aa)) Ab)))) (Aj (Ar Dn)) BL) (Aj (Ar (HX (Ag (jU T) j.m Af (Am (Ae Al (pv 0) Ab) (Am (Ae Al (pv 0) Ab) Aa))) (Ho (Ag (jU T) j.m Af (Am (Ae Al (pv 0) Ab) (Am (Ae Al (pv 0) Ab) Aa)))))))),?_⟩
 refine ⟨_,rfl,_,_,_,_,rfl,l,Od _,_,rfl,iteF ?_⟩;refine ⟨_,rfl,a,_,rfl,.inr ha,rfl,_,rfl,iteF ?_⟩;refine ⟨_,rfl,a,_,_,_,rfl,rfl,ha,rfl,_,rfl,a,_,_,_,rfl,rfl,ha,rfl,_,_,.cons o (.cons p .nil),⟨_,_,rfl,bd.a.sm e,bd.b.sm e,ok.h,rfl⟩,λ b D g hb=>?_⟩
 obtain rfl:=hb.bl_of;refine ⟨_,rfl,iteT ?_⟩;have i:=ha.keep g;refine ⟨_,rfl,a,_,_,_,rfl,rfl,i,rfl,_,rfl,a,_,_,_,rfl,rfl,i,rfl,_,_,.cons (q.keep g) (.cons (r.keep g) .nil),⟨_,_,rfl,bd.c.sm e,bd.d.sm e,ok.s,rfl⟩,λ b F t hb=>?_⟩
 exact k _ _ (g.trans t) hb
theorem q8 (T:Txt K mg ad):CalB P w K mg base true 5 "look_at_box" ["box"] (PR K z6):=by
 refine T.Zu.calN AO5 (λ _ _ _ _ _ _=>by1 λ _=>rfl) (λ vs H Q E h=>?_) (λ f i A outer s H vs Q E a h=>?_)
 ·obtain ⟨_,_,dv,⟨_,_,rfl,_⟩,_⟩:=h;exact dv.len
 obtain ⟨_,_,dv,⟨x,n,rfl,ok,bd,d,rfl⟩,k⟩:=h;obtain ⟨_,rfl,e⟩:=dv.one;refine ⟨_,(Aj (BJ (Cd (Bs (Ag (AM6 T) a.m Af (Ac (pv 0) Aa)))) (Aj Dh) BL)),?_⟩
 refine ⟨_,rfl,_,_,.cons e .nil,⟨_,_,rfl,ok,bd,d,rfl⟩,λ b j g hb=>?_⟩
 obtain rfl:=hb.bl_of;exact ⟨_,rfl,iteF (k _ _ g .non)⟩
theorem um (T:Txt K mg ad):CalB P w K mg base true 2 "corners_of" ["box"] (PR K vL):=by
 refine T.aV.calN RP (λ _ _ _ _ _ _=>by1 λ _=>rfl) (λ vs H Q E h=>?_) (λ f c6 A outer s H vs Q E c4 h=>?_)
 ·obtain ⟨_,_,dv,⟨_,rfl,_⟩,_⟩:=h;exact dv.len
 obtain ⟨_,_,dv,⟨x,rfl,rfl⟩,k⟩:=h;obtain ⟨_,rfl,c5⟩:=dv.one;obtain ⟨a,D,G,I,J,rfl,ha,b3,b4,b5,b6⟩:=DV.t4b c5;refine ⟨_,(Ah (Aw (i:=1) RP.nd (CW Aa)) (Ah (Dj YR rfl (Dt (CW (DG (Bh (Am (Ae Al (pv 0) Ab) (Am (Ae Al (pv 0) Ab) Aa))) (DG (Bh (Am (Ae Al (pv 0) Ab) (Am (Ae Al (pv 0) Ab) Aa))) (DG (Bh (Am (Ae Al (pv 0) Ab) (Am (Ae Al (pv 0) Ab) Aa))) (DG (Bh (Am (Ae Al (pv 0) Ab) (Am (Ae Al (pv 0) Ab) Aa))) Aa)))))) (Bp (i:=2) RP.nd) (Aj (BJ (BR (lU c4.units) (pv 2) (pv 1)) (Aj (Cq (Ca YY Xq Xs Fq (pv 1) (Ac (pv 2) Aa)))) BL))) (Aj (Ar (pv 1))))),?_⟩;refine ⟨(by show 0<=Y3;decide),λ l b7=>?_⟩
 have u0:=Ao b7 (.lst []);have M:upd H l (.lst []) l=some (.lst []):=Aq;generalize upd H l (.lst [])=b8 at u0 M ⊢;have a3:=ha.keep u0;refine ⟨_,rfl,a,_,_,_,rfl,rfl,a3,rfl,_,rfl,a,_,_,_,rfl,rfl,a3,rfl,(by show 2<=Y3;decide),λ j X=>?_⟩
 have a4:DV K (upd b8 j (.tup [D,I])) (.ref j) (BZ (x.a,x.c)):=DV.upd2 X (b3.keep u0) (b5.keep u0);have N:=Ao X (.tup [D,I]);generalize upd b8 j (.tup [D,I])=b9 at a4 N ⊢;have t1:=u0.trans N;have a5:=ha.keep t1;refine ⟨_,rfl,a,_,_,_,rfl,rfl,a5,rfl,_,rfl,a,_,_,_,rfl,rfl,a5,rfl,(by show 2<=Y3;decide),λ m Y=>?_⟩
 have a6:DV K (upd b9 m (.tup [G,I])) (.ref m) (BZ (x.b,x.c)):=DV.upd2 Y (b4.keep t1) (b5.keep t1);have L:=Ao Y (.tup [G,I]);generalize upd b9 m (.tup [G,I])=c0 at a6 L ⊢;have t2:=t1.trans L;have a7:=ha.keep t2;refine ⟨_,rfl,a,_,_,_,rfl,rfl,a7,rfl,_,rfl,a,_,_,_,rfl,rfl,a7,rfl,(by show 2<=Y3;decide),λ n Z=>?_⟩
 have a8:DV K (upd c0 n (.tup [G,J])) (.ref n) (BZ (x.b,x.d)):=DV.upd2 Z (b4.keep t2) (b6.keep t2);have z:=Ao Z (.tup [G,J]);generalize upd c0 n (.tup [G,J])=c1 at a8 z ⊢;have t3:=t2.trans z;have a9:=ha.keep t3;refine ⟨_,rfl,a,_,_,_,rfl,rfl,a9,rfl,_,rfl,a,_,_,_,rfl,rfl,a9,rfl,(by show 2<=Y3;decide),λ p a0=>?_⟩
 have b0:DV K (upd c1 p (.tup [D,J])) (.ref p) (BZ (x.a,x.d)):=DV.upd2 a0 (b3.keep t3) (b6.keep t3);have t:=Ao a0 (.tup [D,J]);generalize upd c1 p (.tup [D,J])=b1 at b0 t ⊢;refine ⟨(by show 4<=Y3;decide),λ u O=>?_⟩
 have B:=Ao O (.lst [.ref j,.ref m,.ref n,.ref p]);have C:upd b1 u (.lst [.ref j,.ref m,.ref n,.ref p]) u=some (.lst [.ref j,.ref m,.ref n,.ref p]):=Aq;have g:DVs K (upd b1 u (.lst [.ref j,.ref m,.ref n,.ref p])) [.ref j,.ref m,.ref n,.ref p] (x.four.map BZ):=.cons (a4.keep (L.trans (z.trans (t.trans B)))) (.cons (a6.keep (z.trans (t.trans B))) (.cons (a8.keep (t.trans B)) (.cons (b0.keep B) .nil)));have a1:=(N.trans (L.trans (z.trans (t.trans B)))) _ _ M;have t5:=t3.trans (t.trans B);have np:u≠l:=λ e=>by rw [e,(N.trans (L.trans (z.trans t))) _ _ M] at O;cases O
 generalize upd b1 u (.lst [.ref j,.ref m,.ref n,.ref p])=c9 at C g a1 t5 ⊢;clear u0 N L z t B t1 t2 t3 a3 a5 a7 a9 a4 a6 a8 b0;refine ⟨u,rfl,⟨_,SqL.of C⟩,?_⟩;refine GX (K:=K) (a:=u) (xs:=[.ref j,.ref m,.ref n,.ref p]) (λ i U v=>∃V vs,U=[some (.ref a),some (.ref l),V]/\Same H v/\v u=some (.lst [.ref j,.ref m,.ref n,.ref p])/\DVs K v [.ref j,.ref m,.ref n,.ref p] (x.four.map BZ)/\v l=some (.lst vs)/\DVs K v vs ((Fd x.four i).map BZ)) ⟨_,[],rfl,t5,C,g,a1,.nil⟩ ?_ ?_ ?_
 ·rintro i U v hi ⟨V,vs,rfl,R,S,_⟩
  exact SqL.of S
 ·rintro i y U v hi ⟨V,vs,rfl,R,S,g,q,r⟩
  obtain ⟨d,hd,c2⟩:=g.get hi;obtain ⟨b2,a2,rfl⟩:=Rt hd;have c7:=cz x.four i;have c8:i < 4:=CQ hi;have d0:vs.length=(Fd x.four i).length:=by have:=r.len;rw [Y2] at this;exact this
  refine ⟨_,rfl,_,rfl,l,vs,_,_,rfl,SqL.of q,c2,r,rfl,(by show (BZ b2).depth<=60;exact ZE (O9 b2).d ⋯),oR _,_,rfl,?_⟩
  rw [dm,cF];by_cases W:b2∈Fd x.four i
  ·refine BV (by rw [ζ W];rfl) ?_
   exact ⟨_,vs,rfl,R,S,g,q,by rw [aa a2,if_pos W];exact r⟩
  ·refine Bk (by rw [η W];rfl) ?_
   refine ⟨_,rfl,.inl ⟨rfl,_,SqL.of q⟩,?_⟩;refine ⟨_,rfl,l,vs,_,rfl,rfl,q,small1000 ∅,?_⟩
   have c3:=Gp q (.lst (vs++[y]));refine ⟨_,vs++[y],rfl,?_,?_,?_,Aq,?_⟩
   ·intro b o e;rw [BP (Bt e b7)];exact R _ _ e
   ·rw [BP np];exact S
   ·exact Cp c3 (De GF _) g
   ·rw [aa a2,if_neg W,ZB];exact Cp c3 (by rw [<- ZB];exact De GF _) (r.append (.cons c2 .nil))
 ·rintro U v ⟨V,vs,rfl,R,S,g,q,r⟩
  refine ⟨_,rfl,k _ _ R ?_⟩;have e:En x=Fd x.four 4:=(Ac6 x.four).symm;rw [e];exact .lst (SqL.of q) r
theorem sV (T:Txt K mg ad):CalB P w K mg base true 4 "edges_of" ["limit"] (PR K AN6):=by
 refine T.RJ.calN NP (λ _ _ _ _ _ _=>by1 λ _=>rfl) (λ vs H Q E h=>?_) (λ f a1 A outer s H vs Q E o h=>?_)
 ·obtain ⟨_,_,dv,⟨_,_,_,rfl,_⟩,_⟩:=h;exact dv.len
 obtain ⟨_,_,dv,⟨l,n,M,rfl,lb,F,X,rfl⟩,k⟩:=h;obtain ⟨_,rfl,Y⟩:=dv.one;obtain ⟨a,p,q,a2,r,rfl,ha,G,I,Z,a0⟩:=DV.t5 Y;have z0:Sm (0:Rat):=(⟨by decide+kernel,by decide+kernel⟩:Bd 1 (0:Rat)).sm ⋯
 refine ⟨_,(Ah (Aw (i:=1) NP.nd (Ae Al (pv 0) Ab)) (Ah (Aw (i:=2) NP.nd (Ae Al (pv 0) Ab)) (Ah (Aw (i:=3) NP.nd (Bh (Ac (pv 1) (Ac (pv 2) (BX (Ag (Ge T) o.m Af (Ac (Bb (v:=.ref ad.NOUGHT) rfl T.ex.m_NOUGHT rfl) (Am (Ae Al (pv 0) Ab) Aa))) Aa))))) (Ah (Aw (i:=4) NP.nd (Bh (BX (Ag (Ge T) o.m Af (Ac (Bb (v:=.ref ad.NOUGHT) rfl T.ex.m_NOUGHT rfl) (Ac (pv 1) Aa))) (BX (Ag (Ge T) o.m Af (Ac (Bb (v:=.ref ad.NOUGHT) rfl T.ex.m_NOUGHT rfl) (Ac (pv 2) Aa))) (Am (Ae Al (pv 0) Ab) Aa))))) (Aj (Ar (CW (Ac (pv 3) (Ac (pv 4) Aa))))))))),?_⟩
 refine ⟨_,rfl,a,_,_,_,rfl,rfl,ha,rfl,_,rfl,a,_,_,_,rfl,rfl,ha,rfl,?_⟩;refine ⟨_,rfl,_,rfl,_,rfl,a,_,_,_,rfl,rfl,ha,rfl,_,_,.cons (dN T _) (.cons Z .nil),⟨0,_,rfl,z0,lb.lo.sm X,rfl⟩,λ t J u L=>?_⟩
 refine ⟨(by show 3<=Y3;decide),λ d g=>?_⟩
 have N:DV K (upd J d (.tup [p,q,t])) (.ref d) (Ig (Jb l)):=DV.upd3 g (G.keep u) (I.keep u) L;have O:=Ao g (.tup [p,q,t]);generalize upd J d (.tup [p,q,t])=a3 at N O ⊢;have t2:=u.trans O;refine ⟨_,rfl,_,_,.cons (dN T _) (.cons (G.keep t2) .nil),⟨0,_,rfl,z0,lb.a.sm F,rfl⟩,λ x a4 y R=>?_⟩
 refine ⟨_,rfl,_,_,.cons (dN T _) (.cons (I.keep (t2.trans y)) .nil),⟨0,_,rfl,z0,lb.b.sm F,rfl⟩,λ z S B U=>?_⟩
 have t4:=t2.trans (y.trans B);refine ⟨_,rfl,a,_,_,_,rfl,rfl,ha.keep t4,rfl,(by show 3<=Y3;decide),λ e j=>?_⟩
 have V:DV K (upd S e (.tup [x,z,r])) (.ref e) (Ig (Oi l)):=DV.upd3 j (R.keep B) U (a0.keep t4);have C:=Ao j (.tup [x,z,r]);generalize upd S e (.tup [x,z,r])=a5 at V C ⊢;refine ⟨_,rfl,_,rfl,(by show 2<=Y3;decide),λ a6 W=>?_⟩
 have D:=Ao W (.lst [.ref d,.ref e]);refine k _ _ (t4.trans (C.trans D)) (.lst (SqL.of Aq) (.cons (N.keep (y.trans (B.trans (C.trans D)))) (.cons (V.keep D) .nil)))
theorem Ae9 (T:Txt K mg ad):CalB P w K mg base true 4 "room_at" ["edge","ray"] (PR K Ae6):=by
 refine T.Zg.calN Af1 (λ _ _ _ _ _ _=>Bg λ _ _=>rfl) (λ vs H Q E h=>?_) (λ f I A outer s H vs Q E i h=>?_)
 ·obtain ⟨_,_,dv,⟨_,_,_,_,_,rfl,_⟩,_⟩:=h;exact dv.len
 obtain ⟨_,_,dv,⟨e,r,n,M,c,rfl,d,rb,J,rfl⟩,k⟩:=h;obtain ⟨_,_,rfl,t,v⟩:=dv.two;obtain ⟨a,L,N,O,rfl,ha,x,z,B⟩:=DV.t3e t;obtain ⟨b,R,S,rfl,hb,C,D⟩:=DV.t2 v;refine ⟨_,(Aj (Ar (Ag (Ih T) i.m Af (BX (Ag (Ih T) i.m Af (BX (Ag (Gz T) i.m Af (Am (Ae Al (pv 0) Ab) (Am (Ae Al (pv 1) Ab) Aa))) (BX (Ag (Gz T) i.m Af (Am (Ae Al (pv 0) Ab) (Am (Ae Al (pv 1) Ab) Aa))) Aa))) (Am (Ae Al (pv 0) Ab) Aa))))),?_⟩
 refine ⟨_,rfl,a,_,_,_,rfl,rfl,ha,rfl,_,rfl,b,_,_,_,rfl,rfl,hb,rfl,_,_,.cons x (.cons C .nil),⟨_,_,rfl,d.a.sm ∅,rb.y.sm ∅,rfl⟩,λ U V g j=>?_⟩
 refine ⟨_,rfl,a,_,_,_,rfl,rfl,ha.keep g,rfl,_,rfl,b,_,_,_,rfl,rfl,hb.keep g,rfl,_,_,.cons (z.keep g) (.cons (D.keep g) .nil),⟨_,_,rfl,d.b.sm ∅,rb.u.sm ∅,rfl⟩,λ W X l o=>?_⟩
 have e1:=d.a.mul rb.y;have e2:=d.b.mul rb.u;refine ⟨_,_,.cons (j.keep l) (.cons o .nil),⟨_,_,rfl,e1.sm ∅,e2.sm ∅,rfl⟩,λ Y Z F p=>?_⟩
 have t3:=g.trans (l.trans F);refine ⟨_,rfl,a,_,_,_,rfl,rfl,ha.keep t3,rfl,_,_,.cons p (.cons (B.keep t3) .nil),⟨_,_,rfl,(e1.add e2).sm ∅,d.c.sm ∅,rfl⟩,λ a0 a1 G q=>?_⟩
 exact k _ _ (t3.trans G) q
theorem yN (T:Txt K mg ad):CalB P w K mg base true 4 "crossing_of" ["one","other","one_room","other_room"] (PR K AW2):=by
 refine T.Wl.calN Ny (λ _ _ _ _ _ _=>by4 λ _ _ _ _=>rfl) (λ vs H Q E h=>?_) (λ f a4 A outer s H vs Q E d h=>?_)
 ·obtain ⟨_,_,dv,⟨_,_,_,_,_,_,rfl,_⟩,_⟩:=h;exact dv.len
 obtain ⟨_,_,dv,⟨p,q,x,y,c,n,rfl,pb,e,g,v,j,a5,rfl⟩,k⟩:=h;obtain ⟨_,_,a6,ry,rfl,Y,Z,z,a0⟩:=dv.four;obtain ⟨a,a7,a8,rfl,ha,B,C⟩:=DV.t2 Y;obtain ⟨b,a9,b0,rfl,hb,a1,a2⟩:=DV.t2 Z;refine ⟨_,(Ah (Aw (i:=4) Ny.nd (Ag (Jt T) d.m Af (Ac (pv 2) (BX (Ag (Ge T) d.m Af (Ac (pv 2) (Ac (pv 3) Aa))) Aa)))) (Ah (Aw (i:=5) Ny.nd (Ag (Ih T) d.m Af (Am (Ae Al (pv 0) Ab) (BX (Ag (Gz T) d.m Af (Ac (pv 4) (BX (Ag (Ge T) d.m Af (Am (Ae Al (pv 1) Ab) (Am (Ae Al (pv 0) Ab) Aa))) Aa))) Aa)))) (Ah (Aw (i:=6) Ny.nd (Ag (Ih T) d.m Af (Am (Ae Al (pv 0) Ab) (BX (Ag (Gz T) d.m Af (Ac (pv 4) (BX (Ag (Ge T) d.m Af (Am (Ae Al (pv 1) Ab) (Am (Ae Al (pv 0) Ab) Aa))) Aa))) Aa)))) (Aj (Ar (Bh (Ac (pv 5) (Ac (pv 6) Aa)))))))),?_⟩
 refine ⟨_,rfl,_,rfl,_,rfl,_,_,.cons z (.cons a0 .nil),⟨_,_,rfl,g.sm ∅,v.sm ∅,rfl⟩,λ b1 b2 D F=>?_⟩
 have e1:=g.sub v;refine ⟨_,_,.cons (z.keep D) (.cons F .nil),⟨_,_,rfl,g.sm ∅,e1.sm ∅,j,rfl⟩,λ b3 b4 a3 l=>?_⟩
 have e2:=g.div e1 j;have t2:=D.trans a3;refine ⟨_,rfl,a,_,_,_,rfl,rfl,ha.keep t2,rfl,_,rfl,_,rfl,b,_,_,_,rfl,rfl,hb.keep t2,rfl,_,rfl,a,_,_,_,rfl,rfl,ha.keep t2,rfl,_,_,.cons (a1.keep t2) (.cons (B.keep t2) .nil),⟨_,_,rfl,e.y.sm ∅,pb.y.sm ∅,rfl⟩,λ b5 b6 r G=>?_⟩
 have I:=e.y.sub pb.y;refine ⟨_,_,.cons (l.keep r) (.cons G .nil),⟨_,_,rfl,e2.sm ∅,I.sm ∅,rfl⟩,λ b7 b8 J L=>?_⟩
 have t4:=t2.trans (r.trans J);refine ⟨_,_,.cons (B.keep t4) (.cons L .nil),⟨_,_,rfl,pb.y.sm ∅,(e2.mul I).sm ∅,rfl⟩,λ b9 c0 M N=>?_⟩
 have t5:=t4.trans M;refine ⟨_,rfl,a,_,_,_,rfl,rfl,ha.keep t5,rfl,_,rfl,_,rfl,b,_,_,_,rfl,rfl,hb.keep t5,rfl,_,rfl,a,_,_,_,rfl,rfl,ha.keep t5,rfl,_,_,.cons (a2.keep t5) (.cons (C.keep t5) .nil),⟨_,_,rfl,e.u.sm ∅,pb.u.sm ∅,rfl⟩,λ c1 c2 t O=>?_⟩
 have R:=e.u.sub pb.u;refine ⟨_,_,.cons (l.keep (r.trans (J.trans (M.trans t)))) (.cons O .nil),⟨_,_,rfl,e2.sm ∅,R.sm ∅,rfl⟩,λ c3 c4 S U=>?_⟩
 have V:=t5.trans (t.trans S);refine ⟨_,_,.cons (C.keep V) (.cons U .nil),⟨_,_,rfl,pb.u.sm ∅,(e2.mul R).sm ∅,rfl⟩,λ c5 c6 W X=>?_⟩
 refine ⟨_,rfl,_,rfl,(by show 2<=Y3;decide),λ c7 o=>?_⟩
 exact k _ _ (V.trans (W.trans (Ao o _))) (DV.upd2 o (N.keep (t.trans (S.trans W))) X)
theorem AM5 (T:Txt K mg ad):CalB P w K mg base true 2 "is_before" ["one","other"] (PR K zV):=by
 refine T.Wy.calN qL (λ _ _ _ _ _ _=>Bg λ _ _=>rfl) (λ vs H Q E h=>?_) (λ f B A outer s H vs Q E o h=>?_)
 ·obtain ⟨_,_,dv,⟨_,_,_,rfl,_⟩,_⟩:=h;exact dv.len
 obtain ⟨_,_,dv,⟨d,g,n,rfl,b1,b2,i,rfl⟩,k⟩:=h;obtain ⟨_,_,rfl,t,x⟩:=dv.two;obtain ⟨a,C,D,rfl,ha,j,q⟩:=DV.t2 t;obtain ⟨b,F,G,rfl,hb,l,r⟩:=DV.t2 x;refine ⟨_,(Ah (BJ (BR (Ke o.units) (Ae Al (pv 0) Ab) (Ae Al (pv 1) Ab)) (Aj (Ar (Ag (Hj T) o.m Af (Am (Ae Al (pv 0) Ab) (Am (Ae Al (pv 1) Ab) Aa))))) BL) (Aj (Ar (Ag (Hj T) o.m Af (Am (Ae Al (pv 0) Ab) (Am (Ae Al (pv 1) Ab) Aa)))))),?_⟩
 refine ⟨_,rfl,a,_,_,_,rfl,rfl,ha,rfl,_,rfl,b,_,_,_,rfl,rfl,hb,rfl,jG j l ⟨_,rfl,?_⟩⟩;by_cases e:d.1=g.1
 ·refine BV (by rw [ζ e];rfl) ?_
  refine ⟨_,rfl,a,_,_,_,rfl,rfl,ha,rfl,_,rfl,b,_,_,_,rfl,rfl,hb,rfl,_,_,.cons q (.cons r .nil),⟨_,_,rfl,b1.u.sm i,b2.u.sm i,rfl⟩,λ v z p hv=>?_⟩
  refine k _ _ p ?_;have e2:JG d g=decide (d.2 < g.2):=by unfold JG;rw [if_pos e]
  rw [e2];exact hv
 ·refine Bk (by rw [η e];rfl) ?_
  refine ⟨_,rfl,a,_,_,_,rfl,rfl,ha,rfl,_,rfl,b,_,_,_,rfl,rfl,hb,rfl,_,_,.cons j (.cons l .nil),⟨_,_,rfl,b1.y.sm i,b2.y.sm i,rfl⟩,λ v z p hv=>?_⟩
  refine k _ _ p ?_;have e2:JG d g=decide (d.1 < g.1):=by unfold JG;rw [if_neg e]
  rw [e2];exact hv
theorem Ad4 (T:Txt K mg ad):CalB P w K mg base true 5 "cut_by" ["edge","corners"] (PR K AR4):=by
 refine T.Tg.calN Ij (λ _ _ _ _ _ _=>Bg λ _ _=>rfl) (λ vs H Q E h=>?_) (λ f g1 A outer s H vs Q E d9 h=>?_)
 ·obtain ⟨_,_,dv,⟨_,_,_,_,_,rfl,_⟩,_⟩:=h;exact dv.len
 obtain ⟨_,_,dv,⟨e,ps,n,M,c,rfl,a7,pb,e7,g2,rfl⟩,k⟩:=h;obtain ⟨e8,_,rfl,he,a0⟩:=dv.two;obtain ⟨a,xs,rfl,ha,b2⟩:=DV.lst_of a0;have hl:xs.length=ps.length:=by have:=b2.len;rw [Y2] at this;exact this
 refine ⟨_,(Ah (ZW (i:=2) Ij.nd rfl (by walk_at "o") ["corner","edge"] [none,some 0] rfl (Dt (pv 1)) (λ _ _ _ _ _ _=>(Bp (i:=0) (show Uu [("corner":Str),("edge":Str)] by decide))) (λ _ _ _ _ _ _=>FQ) (λ _ _ _ _ _ _=>(Ag (Ae9 T) d9.m Af (Ac (pv 1) (Ac (pv 0) Aa)))) (UT (hcell:=by decide) (hf:=(show ∀y:Str×JJ,y∈_->y.2=yB->(defScope OJ).names.lookup y.1=some MB by decide))) ⋯ rfl ⋯ rfl (λ i j h=>by
   rcases i with _ | _ | i
   ·simp at h
   ·simp at h;subst h;exact ⟨_,rfl,rfl,rfl,rfl⟩
   ·simp at h)) (Ah (Aw (i:=3) Ij.nd (CW Aa)) (Ah (Dj YR rfl (Lb rfl T.enumerate (Ac (pv 1) Aa)) (JV (n:=2) rfl (Eb (Bp (i:=4) Ij.nd) (Eb (Bp (i:=5) Ij.nd) HD))) (Ah (Aw (i:=6) Ij.nd (Ax Gm (pv 4) Ab)) (Ah (BJ (BR Hc (Ax Ef (Ae Al (Ae BK (pv 2) (pv 6)) Ab) (Ae Al (Ae BK (pv 2) (pv 4)) Ab)) Ab) (Ah (Aw (i:=7) Ij.nd (Ag (yN T) d9.m Af (Am (Ae BK (pv 1) (pv 6)) (Ac (pv 5) (Am (Ae BK (pv 2) (pv 6)) (Am (Ae BK (pv 2) (pv 4)) Aa)))))) (Aj (BJ (BR (lU d9.units) (pv 7) (pv 3)) (Aj (Cq (Ca YY Xq Xs Fq (pv 3) (Ac (pv 7) Aa)))) BL))) BL) (Aj (BJ (BR bR (Ae Al (Ae BK (pv 2) (pv 4)) Ab) Ab) (Aj (Cq (Ca YY Xq Xs Fq (pv 3) (Ac (pv 5) Aa)))) BL))))) (Aj (Ar (pv 3)))))),?_⟩
 refine ⟨_,rfl,a,rfl,⟨_,ha⟩,?_⟩;refine JD (K:=K) (a:=a) (xs:=xs) (λ i a2 e0 L=>∃c0,a2=[c0,some e8]/\Same H L/\DVs K L e0 (((ps.take i).map (Ai e)).map Ak)) ⟨_,rfl,Same.refl _,.nil⟩ ?_ ?_ ?_
 ·rintro i a2 e0 L hi ⟨c0,rfl,a8,c3⟩
  refine ⟨XG (small1000 ?_),ha.keep a8⟩;have:=c3.len;rw [Y2,Y2,YG] at this;omega
 ·rintro i x a2 e0 L hi ⟨c0,rfl,a8,c3⟩
  obtain ⟨d,hd,a0⟩:=b2.get hi;obtain ⟨g6,d6,rfl⟩:=Rt hd;have f6:=pb _ (ZI d6);refine ⟨_,rfl,_,rfl,_,_,.cons (he.keep a8) (.cons (a0.keep a8) .nil),⟨_,_,n,M,c,rfl,a7,f6,by omega,rfl⟩,λ v e1 b9 hv=>?_⟩
  refine nx (CQ hi) ⟨_,rfl,a8.trans b9,?_⟩;rw [YU,d6,ZB,ZB];exact (c3.keep b9).append (.cons hv .nil)
 rintro g3 a1 e9 N ⟨c0,rfl,a8,c4⟩ f0
 rw [hl,YX] at c4;have e2:=Ao f0 (.lst a1);have b3:upd e9 N (.lst a1) N=some (.lst a1):=Aq;have c5:=c4.keep e2;have b9:=a8.trans e2;generalize upd e9 N (.lst a1)=e1 at e2 b3 c5 b9 ⊢;have g4:a1.length=ps.length:=by have:=c4.len;rw [Y2,Y2] at this;exact this
 refine ⟨(by show 0<=Y3;decide),λ l e3=>?_⟩
 have d0:=Ao e3 (.lst []);have d7:upd e1 l (.lst []) l=some (.lst []):=Aq;have c6:=d0 _ _ b3;have c7:=c5.keep d0;have e4:=b9.trans d0;have b4:H l=none:=b9.free e3;have b5:N≠l:=λ e=>by rw [e,e3] at b3;cases b3
 generalize upd e1 l (.lst [])=g7 at d0 d7 c6 c7 e4 ⊢;refine ⟨_,rfl,a,rfl,⟨_,ha.keep e4⟩,?_⟩;refine M7 (K:=K) (a:=a) (xs:=xs) (λ i a2 L=>∃d1 d2 d3 d4 vs,a2=[some e8,some (.ref a),some (.ref N),some (.ref l),d1,d2,d3,d4]/\Same H L/\L N=some (.lst a1)/\DVs K L a1 ((ps.map (Ai e)).map Ak)/\L l=some (.lst vs)/\DVs K L vs ((Gd e ps i).map BZ)) ⟨_,_,_,_,[],rfl,e4,c6,c7,d7,.nil⟩ ?_ ?_ ?_
 ·rintro i a2 L hi ⟨d1,d2,d3,d4,vs,rfl,c1,_⟩
  exact ha.keep c1
 ·rintro i x a2 L p hi ⟨d1,d2,d3,d4,vs,rfl,c1,a9,b0,b6,Y⟩ f7
  have g5:=CQ hi;have up:=Ao f7 (.tup [.int i,x]);obtain ⟨f8,f1,Z⟩:=wD b2 (i:=i) ∅
  obtain ⟨g8,f2,U⟩:=KQ b2 (i:=i) ∅
  cases hi.symm.trans f2
  have f3:vs.length<=2 * i:=by
   have f9:=Y.len;rw [Y2] at f9;have g9:=sE e ps i;omega
  have e5:=pb _ (yF (cs:=ps) (i:=i) ∅)
  have e6:=pb _ (Kh (cs:=ps) (i:=i) ∅)
  refine ⟨p,_,rfl,SqT.of Aq,rfl,_,_,rfl,_,_,rfl,rfl,?_⟩;have c2:=c1.trans up;have B:=up _ _ a9;have G:=b0.keep up;have V:=up _ _ b6;have W:=Y.keep up;have Z:=Z.keep c2;have U:=U.keep c2;generalize upd L p (.tup [.int i,x])=h0 at c2 B G V W Z U ⊢;clear up a9 b0 b6 Y c1;obtain ⟨h1,d8,b7⟩:=AW1 G (i:=i) ∅
  obtain ⟨h2,a3,b8⟩:=Wc G (i:=i) ∅
  obtain ⟨g0,rfl,c8⟩:=pD b7;obtain ⟨c9,rfl,a4⟩:=pD b8;have f4:Bd (2 * (c+n)+M+2) (Ai e (Ey ps i)):=(((a7.a.mul e5.y).add (a7.b.mul e5.u)).add a7.c).mono ∅
  have b1:Bd (2 * (c+n)+M+2) (Ai e (Ck ps i)):=(((a7.a.mul e6.y).add (a7.b.mul e6.u)).add a7.c).mono ∅
  have sz:CMulW (Ai e (Ey ps i)).num (Ai e (Ck ps i)).num:=⟨Y4 f4.n (DP ∅),Y4 b1.n (DP ∅)⟩
  have C:=tM e (ps:=ps) (i:=i) ∅
  unfold Hb at C;dsimp only at C
  refine ⟨_,rfl,_,_,rfl,rfl,?_⟩;refine ⟨_,rfl,_,rfl,N,_,_,_,rfl,rfl,SqL.of B,d8,g0,_,_,_,rfl,rfl,c8,Ek,_,rfl,_,rfl,N,_,_,_,rfl,rfl,SqL.of B,Bu a3,c9,_,_,_,rfl,rfl,a4,Ek,_,_,rfl,rfl,sz,_,_,rfl,rfl,_,rfl,?_⟩;by_cases a0:Ai e (Ey ps i) * Ai e (Ck ps i) < 0
  ·refine Bk (ζ ((fO _ _).mpr a0)) ?_;have f5:Ai e (Ey ps i) - Ai e (Ck ps i)≠0:=by rcases Dy a0 with z | z<;>grind
   refine ⟨_,rfl,_,rfl,a,_,_,f8,rfl,rfl,ha.keep c2,f1,_,rfl,_,rfl,_,rfl,N,_,_,_,rfl,rfl,SqL.of B,d8,_,rfl,_,rfl,N,_,_,_,rfl,rfl,SqL.of B,Bu a3,_,_,.cons Z (.cons U (.cons b7 (.cons b8 .nil))),⟨_,_,_,_,c,_,rfl,e5,e6,f4,b1,f5,e7,rfl⟩,λ O X a5 a6=>?_⟩
   have a6:DV K X O (BZ (Bl e (Ey ps i) (Ck ps i))):=a6;have g:=a5 _ _ V;have r:=W.keep a5;have q:=a5 _ _ B;have t:=G.keep a5;have I:=a4.keep a5;have J:=U.keep a5;have D:=c2.trans a5;refine ⟨_,rfl,_,rfl,l,vs,_,_,rfl,SqL.of g,a6,r,rfl,(by show (BZ _).depth<=60;exact ZE (O9 _).d ⋯),oR _,_,rfl,?_⟩
   rw [dm,cF];by_cases d5:Bl e (Ey ps i) (Ck ps i)∈Gd e ps i
   ·refine BV (by rw [ζ d5];rfl) ?_
    rw [if_neg (λ z=>z.2 d5)] at C
    clear W V G B Z U b7 b8 c8 a4;refine ⟨_,rfl,_,rfl,N,_,_,_,rfl,rfl,SqL.of q,Bu a3,c9,_,_,_,rfl,rfl,I,Ek,_,_,rfl,rfl,_,rfl,?_⟩;by_cases R:0<=Ai e (Ck ps i)
    ·refine Bk (ζ ((Jh _).mpr R)) ?_;rw [if_pos R] at C;refine ⟨_,rfl,.inl ⟨rfl,_,SqL.of g⟩,?_⟩;refine ⟨_,rfl,l,vs,_,rfl,rfl,g,small1000 ∅,?_⟩
     have S:=Gp g (.lst (vs++[x]));refine ⟨_,_,_,_,vs++[x],rfl,?_,?_,?_,Aq,?_⟩
     ·intro b o e;rw [BP (Bt e b4)];exact D _ _ e
     ·rw [BP b5];exact q
     ·exact Cp S (De Mr _) t
     ·rw [C,ZB];exact Cp S (by rw [<- ZB];exact De GF _) (r.append (.cons J .nil))
    ·refine BV (η (λ z=>R ((Jh _).mp z))) ?_
     rw [if_neg R,Xg] at C;exact ⟨_,_,_,_,vs,rfl,D,q,t,g,by rw [C];exact r⟩
   ·refine Bk (by rw [η d5];rfl) ?_
    rw [if_pos ⟨a0,d5⟩] at C;refine ⟨_,rfl,.inl ⟨rfl,_,SqL.of g⟩,?_⟩;refine ⟨_,rfl,l,vs,_,rfl,rfl,g,small1000 ∅,?_⟩
    have S:=Gp g (.lst (vs++[O]));have D:Same H (upd X l (.lst (vs++[O]))):=λ b o e=>by
     rw [BP (Bt e b4)];exact D _ _ e
    have q:upd X l (.lst (vs++[O])) N=some (.lst a1):=by rw [BP b5];exact q
    have t:DVs K (upd X l (.lst (vs++[O]))) a1 ((ps.map (Ai e)).map Ak):=Cp S (De Mr _) t;have r:DVs K (upd X l (.lst (vs++[O]))) (vs++[O]) ((Gd e ps i++[Bl e (Ey ps i) (Ck ps i)]).map BZ):=by
     rw [ZB];exact Cp S (by rw [<- ZB];exact De GF _) (r.append (.cons a6 .nil))
    have I:SqT K (upd X l (.lst (vs++[O]))) c9 _:=AX6 S I;have J:DV K (upd X l (.lst (vs++[O]))) x (BZ (Ck ps i)):=Er S (GF _) J;have g:upd X l (.lst (vs++[O])) l=some (.lst (vs++[O])):=Aq;have f3:(vs++[O]).length<=2 * i+1:=by rw [X9];simp;omega
    clear S a6 a5;generalize upd X l (.lst (vs++[O]))=X at D q t r I J g ⊢;generalize vs++[O]=vs at r g f3 ⊢;clear W V G B Z U b7 b8 c8 a4;refine ⟨_,rfl,_,rfl,N,_,_,_,rfl,rfl,SqL.of q,Bu a3,c9,_,_,_,rfl,rfl,I,Ek,_,_,rfl,rfl,_,rfl,?_⟩;by_cases R:0<=Ai e (Ck ps i)
    ·refine Bk (ζ ((Jh _).mpr R)) ?_;rw [if_pos R] at C;refine ⟨_,rfl,.inl ⟨rfl,_,SqL.of g⟩,?_⟩;refine ⟨_,rfl,l,vs,_,rfl,rfl,g,small1000 ∅,?_⟩
     have S:=Gp g (.lst (vs++[x]));refine ⟨_,_,_,_,vs++[x],rfl,?_,?_,?_,Aq,?_⟩
     ·intro b o e;rw [BP (Bt e b4)];exact D _ _ e
     ·rw [BP b5];exact q
     ·exact Cp S (De Mr _) t
     ·rw [C,ZB];exact Cp S (by rw [<- ZB];exact De GF _) (r.append (.cons J .nil))
    ·refine BV (η (λ z=>R ((Jh _).mp z))) ?_
     rw [if_neg R,Xg] at C;exact ⟨_,_,_,_,vs,rfl,D,q,t,g,by rw [C];exact r⟩
  ·refine BV (η (λ z=>a0 ((fO _ _).mp z))) ?_
   rw [if_neg (λ z=>a0 z.1)] at C
   have D:=c2;have q:=B;have t:=G;have r:=W;have g:=V;have I:=a4;have J:=U;refine ⟨_,rfl,_,rfl,N,_,_,_,rfl,rfl,SqL.of q,Bu a3,c9,_,_,_,rfl,rfl,I,Ek,_,_,rfl,rfl,_,rfl,?_⟩;by_cases R:0<=Ai e (Ck ps i)
   ·refine Bk (ζ ((Jh _).mpr R)) ?_;rw [if_pos R] at C;refine ⟨_,rfl,.inl ⟨rfl,_,SqL.of g⟩,?_⟩;refine ⟨_,rfl,l,vs,_,rfl,rfl,g,small1000 ∅,?_⟩
    have S:=Gp g (.lst (vs++[x]));refine ⟨_,_,_,_,vs++[x],rfl,?_,?_,?_,Aq,?_⟩
    ·intro b o e;rw [BP (Bt e b4)];exact D _ _ e
    ·rw [BP b5];exact q
    ·exact Cp S (De Mr _) t
    ·rw [C,ZB];exact Cp S (by rw [<- ZB];exact De GF _) (r.append (.cons J .nil))
   ·refine BV (η (λ z=>R ((Jh _).mp z))) ?_
    rw [if_neg R,Xg] at C;exact ⟨_,_,_,_,vs,rfl,D,q,t,g,by rw [C];exact r⟩
 ·rintro a2 L ⟨d1,d2,d3,d4,vs,rfl,c1,a9,b0,b6,Y⟩
  rw [hl,qw] at Y;exact ⟨_,rfl,k _ _ c1 (.lst (SqL.of b6) Y)⟩
theorem Ah7 (T:Txt K mg ad):CalB P w K mg base true 3 "from_the_least" ["corners"] (AK2 K):=by
 refine T.V4.calN Kp (λ _ _ _ _ _ _=>by1 λ _=>rfl) (λ vs H Q E h=>?_) (λ f a5 A outer s H vs Q E V h=>?_)
 ·obtain ⟨_,_,_,rfl,_⟩:=h;rfl
 obtain ⟨a7,cs,n,rfl,W,G,X,a6,q⟩:=h;obtain ⟨a,xs,rfl,ha,b⟩:=DV.lst_of W;have hl:xs.length=cs.length:=by have:=b.len;rw [Y2] at this;exact this
 refine ⟨_,(Ah (Aw (i:=1) Kp.nd Ab) (Ah (Dj YR rfl (Lb rfl T.enumerate (Ac (pv 0) Aa)) (JV (n:=2) rfl (Eb (Bp (i:=2) Kp.nd) (Eb (Bp (i:=3) Kp.nd) HD))) (Aj (BJ (Bs (Ag (AM5 T) V.m Af (Ac (pv 3) (Am (Ae BK (pv 0) (pv 1)) Aa)))) (Aj (Aw (i:=1) Kp.nd (pv 2))) BL))) (Aj (Ar (Ax Gk (Ea Gg (pv 0) (Cu (pv 1)) FJ) (Ea Gg (pv 0) FJ (Cu (pv 1)))))))),?_⟩
 refine ⟨_,rfl,a,rfl,⟨_,ha⟩,?_⟩;refine M7 (K:=K) (a:=a) (xs:=xs) (λ i o e=>∃r t,o=[some (.ref a),some (.int (DX cs i:Nat)),r,t]/\Same H e) ⟨_,_,rfl,Same.refl _⟩ ?_ ?_ ?_
 ·rintro i o e hi ⟨r,t,rfl,d⟩
  exact ha.keep d
 ·rintro i x o e p hi ⟨r,t,rfl,d⟩ Y
  have Z:=CQ hi;have g:=d.trans (Ao Y (.tup [.int i,x]));have C:DX cs i < cs.length:=by
   cases i with
   | zero=>show 0 < cs.length;omega
   | succ j=>have:=nP cs (j+1) ∅;omega
  obtain ⟨a0,I,J⟩:=KQ b (i:=DX cs i) C;obtain ⟨a8,L,M⟩:=KQ b (i:=i) ∅
  cases hi.symm.trans L
  refine ⟨p,_,rfl,SqT.of Aq,rfl,_,_,rfl,_,_,rfl,rfl,?_⟩;have a1:=G _ (Kh (cs:=cs) C);have a2:=G _ (Kh (cs:=cs) (i:=i) ∅)
  refine ⟨_,rfl,_,rfl,_,rfl,a,_,_,a0,rfl,rfl,ha.keep g,Bu I,_,_,.cons (M.keep g) (.cons (J.keep g) .nil),⟨_,_,n,rfl,a2,a1,X,rfl⟩,λ v a3 N hv=>?_⟩
  obtain rfl:=hv.bl_of;refine ⟨_,rfl,?_⟩;cases hb:JG (Ck cs i) (Ck cs (DX cs i)) with
  | true=>
   refine iteT ⟨_,rfl,some (.int (i:Int)),some x,?_,g.trans N⟩;rw [DX,if_pos hb];rfl
  | false=>
   refine iteF ⟨some (.int (i:Int)),some x,?_,g.trans N⟩;rw [DX,if_neg (by rw [hb];decide)]
   rfl
 ·rintro o e ⟨r,t,rfl,d⟩
  rw [hl];have D:=ha.keep d;refine ⟨_,rfl,_,rfl,_,rfl,a,xs,rfl,D,λ u O=>?_⟩
  have y:=Ao O (.lst (cutV xs (some ((DX cs cs.length:Nat):Int)) none));have k:upd e u (.lst (cutV xs (some ((DX cs cs.length:Nat):Int)) none)) u=some (.lst (xs.drop (DX cs cs.length))):=by rw [<- AP3];exact Aq
  generalize upd e u (.lst (cutV xs (some ((DX cs cs.length:Nat):Int)) none))=R at y k ⊢;have S:=D.keep y;refine ⟨_,rfl,_,rfl,_,rfl,a,xs,rfl,S,λ z U=>?_⟩
  have B:=Ao U (.lst (cutV xs none (some ((DX cs cs.length:Nat):Int))));have l:upd R z (.lst (cutV xs none (some ((DX cs cs.length:Nat):Int)))) z=some (.lst (xs.take (DX cs cs.length))):=by rw [<- zB];exact Aq
  generalize upd R z (.lst (cutV xs none (some ((DX cs cs.length:Nat):Int))))=a3 at B l ⊢;refine ⟨u,z,_,_,rfl,rfl,B _ _ k,l,?_,λ a4 F=>?_⟩
  ·refine XG (small1000 ?_);rw [JO,YG];omega
  have t3:=d.trans (y.trans (B.trans (Ao F (.lst (xs.drop (DX cs cs.length)++xs.take (DX cs cs.length))))));refine q a4 _ _ t3 ((d.trans (y.trans B)).free F) Aq ?_;unfold JS;rw [ZB,List.map_drop,List.map_take];exact DVs.keep t3 ((DVs.drop _ b).append (DVs.take _ b))
theorem jH (T:Txt K mg ad):CalB P w K mg base true 6 "field_of" ["bench","box"] (yS K):=by
 refine T.Vj.calN Jv (λ _ _ _ _ _ _=>Bg λ _ _=>rfl) (λ vs H Q E h=>?_) (λ f c3 A outer s H vs Q E v h=>?_)
 ·obtain ⟨_,_,_,_,_,_,_,rfl,_⟩:=h;rfl
 obtain ⟨U,a5,ps,x,m,n,M,rfl,hb,a6,c4,b6,u,c5,q⟩:=h;have c6:=c4.len;have a7:=ak ps 0 e1 e2;have L:=λ i=>Poly.all (n:=n) (M:=M) ((Bv ps).take i) (eQ u.ok u.bd u.pos) (λ l hl=>u.lim l (ua hl))
 have N:∀i,((Bv ps).take i).length<=ps.length:=λ i=>ZE (show ((Bv ps).take i).length<=(Bv ps).length by rw [YG];omega) a7
 refine ⟨_,(Ah (Aw (i:=2) Jv.nd (Ag (lE T) v.m Af (Ac (pv 0) Aa))) (Ah (Cq (Ag (q8 T) v.m Af (Ac (pv 1) Aa))) (Ah (Aw (i:=3) Jv.nd (Ag (um T) v.m Af (Ac (pv 1) Aa))) (Ah (Dj YR rfl (Dt (pv 2)) (Bp (i:=4) Jv.nd) (Aj (Dj YR rfl (Dt (Ag (sV T) v.m Af (Ac (pv 4) Aa))) (Bp (i:=5) Jv.nd) (Aj (Aw (i:=3) Jv.nd (Ag (Ad4 T) v.m Af (Ac (pv 5) (Ac (pv 3) Aa)))))))) (Aj (Ar (Ag (Ah7 T) v.m Af (Ac (pv 3) Aa)))))))),?_⟩
 refine ⟨_,rfl,U,ps,m,rfl,hb,c4,b6,λ l F c8 V c9 hl O=>?_⟩
 have B:F.length=(Bv ps).length:=by have:=O.len;rw [Y2] at this;exact this
 refine ⟨_,rfl,_,_,.cons (a6.keep V) .nil,⟨x,2 * n+M,rfl,u.ok,u.bd,by omega,rfl⟩,λ d0 d1 G _=>?_⟩
 refine ⟨_,rfl,_,_,.cons (a6.keep (V.trans G)) .nil,⟨x,rfl,rfl⟩,λ e b7 W b=>?_⟩
 have t3:=V.trans (G.trans W);have R:=(G.trans W) _ _ hl;have X:=O.keep (G.trans W);refine ⟨_,rfl,l,rfl,⟨_,SqL.of R⟩,?_⟩;refine GX (K:=K) (a:=l) (xs:=F) (λ i k g=>∃e o p,k=[some U,some a5,some (.ref l),some e,o,p]/\Same b7 g/\DV K g e (Hs (Io ((Bv ps).take i) (En x)))) ⟨e,_,_,rfl,Same.refl _,b⟩ ?_ ?_ ?_
 ·rintro i k g hi ⟨e,o,p,rfl,z,_⟩
  exact SqL.of (z _ _ R)
 ·rintro i y k g hi ⟨e,o,p,rfl,z,b⟩
  obtain ⟨d,hd,b8⟩:=X.get hi;obtain ⟨Y,S,rfl⟩:=jf hd;have lb:=u.lim _ (ZI S);have I:=L i;have c7:=N i;refine ⟨_,rfl,_,_,.cons (b8.keep z) .nil,⟨Y,n,M,rfl,lb,by omega,by omega,rfl⟩,λ d2 Z J a8=>?_⟩
  obtain ⟨le,es,rfl,C,a9⟩:=DV.lst_of a8;obtain ⟨b9,c0,rfl,b0,b1⟩:=a9.two;rw [yj S];generalize Io ((Bv ps).take i) (En x)=cs at b I ⊢;refine ⟨le,rfl,⟨_,C⟩,?_⟩;refine GX (K:=K) (a:=le) (xs:=[b9,c0]) (λ j k g=>∃e o p,k=[some U,some a5,some (.ref l),some e,o,p]/\Same Z g/\DV K g e (Hs (AX0 cs Y j))) ⟨e,_,_,rfl,Same.refl _,b.keep J⟩ ?_ ?_ ?_
  ·rintro j k g r ⟨e,o,p,rfl,t,_⟩
   exact C.keep t
  ·rintro j y k g r ⟨e,o,p,rfl,t,b⟩
   match j,r with
   | 0,r=>
    cases r
    have pn:=I.len;refine ⟨_,rfl,_,rfl,_,_,.cons (b0.keep t) (.cons b .nil),⟨_,_,n,M,_,rfl,lb.up,I.rn,by omega,by show cs.length<=200;omega,rfl⟩,λ a0 c1 a1 D=>?_⟩
    exact ⟨a0,_,_,rfl,t.trans a1,D⟩
   | 1,r=>
    cases r
    have b2:=I.cut lb.up;have pn:=b2.len;refine ⟨_,rfl,_,rfl,_,_,.cons (b1.keep t) (.cons b .nil),⟨_,_,n,M,_,rfl,lb.dn,b2.rn,by omega,by show (Dm (Jb Y) cs).length<=200;omega,rfl⟩,λ a0 c1 a1 D=>?_⟩
    exact ⟨a0,_,_,rfl,t.trans a1,D⟩
   | j+2,r=>cases r
  ·rintro k g ⟨e,o,p,rfl,t,b⟩
   exact ⟨e,_,_,rfl,z.trans (J.trans t),b⟩
 ·rintro k g ⟨e,o,p,rfl,z,b⟩
  have a2:=L F.length;have a3:=N F.length;have pn:=a2.len;rw [B,YX] at b a2 pn;refine ⟨_,rfl,e,_,_,rfl,b,a2.rn,by omega,by rw [B,YX] at a3;omega,λ c2 b3 Z J b4 b5 a4=>?_⟩
  have t5:=t3.trans z;exact q c2 b3 Z (t5.trans J) (t5.free b4) b5 a4
theorem QR (T:Txt K mg ad):CalB P w K mg base true 2 "in_order" ["one","other"] (PR K AV4):=by
 refine T.Sw.calN AW7 (λ _ _ _ _ _ _=>Bg λ _ _=>rfl) (λ vs H Q E h=>?_) (λ f n A outer s H vs Q E i h=>?_)
 ·obtain ⟨_,_,dv,⟨_,_,rfl,_⟩,_⟩:=h;exact dv.len
 obtain ⟨_,_,dv,⟨p,q,rfl,sp,j,rfl⟩,k⟩:=h;obtain ⟨x,y,rfl,d,e⟩:=dv.two;refine ⟨_,(Aj (Ar (Fy (Bs (Ag (Hj T) i.m Af (Ac (pv 1) (Ac (pv 0) Aa)))) (Bh (Ac (pv 1) (Ac (pv 0) Aa))) (Bh (Ac (pv 0) (Ac (pv 1) Aa)))))),?_⟩
 refine ⟨_,rfl,_,rfl,_,_,by walk_at "Zv",⟨_,_,rfl,j,sp,rfl⟩,λ o r b g=>?_⟩
 obtain rfl:=g.bl_of;refine ⟨_,rfl,?_⟩;unfold Iu at k;by_cases c:q < p
 ·rw [if_pos c] at k;refine Bk (ζ c) ⟨_,rfl,_,rfl,(by show 2<=Y3;decide),λ l a=>?_⟩
  exact k _ _ (b.trans (Ao a _)) (DV.upd2 a (e.keep b) (d.keep b))
 ·rw [if_neg c] at k;refine BV (η c) ⟨_,rfl,_,rfl,(by show 2<=Y3;decide),λ l a=>?_⟩
  exact k _ _ (b.trans (Ao a _)) (DV.upd2 a (d.keep b) (e.keep b))
theorem zX (T:Txt K mg ad):CalB P w K mg base true 5 "height_at" ["table","lamp","slant","t"] (PR K yw):=by
 refine T.Yq.calN kI (λ _ _ _ _ _ _=>by4 λ _ _ _ _=>rfl) (λ vs H Q E h=>?_) (λ f c7 A outer s H vs Q E v h=>?_)
 ·obtain ⟨_,_,dv,⟨_,_,_,_,_,_,_,_,rfl,_⟩,_⟩:=h;exact dv.len
 obtain ⟨_,_,dv,⟨t,j,p,u,T0,n,m,b1,rfl,tb,W,bs,x,b2,le,rfl⟩,k⟩:=h;obtain ⟨c9,b3,M,q,rfl,d0,b4,b5,d1⟩:=dv.four;obtain ⟨X,N,y,rfl,G,Y,Z⟩:=DV.t2 (show DV K H b3 (.tuple [Ak j,Ak p]) from b4)
 refine ⟨_,(Ah (Aw (i:=4) kI.nd (CZ (k:=4) (Jj (km T) v.m (Am (Ae Al (pv 1) Ab) Aa)) v.m (DG (Bh (Am (Ae Al (pv 1) Ab) (Ac (pv 2) Aa))) Aa))) (Aj (Ar (Ae Al (CZ (k:=4) (Jj (km T) v.m (Ac (pv 3) Aa)) v.m (BX (Ag (mY T) v.m Af (Ac (pv 0) (Ac (pv 4) Aa))) Aa)) Ab)))),?_⟩
 refine ⟨_,rfl,X,_,_,_,rfl,rfl,G,rfl,λ o l b6 a0 a1=>⟨o,l,y,rfl,Aq,rfl,?_⟩⟩
 have a2:Same H (upd H l (.own o)):=Ao a0 _;have I:upd H l (.own o) o=none:=by rw [BP (JE a1)];exact b6
 have z:=a2.trans (Ao I (.ins ad.Gap l [("length",y)]));rw [HY];have O:upd (upd H l (.own o)) o (.ins ad.Gap l [("length",y)]) o=some (.ins ad.Gap l [("length",y)]):=Aq;clear a2 I;generalize upd (upd H l (.own o)) o (.ins ad.Gap l [("length",y)])=a3 at z O ⊢;have R:=Y.keep z;have a4:=b5.keep z;refine ⟨o,_,l,_,_,_,rfl,O,rfl,VH (P:=P) (w:=w) (base:=base) T,?_⟩;refine ⟨_,rfl,X,_,_,_,rfl,rfl,G.keep z,rfl,_,rfl,(by show 2<=Y3;decide),λ F J=>?_⟩
 have S:=Ao J (.tup [N,M]);have a5:DV K (upd a3 F (.tup [N,M])) (.ref F) (BZ (j,u)):=DV.upd2 J R a4;generalize upd a3 F (.tup [N,M])=d2 at S a5 ⊢;refine ⟨.ref o,.ref F,.gap p,(j,u),m+m,m,rfl,trivial,.gap (S _ _ O) (Z.keep (z.trans S)),a5,Rb.of W x,bs,by omega,λ b7 r d3 L=>?_⟩
 have L:DV K r b7 (BZ (GC j p u)):=L;have by1:Bd (3 * m+1) (j+p * u):=(W.add (bs.mul x)).mono ∅
 have b8:Bd (2 * n+4 * m+2) (t.by (GC j p u)).1:=((tb.a.mul by1).add (tb.b.mul x)).mono ∅
 have b9:Bd (2 * n+4 * m+2) (t.by (GC j p u)).2:=((tb.c.mul by1).add (tb.d.mul x)).mono ∅
 refine ⟨_,rfl,λ g e a6 U V=>⟨g,e,q,rfl,Aq,rfl,?_⟩⟩
 have a7:Same r (upd r e (.own g)):=Ao U _;have B:upd r e (.own g) g=none:=by rw [BP (JE V)];exact a6
 have c0:=a7.trans (Ao B (.ins ad.Gap e [("length",q)]));rw [HY];have C:upd (upd r e (.own g)) g (.ins ad.Gap e [("length",q)]) g=some (.ins ad.Gap e [("length",q)]):=Aq;clear a7 B;generalize upd (upd r e (.own g)) g (.ins ad.Gap e [("length",q)])=d4 at c0 C ⊢;refine ⟨g,_,e,_,_,_,rfl,C,rfl,VH (P:=P) (w:=w) (base:=base) T,?_⟩;refine ⟨_,rfl,_,rfl,_,_,by walk_at "Zv",⟨t,GC j p u,n+3 * m+1,rfl,Tb.mono tb ∅,by1.mono ∅,x.mono ∅,by omega,rfl⟩,λ c1 c2 c3 a8=>?_⟩
 refine ⟨.ref g,c1,.gap T0,t.by (GC j p u),_,b1,rfl,trivial,.gap (c3 _ _ C) (show DV K c2 q _ from by walk_at "Zd"),a8,Rb.of b8 b9,b2,by omega,λ c4 c5 d5 D=>?_⟩
 have D:DV K c5 c4 (BZ ((Pc.gap T0).bent (t.by (GC j p u)))):=D
 obtain ⟨c6,d6,d7,rfl,a9,b0,c8⟩:=DV.t2 D;refine ⟨c6,_,_,_,rfl,rfl,a9,rfl,?_⟩;exact k _ _ (by walk_at "Zs") b0
theorem rO (T:Txt K mg ad):CalB P w K mg base true 6 "spots_of" ["bench","lamp","slants","t"] (PR K AO6):=by
 refine T.S7.calN lQ (λ _ _ _ _ _ _=>by4 λ _ _ _ _=>rfl) (λ vs H Q E h=>?_) (λ f y A outer s H vs Q E b h=>?_)
 ·obtain ⟨_,_,dv,⟨_,_,_,_,_,_,_,_,_,rfl,_⟩,_⟩:=h;exact dv.len
 obtain ⟨_,_,dv,⟨ps,j,l,u0,o,T0,n,m,p,rfl,z,d,bs,q,b1,e,le,rfl⟩,k⟩:=h;obtain ⟨I,J,u,L,rfl,M,N,v,O⟩:=dv.four;obtain ⟨sa,t1,t2,rfl,g,B,C⟩:=DV.t2 (show DV K H u (.tuple [Ak u0,Ak o]) from v)
 have tb:=R8 (m:=n) z.bd;have a:Tb (2+ps.length * (n+1)+n) (tabOf ps):=Tb.mono tb ∅
 have e0:=O3 a d bs q e;have e1:=O3 a d bs b1 e;refine ⟨_,(Ah (Aw (i:=4) lQ.nd (Ag (Gf T) b.m Af (Ac (pv 0) Aa))) (Aj (Ar (Ag (QR T) b.m Af (BX (Ag (zX T) b.m Af (Ac (pv 4) (Ac (pv 1) (Am (Ae Al (pv 2) Ab) (Ac (pv 3) Aa))))) (BX (Ag (zX T) b.m Af (Ac (pv 4) (Ac (pv 1) (Am (Ae Al (pv 2) Ab) (Ac (pv 3) Aa))))) Aa)))))),?_⟩
 refine ⟨_,rfl,_,_,by walk_at "Zv",⟨ps,n,rfl,z,by omega,rfl⟩,λ R S r D=>?_⟩
 refine ⟨_,rfl,_,rfl,_,rfl,sa,_,_,_,rfl,rfl,g.keep r,rfl,_,rfl,_,_,by walk_at "Zv",⟨_,j,l,u0,T0,_,m,p,rfl,a,d,bs,q,e,by omega,rfl⟩,λ U V x F=>?_⟩
 refine ⟨_,rfl,_,rfl,_,rfl,sa,_,_,_,rfl,rfl,g.keep (r.trans x),rfl,_,rfl,_,_,by walk_at "Zv",⟨_,j,l,o,T0,_,m,p,rfl,a,d,bs,b1,e,by omega,rfl⟩,λ W X Y G=>?_⟩
 exact ⟨_,_,by walk_at "Zv",⟨_,_,rfl,e0.sm ∅,e1.sm ∅,rfl⟩,λ Z a0 a1 t=>k _ _ (by walk_at "Zs") t⟩
theorem zp (T:Txt K mg ad):CalB P w K mg base true 7 "blur_of" ["bench","lamp","slants","t"] (PR K Ak6):=by
 refine T.Rq.calN pC (λ _ _ _ _ _ _=>by4 λ _ _ _ _=>rfl) (λ vs H Q E h=>?_) (λ f I A outer s H vs Q E t h=>?_)
 ·obtain ⟨_,_,dv,⟨_,_,_,_,_,_,_,_,_,rfl,_⟩,_⟩:=h;exact dv.len
 obtain ⟨_,_,dv,⟨ps,l,o,u0,u,T0,n,m,y,rfl,J,p,bs,v,b1,q,le,rfl⟩,k⟩:=h;obtain ⟨L,M,N,O,rfl,R,S,U,V⟩:=dv.four;have tb:=R8 (m:=n) J.bd;have g:Tb (2+ps.length * (n+1)+n) (tabOf ps):=Tb.mono tb ∅
 have e0:=O3 g p bs v q;have e1:=O3 g p bs b1 q;refine ⟨_,(Ah (Aw (i:=4) pC.nd (Ag (rO T) t.m Af (Ac (pv 0) (Ac (pv 1) (Ac (pv 2) (Ac (pv 3) Aa)))))) (Aj (Ar (Ag (Ge T) t.m Af (Am (Ae Al (pv 4) Ab) (Am (Ae Al (pv 4) Ab) Aa)))))),?_⟩
 refine ⟨_,rfl,_,rfl,_,rfl,_,rfl,_,_,by walk_at "Zv",⟨ps,l,o,u0,u,T0,n,m,y,rfl,J,p,bs,v,b1,q,le,rfl⟩,λ z B x d=>?_⟩
 have d:=qm d;obtain ⟨sa,t1,t2,rfl,j,a,b⟩:=DV.t2 (show DV K B z (.tuple [Ak _,Ak _]) from d)
 refine ⟨_,rfl,sa,_,_,_,rfl,rfl,j,rfl,_,rfl,sa,_,_,_,rfl,rfl,j,rfl,?_⟩;generalize hgt (tabOf ps) l o u0 T0=C at e0 a b k;generalize hgt (tabOf ps) l o u T0=D at e1 a b k;by_cases c:D < C
 ·rw [if_pos c] at a b k;exact ⟨_,_,.cons b (.cons a .nil),⟨_,_,rfl,e0.sm ∅,e1.sm ∅,rfl⟩,λ F G r e=>k _ _ (x.trans r) e⟩
 ·rw [if_neg c] at a b k;exact ⟨_,_,.cons b (.cons a .nil),⟨_,_,rfl,e1.sm ∅,e0.sm ∅,rfl⟩,λ F G r e=>k _ _ (x.trans r) e⟩
theorem Ac4 (T:Txt K mg ad):CalB P w K mg base true 3 "lesser_of" ["one","other"] (PR K vB):=by
 refine T.WM.calN AR2 (λ _ _ _ _ _ _=>Bg λ _ _=>rfl) (λ vs H Q E h=>?_) (λ f n A outer s H vs Q E d h=>?_)
 ·obtain ⟨_,_,dv,⟨_,_,rfl,_⟩,_⟩:=h;exact dv.len
 obtain ⟨_,_,dv,⟨p,q,rfl,sp,e,rfl⟩,k⟩:=h;obtain ⟨x,y,rfl,o,r⟩:=dv.two;refine ⟨_,(Aj (Ar (Ae Al (Ag (QR T) d.m Af (Ac (pv 0) (Ac (pv 1) Aa))) Ab))),?_⟩
 refine ⟨_,rfl,_,rfl,_,_,by walk_at "Zv",⟨_,_,rfl,sp,e,rfl⟩,λ g i j b=>?_⟩
 rw [T8] at b;obtain ⟨a,t,u,rfl,ha,l,v⟩:=DV.t2 (show DV K i g (.tuple [Ak _,Ak _]) from b)
 exact ⟨a,_,_,_,rfl,rfl,ha,rfl,k _ _ j l⟩
theorem wK (T:Txt K mg ad):CalB P w K mg base true 3 "greater_of" ["one","other"] (PR K RMx):=by
 refine T.Zx.calN AK9 (λ _ _ _ _ _ _=>Bg λ _ _=>rfl) (λ vs H Q E h=>?_) (λ f n A outer s H vs Q E d h=>?_)
 ·obtain ⟨_,_,dv,⟨_,_,rfl,_⟩,_⟩:=h;exact dv.len
 obtain ⟨_,_,dv,⟨p,q,rfl,sp,e,rfl⟩,k⟩:=h;obtain ⟨x,y,rfl,o,r⟩:=dv.two;refine ⟨_,(Aj (Ar (Ae Al (Ag (QR T) d.m Af (Ac (pv 0) (Ac (pv 1) Aa))) Ab))),?_⟩
 refine ⟨_,rfl,_,rfl,_,_,by walk_at "Zv",⟨_,_,rfl,sp,e,rfl⟩,λ g i j b=>?_⟩
 rw [T8] at b;obtain ⟨a,t,u,rfl,ha,v,l⟩:=DV.t2 (show DV K i g (.tuple [Ak _,Ak _]) from b)
 exact ⟨a,_,_,_,rfl,rfl,ha,rfl,k _ _ j l⟩
theorem gG {a:Nat}{p q:Rat}(h:Bd a p)(k:Bd a q):Bd a (mx p q):=by rcases Ur p q with e | e<;>rw [e]<;>assumption
theorem dG {a:Nat}{p q:Rat}(h:Bd a p)(k:Bd a q):Bd a (mn p q):=by rcases Vs p q with e | e<;>rw [e]<;>assumption
theorem AW9 (T:Txt K mg ad):CalB P w K mg base true 4 "slants_by" ["limit","lamp","first","last"] (PR K sU):=by
 refine T.WX.calN Hm (λ _ _ _ _ _ _=>by4 λ _ _ _ _=>rfl) (λ vs H Q E h=>?_) (λ f f9 A outer s H vs Q E d h=>?_)
 ·obtain ⟨_,_,dv,⟨_,_,_,_,_,_,_,_,rfl,_⟩,_⟩:=h;exact dv.len
 obtain ⟨_,_,dv,⟨l,u,a2,b4,b5,n,m,g0,rfl,lo,x,bs,b6,b7,h0,g1,rfl⟩,k⟩:=h;obtain ⟨h1,d7,d8,d9,rfl,e2,e3,e4,e5⟩:=dv.four;obtain ⟨q,b8,W,X,_⟩:=lo;obtain ⟨y,h2,h3,h4,h5,rfl,b9,h6,h7,h8,h9⟩:=DV.t5 e2;obtain ⟨c0,i0,i1,rfl,c2,i2,i3⟩:=DV.t2 (show DV K H d7 (.tuple [Ak u,Ak a2]) from e3)
 refine ⟨_,(Ah (Aw (i:=4) Hm.nd (Ag (Gz T) d.m Af (Am (Ae Al (pv 0) Ab) (Am (Ae Al (pv 1) Ab) Aa)))) (Ah (Aw (i:=5) Hm.nd (Ag (Ih T) d.m Af (BX (Ag (Gz T) d.m Af (Am (Ae Al (pv 0) Ab) (Am (Ae Al (pv 1) Ab) Aa))) (Am (Ae Al (pv 0) Ab) Aa)))) (Ah (Aw (i:=6) Hm.nd (Ag (Ge T) d.m Af (Am (Ae Al (pv 0) Ab) (Ac (pv 4) Aa)))) (Ah (Aw (i:=7) Hm.nd (Ag (Ge T) d.m Af (Am (Ae Al (pv 0) Ab) (Ac (pv 4) Aa)))) (Ah (BJ (BR (Gh d.units) (pv 5) (Bb (v:=.ref ad.NOUGHT) rfl T.ex.m_NOUGHT rfl)) (Aj (Ar (Fy (PW.pt (pw_and (Cd (Bs (Ag (Hj T) d.m Af (Ac (Bb (v:=.ref ad.NOUGHT) rfl T.ex.m_NOUGHT rfl) (Ac (pv 6) Aa))))) (pw_and1 (Cd (Bs (Ag (Hj T) d.m Af (Ac (pv 7) (Ac (Bb (v:=.ref ad.NOUGHT) rfl T.ex.m_NOUGHT rfl) Aa)))))))) (Bh (Ac (pv 2) (Ac (pv 3) Aa))) Ec))) BL) (Ah (Aw (i:=8) Hm.nd (Ag (QR T) d.m Af (BX (Ag (Jt T) d.m Af (Ac (pv 6) (Ac (pv 5) Aa))) (BX (Ag (Jt T) d.m Af (Ac (pv 7) (Ac (pv 5) Aa))) Aa)))) (Ah (Aw (i:=2) Hm.nd (Ag (wK T) d.m Af (Ac (pv 2) (Am (Ae Al (pv 8) Ab) Aa)))) (Ah (Aw (i:=3) Hm.nd (Ag (Ac4 T) d.m Af (Ac (pv 3) (Am (Ae Al (pv 8) Ab) Aa)))) (Aj (Ar (Fy (Bs (Ag (Hj T) d.m Af (Ac (pv 3) (Ac (pv 2) Aa)))) Ec (Bh (Ac (pv 2) (Ac (pv 3) Aa)))))))))))))),?_⟩
 refine ⟨_,rfl,y,_,_,_,rfl,rfl,b9,rfl,_,rfl,c0,_,_,_,rfl,rfl,c2,rfl,?_⟩;refine ⟨_,_,by walk_at "Zv",⟨_,_,rfl,q.sm ∅,x.sm ∅,rfl⟩,λ i4 i5 e6 c3=>?_⟩
 refine ⟨_,rfl,y,_,_,_,rfl,rfl,by walk_at "Zt",by rfl,_,rfl,c0,_,_,_,rfl,rfl,by walk_at "Zt",by rfl,?_⟩
 refine ⟨_,_,by walk_at "Zv",⟨_,_,rfl,q.sm ∅,bs.sm ∅,rfl⟩,λ i6 i7 e7 c4=>?_⟩
 refine ⟨_,rfl,y,_,_,_,rfl,rfl,by walk_at "Zt",by rfl,?_⟩
 refine ⟨_,_,by walk_at "Zv",⟨_,_,rfl,(q.mul bs).sm ∅,b8.sm ∅,rfl⟩,λ e8 i8 e9 c5=>?_⟩
 refine ⟨_,rfl,y,_,_,_,rfl,rfl,by walk_at "Zt",by rfl,_,rfl,?_⟩
 refine ⟨_,_,by walk_at "Zv",⟨_,_,rfl,W.sm ∅,(q.mul x).sm ∅,rfl⟩,λ f0 i9 f1 c6=>?_⟩
 refine ⟨_,rfl,y,_,_,_,rfl,rfl,by walk_at "Zt",by rfl,_,rfl,?_⟩
 refine ⟨_,_,by walk_at "Zv",⟨_,_,rfl,X.sm ∅,(q.mul x).sm ∅,rfl⟩,λ f2 o f3 Y=>?_⟩
 have B:=(q.mul bs).add b8;have bl:=W.sub (q.mul x);have N:=X.sub (q.mul x);have a3:DV K o e8 (Ak (l.a * a2+l.b)):=by walk_at "Zd"
 have a4:DV K o f0 (Ak (l.lo - l.a * u)):=by walk_at "Zd"
 have c7:DV K o f2 (Ak (l.hi - l.a * u)):=Y;have f4:=e4.keep (show Same H o from by walk_at "Zs")
 have f5:=e5.keep (show Same H o from by walk_at "Zs")
 have C:Same H o:=by walk_at "Zs"
 clear e6 e7 e9 f1 f3 c3 c4 c5 c6 Y;refine ⟨_,rfl,M6 a3 (dN T o) ⟨_,rfl,?_⟩⟩;unfold Ha at k;generalize l.a * a2+l.b=D at B a3 k ⊢;generalize l.lo - l.a * u=a5 at bl a4 k ⊢;generalize l.hi - l.a * u=a6 at N c7 k ⊢;by_cases g:D=0
 ·rw [if_pos g] at k;refine Bk (ζ g) ?_;have pair:∀O,Same o O->(2<=Y3/\∀p,O p=none->DV K (upd O p (.tup [d8,d9])) (.ref p) (pairD b4 b5)):=λ O s'=>⟨(by show 2<=Y3;decide),λ p r=>DV.upd2 r (f4.keep s') (f5.keep s')⟩
  refine ⟨_,rfl,_,_,.cons (dN T o) (.cons a4 .nil),⟨0,_,rfl,Sm.zero,bl.sm ∅,rfl⟩,λ b1 Z e c8=>?_⟩
  obtain rfl:=c8.bl_of;refine ⟨_,rfl,?_⟩;by_cases c1:0 < a5
  ·rw [if_neg (λ z=>z.1 c1)] at k
   rw [ζ c1];exact iteF (iteF (k _ _ (C.trans e) .non))
  ·rw [η c1];refine iteT ?_;refine ⟨_,rfl,_,_,.cons (c7.keep e) (.cons (dN T Z) .nil),⟨_,0,rfl,N.sm ∅,Sm.zero,rfl⟩,λ b2 F j c9=>?_⟩
   obtain rfl:=c9.bl_of;refine ⟨_,rfl,?_⟩;by_cases R:a6 < 0
   ·rw [if_neg (λ z=>z.2 R)] at k
    rw [ζ R];exact iteF (k _ _ (C.trans (e.trans j)) .non)
   ·rw [if_pos ⟨c1,R⟩] at k;rw [η R];refine iteT ⟨_,rfl,_,rfl,(pair F (e.trans j)).1,λ p r=>?_⟩
    exact k _ _ (C.trans (e.trans (j.trans (Ao r _)))) ((pair F (e.trans j)).2 p r)
 ·rw [if_neg g] at k;refine BV (η g) ?_;have S:Bd g0 (a5 / D):=(bl.div B g).mono ∅
  have U:Bd g0 (a6 / D):=(N.div B g).mono ∅
  refine ⟨_,rfl,_,rfl,_,_,.cons a4 (.cons a3 .nil),⟨_,_,rfl,bl.sm ∅,B.sm ∅,g,rfl⟩,λ g2 Z e a7=>?_⟩
  refine ⟨_,rfl,_,rfl,_,_,by walk_at "Zv",⟨_,_,rfl,N.sm ∅,B.sm ∅,g,rfl⟩,λ g3 F j a8=>?_⟩
  generalize a5 / D=e0 at S a7 k;generalize a6 / D=e1 at U a8 k;refine ⟨_,_,by walk_at "Zv",⟨_,_,rfl,S.sm ∅,U.sm ∅,rfl⟩,λ d0 d1 a0 G=>?_⟩
  rw [T8] at G;obtain ⟨d2,t1,t2,rfl,a1,d3,d4⟩:=DV.t2 (show DV K d1 d0 (.tuple [Ak _,Ak _]) from G)
  have a9:=dG S U;have b0:=gG S U;generalize mn e0 e1=f6 at a9 d3 k;generalize mx e0 e1=f7 at b0 d4 k;refine ⟨_,rfl,_,rfl,d2,_,_,_,rfl,rfl,a1,rfl,_,_,by walk_at "Zv",⟨_,_,rfl,b6.sm ∅,a9.sm ∅,rfl⟩,λ g4 g5 I J=>?_⟩
  refine ⟨_,rfl,_,rfl,d2,_,_,_,rfl,rfl,a1.keep I,rfl,_,_,by walk_at "Zv",⟨_,_,rfl,b7.sm ∅,b0.sm ∅,rfl⟩,λ g6 g7 L M=>?_⟩
  have d5:=gG b6 a9;have d6:=dG b7 b0;generalize mx b4 f6=f8 at d5 J k;generalize mn b5 f7=b1 at d6 M k;refine ⟨_,rfl,_,rfl,_,_,by walk_at "Zv",⟨_,_,rfl,d6.sm ∅,d5.sm ∅,rfl⟩,λ g8 g9 t b3=>?_⟩
  obtain rfl:=b3.bl_of;refine ⟨_,rfl,?_⟩;by_cases V:b1 < f8
  ·rw [if_pos V] at k;exact Bk (ζ V) (k _ _ (Dk t (Dk L (Dk I (Dk a0 (Dk j (Dk e C)))))) .non)
  ·rw [if_neg V] at k;refine BV (η V) ⟨_,rfl,_,rfl,(by show 2<=Y3;decide),λ p r=>?_⟩
   exact k _ _ (Gq r (Dk t (Dk L (Dk I (Dk a0 (Dk j (Dk e C))))))) (DV.upd2 r (J.keep (L.trans t)) (M.keep t))
theorem zY (T:Txt K mg ad):CalB P w K mg base true 4 "look_at_stretch" ["first","last"] (PR K qT):=by
 refine T.aq.calN AJ0 (λ _ _ _ _ _ _=>Bg λ _ _=>rfl) (λ vs H Q E h=>?_) (λ f j A outer s H vs Q E a h=>?_)
 ·obtain ⟨_,_,dv,⟨_,_,rfl,_⟩,_⟩:=h;exact dv.len
 obtain ⟨_,_,dv,⟨p,q,rfl,sp,d,ord,rfl⟩,k⟩:=h;obtain ⟨x,y,rfl,e,g⟩:=dv.two;refine ⟨_,(Aj (BJ (Cd (Bs (Ag (jU T) a.m Af (Ac (pv 0) (Ac (pv 1) Aa))))) (Aj Dh) BL)),?_⟩
 refine ⟨_,rfl,_,rfl,_,_,.cons e (.cons g .nil),⟨_,_,rfl,sp,d,xE.mp ord,rfl⟩,λ b l i hb=>?_⟩
 obtain rfl:=hb.bl_of;exact ⟨_,rfl,iteF (k _ _ i .non)⟩
theorem cj (T:Txt K mg ad):CalB P w K mg base true 6 "slants_of" ["bench","lamp","first","last"] (PR K uJ):=by
 refine T.RG.calN Mx (λ _ _ _ _ _ _=>by4 λ _ _ _ _=>rfl) (λ vs H Q E h=>?_) (λ f c6 A outer s H vs Q E S h=>?_)
 ·obtain ⟨_,_,dv,⟨_,_,_,_,_,_,_,_,rfl,_⟩,_⟩:=h;exact dv.len
 obtain ⟨_,_,dv,⟨ps,y,z,U,V,n,m,Z,rfl,c7,a0,bs,a1,a2,ord,W,a3,rfl⟩,k⟩:=h;obtain ⟨b8,b9,B,C,rfl,c0,c1,c9,d0⟩:=dv.four;refine ⟨_,(Ah (Aw (i:=4) Mx.nd (Ag (lE T) S.m Af (Ac (pv 0) Aa))) (Ah (Cq (Ag (zY T) S.m Af (Ac (pv 2) (Ac (pv 3) Aa)))) (Ah (Aw (i:=5) Mx.nd (Bh (Ac (pv 2) (Ac (pv 3) Aa)))) (Ah (Dj YR rfl (Dt (pv 4)) (Bp (i:=6) Mx.nd) (Ah (Aw (i:=5) Mx.nd (Ag (AW9 T) S.m Af (Ac (pv 6) (Ac (pv 1) (Am (Ae Al (pv 5) Ab) (Am (Ae Al (pv 5) Ab) Aa)))))) (Aj (BJ (BR Gi (pv 5) Ec) (Aj (Ar Ec)) BL)))) (Aj (Ar (pv 5))))))),?_⟩
 refine ⟨_,rfl,_,ps,n,rfl,c0,c7,by omega,λ l a4 d1 a5 d2 hl M=>?_⟩
 have t:a4.length=(Bv ps).length:=by have:=M.len;rw [Y2] at this;exact this
 have hok:∀x∈Bv ps,LimOk (2+ps.length * (n+1)+n) x:=uE c7.bd;refine ⟨_,rfl,_,rfl,_,_,by walk_at "Zv",⟨_,_,rfl,a1.sm ∅,a2.sm ∅,ord,rfl⟩,λ d3 a6 D _=>?_⟩
 refine ⟨_,rfl,_,rfl,(by show 2<=Y3;decide),λ X N=>?_⟩
 have F:=Ao N (.tup [B,C]);have a7:DV K (upd a6 X (.tup [B,C])) (.ref X) (pairD U V):=DV.upd2 N (by walk_at "Zd") (by walk_at "Zd")
 have u:=(D.trans F) _ _ hl;have p:=M.keep (D.trans F);have t3:=a5.trans (D.trans F);clear F D a5;generalize upd a6 X (.tup [B,C])=c2 at a7 u p t3 ⊢;generalize Bv ps=ls at hok p t k;refine ⟨_,rfl,l,rfl,⟨_,SqL.of u⟩,?_⟩;refine GX (K:=K) (a:=l) (xs:=a4) (λ i G q=>∃I r g j,G=[some b8,some b9,some B,some C,some (.ref l),some r,I]/\Same c2 q/\DV K q r (pairD g j)/\Bd Z g/\Bd Z j/\Fz ls y z U V=Fz (ls.drop i) y z g j) ⟨_,_,U,V,rfl,Same.refl _,a7,a1,a2,rfl⟩ ?_ ?_ ?_
 ·rintro i G q hi ⟨I,r,g,j,rfl,o,_⟩
  exact SqL.of (o _ _ u)
 ·rintro i x G q hi ⟨I,r,g,j,rfl,o,v,b1,b2,es⟩
  obtain ⟨d,hd,c3⟩:=p.get hi;obtain ⟨Y,O,rfl⟩:=jf hd;have ok:=hok _ (ZI O);rw [yR O] at es;obtain ⟨sa,t1,t2,rfl,R,a8,a9⟩:=DV.t2 (show DV K q r (.tuple [Ak g,Ak j]) from v)
  refine ⟨_,rfl,_,rfl,_,rfl,sa,_,_,_,rfl,rfl,R,rfl,_,rfl,sa,_,_,_,rfl,rfl,R,rfl,?_⟩;refine ⟨_,_,.cons (c3.keep o) (.cons (c1.keep (t3.trans o)) (.cons a8 (.cons a9 .nil))),⟨Y,y,z,g,j,_,m,Z,rfl,ok,a0,bs,b1,b2,W,a3,rfl⟩,λ b0 b5 b6 b=>?_⟩
  cases e:Ha Y y z g j with
  | none=>
   rw [e] at b es;obtain rfl:=DV.non_of b;refine ⟨_,rfl,rfl,_,rfl,Bk ⋯ (k _ _ (t3.trans (o.trans b6)) ?_)⟩
   rw [es];exact .non
  | some pr=>
   obtain ⟨J,L⟩:=pr;rw [e] at b es;have b:DV K b5 b0 (pairD J L):=b;obtain ⟨c4,c5,_⟩:=jw e;have b7:=wB (ls:=[Y]) (λ l hl=>by rw [X8.mp hl];exact ok) a0 bs
   have b3:Bd Z J:=by
    rcases X1.mp c4 with rfl | h
    ·exact b1
    ·exact (b7 _ h).mono W
   have b4:Bd Z L:=by
    rcases X1.mp c5 with rfl | h
    ·exact b2
    ·exact (b7 _ h).mono W
   obtain ⟨d4,d5,d6,rfl,c8,_,_⟩:=DV.t2 (show DV K b5 b0 (.tuple [Ak J,Ak L]) from b)
   exact ⟨_,rfl,rfl,_,rfl,BV (by simp) ⟨_,_,J,L,rfl,o.trans b6,b,b3,b4,es⟩⟩
 ·rintro G q ⟨I,r,g,j,rfl,o,v,b1,b2,es⟩
  refine ⟨_,rfl,k _ _ (t3.trans o) ?_⟩;rw [es,t,List.drop_length];exact v
theorem gW (T:Txt K mg ad):CalB P w K mg base true 8 "sharp_places" ["bench","lamp","slants","most"] (PR K Aa6):=by
 refine T.ZV.calN NK (λ _ _ _ _ _ _=>by4 λ _ _ _ _=>rfl) (λ vs H Q E h=>?_) (λ f b9 A outer s H vs Q E d h=>?_)
 ·obtain ⟨_,_,dv,⟨_,_,_,rfl,_⟩,_⟩:=h;exact dv.len
 obtain ⟨_,_,dv,⟨ps,x,m,rfl,a1,a2,a,a3,y,rfl⟩,k⟩:=h;obtain ⟨a4,a5,a6,I,rfl,d7,a7,a8,d8⟩:=dv.four;obtain ⟨J,d9,a9,rfl,N,c0,c1⟩:=DV.t2 (show DV K H a5 (.tuple [Ak x.h,Ak x.s]) from a7)
 obtain ⟨sa,t1,t2,rfl,c2,c3,c4⟩:=DV.t2 (show DV K H a6 (.tuple [Ak x.f,Ak x.l]) from a8)
 have tb:=cP a1 a2;obtain ⟨c5,sp2⟩:=Jw tb a;refine ⟨_,(Ah (Aw (i:=4) NK.nd (Ag (Gf T) d.m Af (Ac (pv 0) Aa))) (Ah (Aw (i:=5) NK.nd (Ag (Gz T) d.m Af (Am (Ae Al (Ag (ZR T) d.m Af (Ac (pv 4) (Am (Ae Al (pv 1) Ab) Aa))) Ab) (BX (Ag (Ge T) d.m Af (Am (Ae Al (pv 2) Ab) (Am (Ae Al (pv 2) Ab) Aa))) Aa)))) (Ah (BJ (BR (Gh d.units) (pv 5) (Bb (v:=.ref ad.NOUGHT) rfl T.ex.m_NOUGHT rfl)) (Aj (Ar (Fy (Bs (Ag (Hj T) d.m Af (Ac (pv 3) (BX (Ag (zp T) d.m Af (Ac (pv 0) (Ac (pv 1) (Ac (pv 2) (Ac (Bb (v:=.ref ad.NOUGHT) rfl T.ex.m_NOUGHT rfl) Aa))))) Aa)))) (Bb (v:=.ref ad.NOWHERE) rfl T.ex.m_NOWHERE rfl) (Bb (v:=.ref ad.EVERYWHERE) rfl T.ex.m_EVERYWHERE rfl)))) BL) (Ah (BJ (Bs (Ag (Hj T) d.m Af (Ac (pv 3) (Ac (Bb (v:=.ref ad.NOUGHT) rfl T.ex.m_NOUGHT rfl) Aa)))) (Aj (Ar (Bb (v:=.ref ad.NOWHERE) rfl T.ex.m_NOWHERE rfl))) BL) (Ah (Aw (i:=6) NK.nd (Ag (RZ T) d.m Af (Ac (pv 4) (Am (Ae Al (pv 1) Ab) Aa)))) (Ah (Aw (i:=7) NK.nd (Ag (Jt T) d.m Af (Ac (pv 3) (DG (Bh (BX (Br K8 rfl T.abs Jd (Am (Ae Al (pv 5) Ab) Aa)) (Am (Ae Al (pv 5) Ab) Aa))) Aa)))) (Aj (Ar (Bh (Ac (Bb (v:=.str "from") rfl T.ex.m_FROM ⟨_,rfl⟩) (BX (Ag (Ge T) d.m Af (Ac (pv 6) (Ac (pv 7) Aa))) (BX (Ag (Ih T) d.m Af (Ac (pv 6) (Ac (pv 7) Aa))) Aa)))))))))))),?_⟩
 refine ⟨_,rfl,_,_,by walk_at "Zv",⟨ps,18,rfl,a1,by omega,rfl⟩,λ b0 e0 b1 c6=>?_⟩
 refine ⟨_,rfl,_,rfl,J,_,_,_,rfl,rfl,N.keep b1,rfl,_,_,by walk_at "Zv",⟨tabOf ps,x.s,309,rfl,Tb.mono tb ⋯,a.s.mono ⋯,by decide,rfl⟩,λ e1 e2 e3 O=>?_⟩
 obtain ⟨b2,e4,e5,rfl,R,c7,c8⟩:=DV.t2 O;refine ⟨b2,_,_,_,rfl,rfl,R,rfl,?_⟩;refine ⟨_,rfl,sa,_,_,_,rfl,rfl,by walk_at "Zt",by rfl,_,rfl,sa,_,_,_,rfl,rfl,by walk_at "Zt",by rfl,_,_,by walk_at "Zv",⟨_,_,rfl,a.l.sm ⋯,a.f.sm ⋯,rfl⟩,λ e6 e7 e8 c9=>?_⟩
 refine ⟨_,_,by walk_at "Zv",⟨_,_,rfl,sp2.sm ⋯,(a.l.sub a.f).sm ⋯,rfl⟩,λ b3 e e9 o=>?_⟩
 have o:DV K e b3 (Ak (growing (tabOf ps) x)):=o;have b4:=f9 tb a;refine ⟨_,rfl,M6 o (dN T e) ⟨_,rfl,?_⟩⟩;unfold Pa at k;by_cases g:growing (tabOf ps) x=0
 ·rw [if_pos g] at k;refine Bk (ζ g) ?_;refine ⟨_,rfl,_,rfl,_,rfl,_,rfl,_,_,.cons (show DV K e a4 (Dg ps) from by walk_at "Zd") (.cons (show DV K e (.ref J) (pairD x.h x.s) from by walk_at "Zd") (.cons (show DV K e (.ref sa) (pairD x.f x.l) from by walk_at "Zd") (.cons (dN T e) .nil))),⟨ps,x.h,x.s,x.f,x.l,0,18,160,1,rfl,a1,a.h.mono ⋯,a.s.mono ⋯,a.f,a.l,Ed 1 ⋯,by omega,rfl⟩,λ S r b5 j=>?_⟩
  have j:DV K r S (Ak (HQ (tabOf ps) x 0)):=by rw [<- tW];exact j
  have b6:=rR tb a (Ed 12 ⋯)
  refine ⟨_,_,.cons (show DV K r I (Ak m) from by walk_at "Zd") (.cons j .nil),⟨_,_,rfl,y.sm ⋯,b6.sm ⋯,rfl⟩,λ p q U b=>?_⟩
  obtain rfl:=b.bl_of;refine ⟨_,rfl,?_⟩;by_cases c:m < HQ (tabOf ps) x 0
  ·rw [if_pos c] at k;exact Bk (ζ c) (k _ _ (by walk_at "Zs") (.tup (T.ex.s_NOWHERE _) (.cons (.str _) .nil)))
  ·rw [if_neg c] at k;exact BV (η c) (k _ _ (by walk_at "Zs") (.tup (T.ex.s_EVERYWHERE _) (.cons (.str _) .nil)))
 ·rw [if_neg g] at k;refine BV (η g) ?_;refine ⟨_,rfl,_,_,.cons (show DV K e I (Ak m) from by walk_at "Zd") (.cons (dN T e) .nil),⟨_,_,rfl,y.sm ⋯,Sm.zero,rfl⟩,λ S r b5 j=>?_⟩
  obtain rfl:=j.bl_of;refine ⟨_,rfl,BV (η (xE.mpr a3)) ?_⟩;refine ⟨_,rfl,_,rfl,J,_,_,_,rfl,rfl,by walk_at "Zt",by rfl,_,_,.cons (show DV K r b0 (Cj (tabOf ps)) from by walk_at "Zd") (.cons (show DV K r a9 (Ak x.s) from by walk_at "Zd") .nil),⟨tabOf ps,x.s,309,rfl,Tb.mono tb ⋯,Ft ps,a.s.mono ⋯,by decide,rfl⟩,λ p q U b=>?_⟩
  have b7:(spread (tabOf ps) x.s).2≠0:=λ z=>g (by unfold growing;rw [z,yi])
  have b:DV K q p (Ak (mid (tabOf ps) x.s)):=by
   unfold img at b;rw [if_neg b7] at b;exact b
  obtain ⟨V,rfl,d0⟩:=o.fr;refine ⟨_,rfl,_,rfl,V,_,_,_,rfl,rfl,by walk_at "Zt",by rfl,_,rfl,_,rfl,V,_,_,_,rfl,rfl,by walk_at "Zt",by rfl,(by show 2<=Y3;decide),λ t L=>?_⟩
  have W:=Ao L (.tup [.int (if (growing (tabOf ps) x).num < 0 then -(growing (tabOf ps) x).num else (growing (tabOf ps) x).num),.int ((growing (tabOf ps) x).den:Int)])
  have B:DV K (upd q t (.tup [.int (if (growing (tabOf ps) x).num < 0 then -(growing (tabOf ps) x).num else (growing (tabOf ps) x).num),.int ((growing (tabOf ps) x).den:Int)])) (.ref t) (Ak (ab (growing (tabOf ps) x))):=by
   rw [mC];exact .tup (SqT.of Aq) (.cons (.int _) (.cons (.int _) .nil))
  generalize upd q t (.tup [.int (if (growing (tabOf ps) x).num < 0 then -(growing (tabOf ps) x).num else (growing (tabOf ps) x).num),.int ((growing (tabOf ps) x).den:Int)])=X at W B ⊢
  refine ⟨_,_,.cons (show DV K X I (Ak m) from by walk_at "Zd") (.cons B .nil),⟨_,_,rfl,y.sm ⋯,(Lg b4).sm ⋯,λ z=>g (ab_zero.mp z),rfl⟩,λ C D d1 n=>?_⟩
  have n:DV K D C (Ak (reach (tabOf ps) x m)):=n;have F:=mW tb a g y;have Y:=jK tb a g;refine ⟨_,rfl,_,rfl,_,_,.cons (show DV K D p (Ak (mid (tabOf ps) x.s)) from by walk_at "Zd") (.cons n .nil),⟨_,_,rfl,Y.sm ⋯,F.sm ⋯,rfl⟩,λ Z G d2 b8=>?_⟩
  refine ⟨_,rfl,_,rfl,_,_,.cons (show DV K G p (Ak (mid (tabOf ps) x.s)) from by walk_at "Zd") (.cons (show DV K G C (Ak (reach (tabOf ps) x m)) from by walk_at "Zd") .nil),⟨_,_,rfl,Y.sm ⋯,F.sm ⋯,rfl⟩,λ a0 d3 d4 M=>?_⟩
  refine ⟨(by show 3<=Y3;decide),λ d5 u=>?_⟩
  have d6:=Ao u (.tup [.str "from",Z,a0])
  exact k _ _ (by walk_at "Zs") (DV.upd3 u (.str _) (by walk_at "Zd") M)
theorem oA (T:Txt K mg ad):CalB P w K mg base true 6 "rounds_of" ["table"] (PR K Ab0):=by
 refine T.Yw.calN Qo (λ _ _ _ _ _ _=>by1 λ _=>rfl) (λ vs H Q E h=>?_) (λ f B A outer s H vs Q E e h=>?_)
 ·obtain ⟨_,_,dv,⟨_,_,rfl,_⟩,_⟩:=h;exact dv.len
 obtain ⟨_,_,dv,⟨t,n,rfl,tq,g,C,rfl⟩,k⟩:=h;obtain ⟨x,rfl,q⟩:=dv.one;refine ⟨_,(Ah (Cq (Ag (Pu T) e.m Af (Ac (pv 0) Aa))) (Ah (Aw (i:=1) Qo.nd (Bb (v:=.ref ad.LEAVING) rfl T.ex.m_LEAVING rfl)) (Ah (Dj YR rfl (Af6 rfl T.range (Bj Ab (CJ (Ax DW (Bb (v:=.int 6) rfl T.ex.m_MOST_ROUNDS_OF_FRACTIONS ⟨_,rfl⟩) Ab) Aa))) (Bp (i:=2) Qo.nd) (Ah (Aw (i:=1) Qo.nd (Ag (qC T) e.m Af (Ac (pv 1) (Ac (pv 0) Aa)))) (Aj (BJ (BR (Gh e.units) (pv 1) (Bb (v:=.ref ad.LEAVING) rfl T.ex.m_LEAVING rfl)) (Aj (Ar (pv 2))) BL)))) (Aj (Ar Ec))))),?_⟩
 refine ⟨_,rfl,_,_,.cons q .nil,⟨t,n,rfl,tq.tb,by omega,g,rfl⟩,λ D F r _=>?_⟩
 refine ⟨_,_,rfl,rfl,1,7,rfl,⟨by decide,by decide,by decide,by decide⟩,?_⟩
 refine QB (lo:=1) (n:=6) (λ i j b=>∃l pv,j=[some x,some pv,l]/\Same H b/\DV K b pv (Cj (t.pow i))/\lst t i=none) ⟨_,_,rfl,r,dL T _,rfl⟩ ?_ ?_
 ·rintro i j b hi ⟨l,pv,rfl,d,o,hl⟩
  have u:=(tq.pow i).mono (show 1+i * (n+1)<=1900 by have:i * (n+1)<=6 * 301:=qB ∅ ∅;omega)
  refine ⟨_,rfl,_,rfl,_,_,by walk_at "Zv",⟨t.pow i,t,1900,rfl,u.tb,(tq.mono ∅).tb,by decide,rfl⟩,λ y z p a=>?_⟩
  have a:DV K z y (Cj (t.pow (i+1))):=a;refine ⟨_,rfl,gQ a (dL T _) ⟨_,rfl,?_⟩⟩;have ls:=gU hl;by_cases he:t.pow (i+1)=Tab.id
  ·rw [if_pos he] at ls;refine Bk (ζ he) ⟨_,rfl,k _ _ (d.trans p) ?_⟩;rw [cB ls 6 ∅,show (1:Int)+(i:Int)=((i+1:Nat):Int) by omega]
   exact .int _
  ·rw [if_neg he] at ls;exact BV (η he) ⟨_,_,rfl,d.trans p,a,ls⟩
 ·rintro j b ⟨l,pv,rfl,d,o,hl⟩
  refine k _ _ d ?_;rw [hl];exact .non
end
end K69
namespace K69
open PySem L2 Lib Fr Op Tx PySem.NumText
seal PE PT PW PA PS PSs PG PGs PI PO CP PJ
section
variable {P:YA}{w:World}{K:FrG}{mg:Y1->Option Value}{base:Heap}{ad:Adr}{c:Bool}
theorem Rm (T:Txt K mg ad):CalB P w K mg base true 1 "show_ratio" ["one"] (RX K):=by
 refine T.Xo.calN Su (λ _ _ _ _ _ _=>by1 λ _=>rfl) (λ vs H Q E h=>?_) (λ f k A outer s H vs Q E l h=>?_)
 ·obtain ⟨_,_,rfl,_⟩:=h;rfl
 obtain ⟨v,p,rfl,hv,sp,q⟩:=h;have b:=Nk sp.1;have hd:=Nk sp.2;obtain ⟨a,m,n,rfl,h,e1,e2⟩:=DV.t2 (show DV K H v (.tuple [.int p.num,.int (p.den:Int)]) from hv)
 obtain rfl:=DV.int_of e1;obtain rfl:=DV.int_of e2;refine ⟨_,(Ah (Aw (i:=1) Su.nd (Ae Al (pv 0) Ab)) (Ah (Aw (i:=2) Su.nd (Ae Al (pv 0) Ab)) (Ah (BJ (BR Bq (pv 2) Ab) (Aj (Ar (Ga aR rfl T.str HR (Ac (pv 1) Aa)))) BL) (Aj (Ar (Ac8 (gH (pv 1) (Aa8 (gH (pv 2) Aa1))))))))),?_⟩;refine ⟨_,rfl,a,_,_,_,rfl,rfl,h,rfl,?_⟩;refine ⟨_,rfl,a,_,_,_,rfl,rfl,h,rfl,?_⟩;refine ⟨_,rfl,rfl,_,rfl,?_⟩;have e1:∀x:Y1,cl x=sh p->x=Ay p:=λ x j=>ext (j.trans (Iv p).symm)
 refine ite2 (λ c1=>?_) (λ c1=>?_)
 ·have d:p.den=1:=by
   have z:decide (V.int (p.den:Int)=V.int 1)=true:=c1;rw [GJ] at z;have:=of_decide_eq_true z;omega
  refine ⟨_,rfl,_,rfl,b,?_⟩;have e2:Z7 (toString p.num)=Ay p:=e1 _ (by rw [Kv];unfold sh;rw [if_pos d,Xg])
  show Q (.str (Z7 (toString p.num))) H;rw [e2];exact q
 ·have d:¬ p.den=1:=by
   intro e
   apply c1
   show decide (V.int (p.den:Int)=V.int 1)=true;rw [GJ,e];rfl
  have g:((p.den:Int)).natAbs.log2 < 1920:=by rw [YO];exact hd
  have o:=Ro b;have r:=Ro g;have z0:uQ.length=0:=rfl;have zs:(Z7 "/").length=1:=rfl;refine ⟨_,rfl,_,.inl ⟨_,rfl,b,rfl⟩,CT (by rw [Cm];omega),CT (by rw [Cm,Cm];omega),_,rfl,_,.inl ⟨_,rfl,g,rfl⟩,CT (by rw [Cm,Cm,Cm];omega),CT (by rw [Cm,Cm,Cm];omega),?_⟩
  have e2:=e1 _ (show cl ((uQ++Z7 (toString p.num))++(Z7 "/")++Z7 (toString ((p.den:Nat):Int)))=sh p by
   rw [tE,cl,zv];unfold sh;rw [if_neg d])
  show Q (.str ((uQ++Z7 (toString p.num))++(Z7 "/")++Z7 (toString ((p.den:Nat):Int)))) H;rw [e2];exact q
theorem AV3 (T:Txt K mg ad):CalB P w K mg base true 1 "read_part_figures" ["text"] uU:=by
 refine T.W6.calN AQ5 (λ _ _ _ _ _ _=>by1 λ _=>rfl) (λ vs H Q E h=>?_) (λ f g A outer s H vs Q E i h=>?_)
 ·obtain ⟨_,_,rfl,_⟩:=h;rfl
 obtain ⟨x,m,rfl,b,hl,q⟩:=h;have j:x.length=(dg m).length:=by rw [<- Du,b]
 have k:=Aa7 m;have hz:x.length<=Y3:=XG (small1000 ∅)
 refine ⟨_,(Ah (BJ (PW.pt (pw_or (Cd (bQ Pk Pk Ab (Br lN rfl T.len Dc (Ac (pv 0) Aa)) (Bb (v:=.int 15) rfl T.ex.m_MOST_FIGURES ⟨_,rfl⟩))) (pw_or1 (Cd (Bs (Br (Np rfl) rfl T.all Qw (DY (fW rfl (pv 0) T.ex.m_FIGURES ⋯ ⋯ rfl ⋯ rfl rfl rfl rfl) Aa))))))) (Aj Dh) BL) (Aj (Ar (Ga Yl rfl T.int JM (Ac (pv 0) Aa))))),?_⟩
 refine ⟨_,rfl,x,rfl,hz,_,_,rfl,rfl,_,rfl,Bk (ζ ∅) ⟨_,_,rfl,rfl,_,rfl,BV (by rw [ζ ∅];rfl) ?_⟩⟩
 refine ⟨_,rfl,x,rfl,hz,λ p d=>?_⟩
 refine ⟨p,(cl x).map λ c=>decide (48<=c/\c<=57),rfl,SqL.of (by rw [Ad6];exact Aq),_,rfl,?_⟩
 have a:Mp (cl x):=by rw [b];exact HW m
 rw [(zE (cl x)).mpr a];refine iteF ⟨_,rfl,x,(m:Int),rfl,by omega,?_,q _ (Ao d _)⟩
 have e:=intText_digits (x:=x) a (λ e=>by have:=Du x;rw [cl,e] at this;simp at this;omega) ∅
 rw [e];show some ((digitsVal (cl x):Nat):Int)=some (m:Int);rw [b,Xp]
theorem eO (T:Txt K mg ad):CalB P w K mg base true 3 "read_ratio" ["text"] (Uy K):=by
 refine T.X4.calN K6 (λ _ _ _ _ _ _=>by1 λ _=>rfl) (λ vs H Q E h=>?_) (λ f S A outer s H vs Q E g h=>?_)
 ·obtain ⟨_,rfl,_⟩:=h;rfl
 obtain ⟨q,rfl,C,k⟩:=h;have hl:=kY q C;have ex:cl (Ay q)=sh q:=Iv q;have Y:(Ay q).length<=40:=by rw [<- Du,ex];exact hl
 have U:=(Fp (m:=q.num.natAbs) (k:=15) ⋯).mpr C.n
 have Z:=(Fp (m:=q.den) (k:=15) ⋯).mpr C.d
 have hz:(Ay q).length+2<=Y3:=XG (small1000 ∅)
 obtain ⟨a3,a0,W⟩:∃t,PSs (Eu true P w K mg base ["text","is_below","parts","top","bottom","one"] "read_ratio" (defScope Ma) f S A outer s H E).nox ((defBody Ma).drop 3) t/\∀(p:Addr) (ps:List Y1) (J:Hp) (a1:Ends),J p=some (.lst (ps.map V.str))->ps.map cl=cut 47 (bd q)->(∀v D,Same J D->DV K D v (Ak q)->a1.rt v D)->
   t a1 [some (.str (Ay q)),some (.bl (decide (q.num < 0))),some (.ref p),none,none,none] J:=by
  refine ⟨_,(Ah (BJ (BR Hu (Br Do rfl T.len Dc (Ac (pv 2) Aa)) Ab) (Aj Dh) BL) (Ah (Aw (i:=3) K6.nd (Ag (AV3 T) g.m Af (Am (Ae BK (pv 2) Ab) Aa))) (Ah (Aw (i:=4) K6.nd (Fy (BR Bq (Br Do rfl T.len Dc (Ac (pv 2) Aa)) Ab) (Ag (AV3 T) g.m Af (Am (Ae BK (pv 2) Ab) Aa)) Ab)) (Ah (Aw (i:=5) K6.nd (Bh (yt (Fy (Bs (pv 1)) (Ax Gm Ab (pv 3)) (pv 3)) (Ac (pv 4) Aa)))) (Ah (BJ (PW.pt (pw_or (Cd (Bs (Ag (Ou T) g.m Af (Ac (pv 5) Aa)))) (pw_or1 (BR FZ (Ag (Rm T) g.m Af (Ac (pv 5) Aa)) (pv 0))))) (Aj Dh) BL) (Aj (Ar (pv 5)))))))),?_⟩
  intro p ps J a1 e a k;rw [sr] at a;have j:(if q.num < 0 then (0:Int) - ((q.num.natAbs:Nat):Int) else ((q.num.natAbs:Nat):Int))=q.num:=by split<;>omega
  have I:∀(B:Hp) (r:Addr),B r=none->∀v:Int,v=q.num->Same J B->DV K (upd B r (.tup [.int v,.int ((q.den:Nat):Int)])) (.ref r) (Ak q)/\Same J (upd B r (.tup [.int v,.int ((q.den:Nat):Int)])):=λ B r g v hv N=>by
   subst hv;exact ⟨.tup (SqT.of Aq) (.cons (.int _) (.cons (.int _) .nil)),N.trans (Ao g _)⟩
  by_cases hd:q.den=1
  ·rw [if_pos hd] at a
   match ps,a,e with
   | [z],a,e=>
    have O:cl z=dg q.num.natAbs:=(WH a).1;refine ⟨_,rfl,p,_,rfl,.inl (SqL.of e),_,_,rfl,rfl,_,rfl,BV (by rfl) ?_⟩
    refine ⟨_,rfl,p,_,_,_,rfl,rfl,SqL.of e,Ek,z,q.num.natAbs,rfl,O,U,λ R G=>?_⟩
    refine ⟨_,rfl,p,_,rfl,.inl (SqL.of (G _ _ e)),rfl,_,rfl,BV (by rfl) ?_⟩
    have e1:((1:Nat):Int)=((q.den:Nat):Int):=by rw [hd]
    refine ⟨_,rfl,_,rfl,?_⟩;by_cases l:q.num < 0
    ·rw [if_pos l] at j;refine Bk (ζ l) ⟨_,rfl,_,_,rfl,rfl,_,rfl,(by show 2<=Y3;decide),λ r g=>?_⟩
     obtain ⟨b,o⟩:=I R r g _ j G;rw [<- e1] at b o;exact ⟨_,rfl,.ref r,q,rfl,b,⟨_,rfl,iteF ⟨_,rfl,.ref r,q,rfl,b,Hk C,_,rfl,rfl,_,rfl,BV (by rw [ζ rfl];rfl) ⟨_,rfl,k _ _ o b⟩⟩⟩⟩
    ·rw [if_neg l] at j;refine BV (η l) ⟨_,rfl,_,rfl,(by show 2<=Y3;decide),λ r g=>?_⟩
     obtain ⟨b,o⟩:=I R r g _ j G;rw [<- e1] at b o;exact ⟨_,rfl,.ref r,q,rfl,b,⟨_,rfl,iteF ⟨_,rfl,.ref r,q,rfl,b,Hk C,_,rfl,rfl,_,rfl,BV (by rw [ζ rfl];rfl) ⟨_,rfl,k _ _ o b⟩⟩⟩⟩
   | [],a,_=>simp at a
   | _::_::_,a,_=>simp at a
  ·rw [if_neg hd] at a
   match ps,a,e with
   | [z,y],a,e=>
    have O:cl z=dg q.num.natAbs:=(WH a).1;have a2:cl y=dg q.den:=(WH (WH a).2).1;refine ⟨_,rfl,p,_,rfl,.inl (SqL.of e),_,_,rfl,rfl,_,rfl,BV (by rfl) ?_⟩
    refine ⟨_,rfl,p,_,_,_,rfl,rfl,SqL.of e,Ek,z,q.num.natAbs,rfl,O,U,λ R G=>?_⟩
    refine ⟨_,rfl,p,_,rfl,.inl (SqL.of (G _ _ e)),rfl,_,rfl,Bk (by rfl) ?_⟩
    refine ⟨_,rfl,p,_,_,_,rfl,rfl,SqL.of (G _ _ e),rfl,y,q.den,rfl,a2,Z,λ B N=>?_⟩
    have M:=G.trans N;refine ⟨_,rfl,_,rfl,?_⟩;by_cases l:q.num < 0
    ·rw [if_pos l] at j;refine Bk (ζ l) ⟨_,rfl,_,_,rfl,rfl,_,rfl,(by show 2<=Y3;decide),λ r g=>?_⟩
     obtain ⟨b,o⟩:=I B r g _ j M;exact ⟨_,rfl,.ref r,q,rfl,b,⟨_,rfl,iteF ⟨_,rfl,.ref r,q,rfl,b,Hk C,_,rfl,rfl,_,rfl,BV (by rw [ζ rfl];rfl) ⟨_,rfl,k _ _ o b⟩⟩⟩⟩
    ·rw [if_neg l] at j;refine BV (η l) ⟨_,rfl,_,rfl,(by show 2<=Y3;decide),λ r g=>?_⟩
     obtain ⟨b,o⟩:=I B r g _ j M;exact ⟨_,rfl,.ref r,q,rfl,b,⟨_,rfl,iteF ⟨_,rfl,.ref r,q,rfl,b,Hk C,_,rfl,rfl,_,rfl,BV (by rw [ζ rfl];rfl) ⟨_,rfl,k _ _ o b⟩⟩⟩⟩
   | [],a,_=>simp at a
   | [_],a,_=>simp at a
   | _::_::_::_,a,_=>simp at a
 refine ⟨_,(Ah (BJ (Cd (Bs (Br Ff rfl T.isinstance Fv (Ac (pv 0) (Ac (Fg (v:=.ty "str") rfl T.str HR rfl) Aa))))) (Aj Dh) BL) (Ah (Aw (i:=1) K6.nd (Ca Yr PySem.F.slot_str_startswith PySem.F.type_str_startswith vh (pv 0) (Bj Ba Aa))) (Ah (Aw (i:=2) K6.nd (Fy (Bs (pv 1)) (Ca Yr XV Wm Hw (Ea O8 (pv 0) (Cu Ab) FJ) (Bj Ba Aa)) (Ca Yr XV Wm Hw (pv 0) (Bj Ba Aa)))) a0))),?_⟩;have st:∀x:Y1,ql x (Z7 "-")=decide ((cl x).head?=some 45):=λ x=>by rw [zJ,Af8]
 have X:∀x:Y1,(Xt x (Z7 "/")).map cl=cut 47 (cl x):=λ x=>by rw [AR9,KD]
 refine ⟨_,rfl,_,_,_,_,rfl,.str _,K7 _,_,rfl,iteF ?_⟩;refine ⟨_,rfl,rfl,_,_,rfl,rfl,?_⟩;have e1:ql (Ay q) (Z7 "-")=decide (q.num < 0):=by rw [st,ex,AJ4]
 rw [e1];refine ⟨_,rfl,_,rfl,?_⟩;have L:=uo q;by_cases u:q.num < 0
 ·refine Bk (ζ u) ?_;have a4:(Ug (Ay q) (some 1) none).length<=40:=ZE (Txt.slice_le _ _ _) Y;refine ⟨_,rfl,_,rfl,Ay q,rfl,CT ∅,rfl,_,_,rfl,rfl,rfl,CT ∅,λ p e=>?_⟩
  rw [if_pos u] at L;exact W p _ _ _ Aq (by rw [X,AY6,ex,L]) λ v D s' hv=>k v D ((Ao e _).trans s') hv
 ·refine BV (η u) ?_;refine ⟨_,rfl,rfl,_,_,rfl,rfl,rfl,CT ∅,λ p e=>?_⟩
  rw [if_neg u] at L;exact W p _ _ _ Aq (by rw [X,ex,L]) λ v D s' hv=>k v D ((Ao e _).trans s') hv
theorem wM (T:Txt K mg ad):CalB P w K mg base true 4 "read_number_texts" ["word"] (Uy K):=by
 refine T.WP.calN Ai7 (λ _ _ _ _ _ _=>by1 λ _=>rfl) (λ vs H Q E h=>?_) (λ f d A outer s H vs Q E a h=>?_)
 ·obtain ⟨_,rfl,_⟩:=h;rfl
 obtain ⟨q,rfl,b,k⟩:=h;refine ⟨_,(Aj (fC (eO T) a.m (Ac (pv 0) Aa))),?_⟩
 exact ⟨_,rfl,q,rfl,b,k⟩
theorem tV (T:Txt K mg ad):MkC P w K mg base 1 "Reader" ad.Reader ["self","words"] (zj ad.Reader):=by
 refine T.ex.i_Reader.mkc zQ (λ _ _ _ _ _ _=>Bg λ _ _=>rfl) (λ vs H Q E h=>?_) (λ f e A outer s H vs Q E g h=>?_)
 ·obtain ⟨a,b,d,rfl,_⟩:=h;rfl
 obtain ⟨a,b,d,rfl,ha,q⟩:=h;refine ⟨_,(Ah (J8 (pv 0) (pv 1)) (Aj (J8 (pv 0) Ab))),?_⟩;refine ⟨_,rfl,_,rfl,a,ad.Reader,b,[],rfl,ha,T.ex.l_Reader,T.ex.n_Reader_words,by decide,?_⟩
 refine ⟨_,rfl,a,ad.Reader,b,[("words",.ref d)],rfl,Aq,T.ex.l_Reader,T.ex.n_Reader_place,by show 1 < 1000;decide,?_⟩
 rw [HY];exact q
theorem U8 (T:Txt K mg ad):MC P w K mg base 1 ad.Reader "is_done" ["self"] (AJ8 ad.Reader):=by
 refine T.ex.q_Reader_is_done.mc q9 (λ _ _ _ _ _ _=>by1 λ _=>rfl) (λ vs H Q E h=>?_) (λ f j A outer s H vs Q E k h=>?_)
 ·obtain ⟨_,_,_,_,_,rfl,_⟩:=h;rfl
 obtain ⟨a,d,g,e,i,rfl,b,q⟩:=h;refine ⟨_,(Aj (Ar (Dr Bq (Fi (pv 0)) (Br Do rfl T.len Dc (DY (Fi (pv 0)) Aa))))),?_⟩;refine ⟨_,rfl,a,_,d,_,_,rfl,b.r,T.ex.l_Reader,T.ex.n_Reader_place,rfl,_,rfl,a,_,d,_,_,rfl,b.r,T.ex.l_Reader,T.ex.n_Reader_words,rfl,g,_,rfl,.inl (SqL.of b.w),rfl,?_⟩;rw [GJ,Y2,show decide (((i:Nat):Int)=((e.length:Nat):Int))=decide (i=e.length) from decide_eq_decide.mpr ⟨λ h=>by omega,λ h=>by omega⟩]
 exact q
theorem MK (T:Txt K mg ad):MC P w K mg base 2 ad.Reader "take" ["self"] (yW ad.Reader):=by
 refine T.ex.q_Reader_take.mc xR (λ _ _ _ _ _ _=>by1 λ _=>rfl) (λ vs H Q E h=>?_) (λ f o A outer s H vs Q E l h=>?_)
 ·obtain ⟨_,_,_,_,_,_,rfl,_⟩:=h;rfl
 obtain ⟨a,b,j,n,i,z,rfl,d,hz,q⟩:=h;have p:=CQ hz;refine ⟨_,(Ah (BJ (Bs (Ik (k:=1) (pv 0) l.m)) (Aj Dh) BL) (Ah (bY (pv 0) Ab lD) (Aj (Ar (Ae BK (Fi (pv 0)) (Ax Gm (Fi (pv 0)) Ab)))))),?_⟩
 refine ⟨_,rfl,a,_,b,_,_,_,rfl,d.r,rfl,U8 T,a,b,j,n,i,rfl,d,_,rfl,BV (η ∅) ?_⟩
 refine ⟨_,rfl,a,_,b,_,_,rfl,d.r,T.ex.l_Reader,T.ex.n_Reader_place,rfl,_,_,rfl,rfl,b,_,d.r,by show 2 < 1000;decide,?_⟩
 have g:=d.step (i+1);have e:((i:Int)+1)=((i+1:Nat):Int):=by omega
 rw [e];refine ⟨_,rfl,a,_,b,_,_,rfl,g.r,T.ex.l_Reader,T.ex.n_Reader_words,rfl,_,rfl,a,_,b,_,_,rfl,g.r,T.ex.l_Reader,T.ex.n_Reader_place,rfl,_,_,rfl,rfl,j,_,_,.str z,rfl,rfl,SqL.of g.w,?_,q⟩;have e2:((i+1:Nat):Int) - 1=(i:Int):=by omega
 rw [e2];exact Bu (by rw [Yf,hz];rfl)
theorem zP (T:Txt K mg ad):MC P w K mg base 2 ad.Reader "take_if" ["self","word"] (yL ad.Reader):=by
 refine T.ex.q_Reader_take_if.mc vK (λ _ _ _ _ _ _=>Bg λ _ _=>rfl) (λ vs H Q E h=>?_) (λ f t A outer s H vs Q E o h=>?_)
 ·obtain ⟨_,_,_,_,_,_,rfl,_⟩:=h;rfl
 obtain ⟨a,g,l,b,i,z,rfl,d,le,p,n⟩:=h;refine ⟨_,(Ah (BJ (PW.pt (pw_or (Bs (Ik (k:=1) (pv 0) o.m)) (pw_or1 (BR FZ (Ae BK (Fi (pv 0)) (Fi (pv 0))) (pv 1))))) (Aj (Ar Dn)) BL) (Ah (bY (pv 0) Ab lD) (Aj (Ar Dn)))),?_⟩
 refine ⟨_,rfl,a,_,g,_,_,_,rfl,d.r,rfl,U8 T,a,g,l,b,i,rfl,d,_,rfl,?_⟩;by_cases hi:i=b.length
 ·refine Bk (ζ hi) (iteT (n λ e=>?_))
  have:=CQ e;omega
 ·refine BV (η hi) ?_;have q:i < b.length:=by omega
  have j:b[i]?=some b[i]:=Yi q;refine ⟨_,rfl,a,_,g,_,_,rfl,d.r,T.ex.l_Reader,T.ex.n_Reader_words,rfl,_,rfl,a,_,g,_,_,rfl,d.r,T.ex.l_Reader,T.ex.n_Reader_place,rfl,l,_,_,.str b[i],rfl,rfl,SqL.of d.w,Bu (by rw [Yf,j];rfl),_,rfl,rfl,_,rfl,?_⟩
  by_cases hz:b[i]=z
  ·refine BV (by rw [Cy,ζ hz];rfl) ?_
   refine ⟨_,rfl,a,_,g,_,_,rfl,d.r,T.ex.l_Reader,T.ex.n_Reader_place,rfl,_,_,rfl,rfl,g,_,d.r,by show 2 < 1000;decide,?_⟩
   have e:((i:Int)+1)=((i+1:Nat):Int):=by omega
   rw [e];exact p (by rw [j,hz])
  ·exact Bk (by rw [Cy,η hz];rfl) (n (by rw [j];exact λ e=>hz (XU e)))
theorem Aj3 (T:Txt K mg ad):CalB P w K mg base true 1 "words_of" ["text"] vA:=by
 refine T.Qy.calN Tf (λ _ _ _ _ _ _=>by1 λ _=>rfl) (λ vs H Q E h=>?_) (λ f W A outer s H vs Q E X h=>?_)
 ·obtain ⟨_,rfl,_⟩:=h;rfl
 obtain ⟨x,rfl,O,R,I,q⟩:=h;refine ⟨_,(Ah (Aw (i:=1) Tf.nd (CW Aa)) (Ah (Dj YR rfl (Dt (Ca Yr XV Wm Hw (pv 0) (Bj Ba Aa))) (Bp (i:=2) Tf.nd) (Aj (BJ (Bs (Ca Yr PySem.F.slot_str_endswith PySem.F.type_str_endswith AY4 (pv 2) (Ac (Bb (v:=.str ";") rfl T.ex.m_PARTED ⟨_,rfl⟩) Aa))) (Ah (Cq (Ca YY Xq Xs Fq (pv 1) (Am (Ea O8 (pv 2) FJ (Cu (W9 WW Ab))) Aa))) (Aj (Cq (Ca YY Xq Xs Fq (pv 1) (Ac (Bb (v:=.str ";") rfl T.ex.m_PARTED ⟨_,rfl⟩) Aa))))) (Aj (Cq (Ca YY Xq Xs Fq (pv 1) (Ac (pv 2) Aa))))))) (Aj (Ar (pv 1))))),?_⟩;refine ⟨(by show 0<=Y3;decide),λ l hl=>?_⟩
 have u0:=Ao hl (.lst []);have y:upd H l (.lst []) l=some (.lst []):=Aq;generalize upd H l (.lst [])=J at u0 y ⊢;refine ⟨_,rfl,rfl,x,_,rfl,rfl,rfl,O,λ p n=>⟨p,rfl,⟨_,SqL.of Aq⟩,?_⟩⟩
 have B:p≠l:=λ e=>by rw [e,y] at n;cases n
 have C:upd J p (.lst ((Xt x (Z7 " ")).map V.str)) p=some (.lst ((Xt x (Z7 " ")).map V.str)):=Aq;have L:=Ao n (.lst ((Xt x (Z7 " ")).map V.str)) _ _ y;have M:=u0.trans (Ao n (.lst ((Xt x (Z7 " ")).map V.str)));generalize upd J p (.lst ((Xt x (Z7 " ")).map V.str))=Y at C L M ⊢;generalize Z:Xt x (Z7 " ")=j at R I q C ⊢;have S:∀i,(DR (j.take i)).length<=40002:=by
  intro i;have a0:∀D:List Y1,(DR D).length<=2 * D.length:=by
   intro D
   induction D with
   | nil=>exact ZY _
   | cons w D a1=>
    have e:DR (w::D)=Eo w++DR D:=by unfold DR;rw [YJ,QY]
    rw [e,X9,X2];have:(Eo w).length<=2:=by unfold Eo;split<;>simp
    omega
  have:=a0 (j.take i);rw [YG] at this;omega
 have step:∀(i:Nat) (z:Y1),j[i]?=some z->DR (j.take (i+1))=DR (j.take i)++Eo z:=by
  intro i z hz;rw [YU,hz];unfold DR;rw [ZB,List.flatten_append];simp
 refine GX (K:=K) (a:=p) (xs:=j.map V.str) (λ i o d=>∃r,o=[some (.str x),some (.ref l),r]/\Same H d/\d p=some (.lst (j.map V.str))/\d l=some (.lst ((DR (j.take i)).map V.str))) ⟨_,rfl,M,C,by rw [NR];exact L⟩ ?_ ?_ ?_
 ·rintro i o d hi ⟨r,rfl,k,g,b⟩
  exact SqL.of g
 ·rintro i v o d hi ⟨r,rfl,k,g,b⟩
  rw [Yf] at hi;cases t:j[i]? with
  | none=>rw [t] at hi;cases hi
  | some z=>
   rw [t] at hi;cases hi
   have es:=step i z t;have a2:=S i;have U:z.length<=Y3:=ZE (I z (ZI t)) ⋯
   refine ⟨_,rfl,rfl,z,_,rfl,rfl,_,rfl,?_⟩;cases he:FY z (Z7 ";") with
   | true=>
    have G:Eo z=[Ug z none (some (-1)),Z7 ";"]:=by unfold Eo;rw [if_pos he]
    refine iteT ⟨_,rfl,.inl ⟨rfl,_,SqL.of b⟩,_,rfl,_,rfl,_,rfl,z,rfl,U,l,_,_,rfl,rfl,b,Y9 (by rw [Y2];omega),?_⟩
    have m:upd d l (.lst ((DR (j.take i)).map V.str++[.str (Ug z none (some (-1)))])) l=some (.lst ((DR (j.take i)).map V.str++[.str (Ug z none (some (-1)))])):=Aq;have u:upd d l (.lst ((DR (j.take i)).map V.str++[.str (Ug z none (some (-1)))])) p=some (.lst (j.map V.str)):=by rw [BP B];exact g
    have N:=PX k hl (.lst ((DR (j.take i)).map V.str++[.str (Ug z none (some (-1)))]));generalize upd d l (.lst ((DR (j.take i)).map V.str++[.str (Ug z none (some (-1)))]))=a3 at m u N ⊢;refine ⟨_,rfl,.inl ⟨rfl,_,SqL.of m⟩,l,_,_,rfl,rfl,m,Y9 (by rw [X9,Y2];simp only [X2,YH];omega),?_⟩
    refine ⟨_,rfl,PX N hl _,by rw [BP B];exact u,?_⟩
    rw [Aq,es,G,ZB,XB];rfl
   | false=>
    have G:Eo z=[z]:=by unfold Eo;rw [if_neg (by rw [he];exact ZM)]
    refine iteF ⟨_,rfl,.inl ⟨rfl,_,SqL.of b⟩,_,rfl,l,_,_,rfl,rfl,b,Y9 (by rw [Y2];omega),?_⟩
    refine ⟨_,rfl,PX k hl _,by rw [BP B];exact g,?_⟩
    rw [Aq,es,G,ZB];rfl
 ·rintro o d ⟨r,rfl,k,g,b⟩
  rw [Y2,YX] at b;exact ⟨_,rfl,q l d k hl b⟩
theorem lA {q:Rat}(h:Short q):Bd 50 q:=by
 have a:(10:Nat) ^ 15<=2 ^ 50:=by decide
 exact ⟨Y4 h.n a,Y4 h.d a⟩
theorem zz (T:Txt K mg ad):CalB P w K mg base true 5 "read_part_texts" ["reader","deep"] (ux K ad.Reader):=by
 have S:=T.Vp.not (P:=P) (w:=w) (base:=base) (k:=0) Af5 (λ _ _ _ _ _ _=>Mz λ _ _ _=>rfl)
 refine T.Ww.calN O2 (λ _ _ _ _ _ _=>Bg λ _ _=>rfl) (λ vs H Q E h=>?_) (λ f a2 A outer s H vs Q E n h=>?_)
 ·obtain ⟨_,_,_,_,_,_,_,rfl,_⟩:=h;rfl
 obtain ⟨a,b,d,l,i,p,dp,rfl,M,tk,ps,k⟩:=h;refine ⟨_,(Ah (Aw (i:=2) O2.nd (Ik (k:=2) (pv 0) n.m)) (Ah (BJ (PW.pt (pw_or (BR Bq (pv 2) (Bb (v:=.str "gap") rfl T.ex.m_GAP ⟨_,rfl⟩)) (pw_or1 (BR Bq (pv 2) (Bb (v:=.str "glass") rfl T.ex.m_GLASS ⟨_,rfl⟩))))) (Aj (Ar (Bh (Ac (pv 2) (BX (Ag (wM T) n.m Af (BX (Ik (k:=2) (pv 0) n.m) Aa)) Aa))))) BL) (Ah (BJ (BR FZ (pv 2) (Bb (v:=.str "stop") rfl T.ex.m_STOP ⟨_,rfl⟩)) (Aj (Ar (Ag S n.m Af (Ac (pv 0) (Ac (pv 2) (Ac (pv 1) Aa)))))) BL) (Ah (Aw (i:=3) O2.nd (Ag (wM T) n.m Af (BX (Ik (k:=2) (pv 0) n.m) Aa))) (Ah (Aw (i:=4) O2.nd (Ag (wM T) n.m Af (BX (Ik (k:=2) (pv 0) n.m) Aa))) (Ah (BJ (Cd (Bs (Ag (cT T) n.m Af (DG (Bh (Ac (Bb (v:=.str "stop") rfl T.ex.m_STOP ⟨_,rfl⟩) (Ac (pv 3) (Ac (pv 4) Aa)))) Aa)))) (Aj Dh) BL) (Aj (Ar (Bh (Ac (Bb (v:=.str "stop") rfl T.ex.m_STOP ⟨_,rfl⟩) (Ac (pv 3) (Ac (pv 4) Aa)))))))))))),?_⟩
 have Z:l[i]?=some (wd p):=tk 0 (wd p) rfl;refine ⟨_,rfl,a,_,b,_,_,_,rfl,M.r,rfl,MK T,a,b,d,l,i,wd p,rfl,M,Z,?_⟩;have e:=M.step (i+1);have z:SD a H (upd H a (DK ad.Reader b d (i+1))):=Im _;generalize upd H a (DK ad.Reader b d (i+1))=o at e z ⊢;cases p with
 | gap q=>
  have N:Short q:=ps.2 q (by simp [fracs])
  have t1:l[i+1]?=some (Ay q):=tk 1 (Ay q) rfl;refine ⟨_,rfl,rfl,_,rfl,Bk (by rw [Cy];exact ζ rfl) (iteT ?_)⟩
  refine ⟨_,rfl,_,rfl,a,_,b,_,_,_,rfl,e.r,rfl,MK T,a,b,d,l,i+1,Ay q,rfl,e,t1,?_⟩;have g:=e.step (i+1+1);have j:SD a o (upd o a (DK ad.Reader b d (i+1+1))):=Im _;generalize upd o a (DK ad.Reader b d (i+1+1))=U at g j ⊢;refine ⟨q,rfl,N,λ v C D hv=>⟨(by show 2<=Y3;decide),λ t x=>?_⟩⟩
  have u:=D.trans (Ao x (.tup [.str (Z7 "gap"),v]));exact k _ _ ((z.trans j).trans (Lib.SD.ofSame u)) (g.keep u) (DV.upd2 x (.str _) hv)
 | glass q=>
  have N:Short q:=ps.2 q (by simp [fracs])
  have t1:l[i+1]?=some (Ay q):=tk 1 (Ay q) rfl;have O:wd (.glass q)≠Z7 "gap":=by show Z7 "glass"≠_;decide+kernel
  refine ⟨_,rfl,rfl,_,rfl,BV (by rw [Cy];exact η O) ⟨_,rfl,rfl,_,rfl,Bk (by rw [Cy];exact ζ rfl) ?_⟩⟩
  refine ⟨_,rfl,_,rfl,a,_,b,_,_,_,rfl,e.r,rfl,MK T,a,b,d,l,i+1,Ay q,rfl,e,t1,?_⟩;have g:=e.step (i+1+1);have j:SD a o (upd o a (DK ad.Reader b d (i+1+1))):=Im _;generalize upd o a (DK ad.Reader b d (i+1+1))=U at g j ⊢;refine ⟨q,rfl,N,λ v C D hv=>⟨(by show 2<=Y3;decide),λ t x=>?_⟩⟩
  have u:=D.trans (Ao x (.tup [.str (Z7 "glass"),v]));exact k _ _ ((z.trans j).trans (Lib.SD.ofSame u)) (g.keep u) (DV.upd2 x (.str _) hv)
 | stop lo hi=>
  have V:Short lo:=ps.2 lo (by simp [fracs])
  have W:Short hi:=ps.2 hi (by simp [fracs])
  have t1:l[i+1]?=some (Ay lo):=tk 1 (Ay lo) rfl;have t2:l[i+2]?=some (Ay hi):=tk 2 (Ay hi) rfl;have O:wd (.stop lo hi)≠Z7 "gap":=by show Z7 "stop"≠_;decide+kernel
  have a0:wd (.stop lo hi)≠Z7 "glass":=by show Z7 "stop"≠_;decide+kernel
  refine ⟨_,rfl,rfl,_,rfl,BV (by rw [Cy];exact η O) ⟨_,rfl,rfl,_,rfl,BV (by rw [Cy];exact η a0) ?_⟩⟩
  refine ⟨_,rfl,rfl,_,rfl,BV (by rw [Cy,ζ (show wd (.stop lo hi)=Z7 "stop" from rfl)];rfl) ?_⟩
  refine ⟨_,rfl,a,_,b,_,_,_,rfl,e.r,rfl,MK T,a,b,d,l,i+1,Ay lo,rfl,e,t1,?_⟩;have g:=e.step (i+1+1);have j:SD a o (upd o a (DK ad.Reader b d (i+1+1))):=Im _;generalize upd o a (DK ad.Reader b d (i+1+1))=U at g j ⊢;refine ⟨lo,rfl,V,λ v C D hv=>?_⟩
  have B:=g.keep D;refine ⟨_,rfl,a,_,b,_,_,_,rfl,B.r,rfl,MK T,a,b,d,l,i+1+1,Ay hi,rfl,B,t2,?_⟩;have I:=B.step (i+1+1+1);have F:SD a C (upd C a (DK ad.Reader b d (i+1+1+1))):=Im _;have J:DV K (upd C a (DK ad.Reader b d (i+1+1+1))) v (Ak lo):=Er (VB B.r F) (Mr _) hv;generalize upd C a (DK ad.Reader b d (i+1+1+1))=a3 at I F J ⊢;refine ⟨hi,rfl,W,λ y a4 R X=>?_⟩
  have L:=J.keep R;refine ⟨_,rfl,_,rfl,(by show 3<=Y3;decide),λ t x=>?_⟩
  have u:=Ao x (.tup [.str (Z7 "stop"),v,y]);refine ⟨.ref t,.stop lo hi,50,rfl,.tup (SqT.of Aq) (.cons (.str _) (.cons (L.keep u) (.cons (X.keep u) .nil))),ps.1,⟨lA V,lA W⟩,by decide,λ a5 a1=>⟨_,rfl,iteF ?_⟩⟩
  refine ⟨_,rfl,_,rfl,(by show 3<=Y3;decide),λ t2 Y=>?_⟩
  have G:=(u.trans a1).trans (Ao Y (.tup [.str (Z7 "stop"),v,y]));refine k _ _ ((((z.trans j).trans (Lib.SD.ofSame D)).trans F).trans (Lib.SD.ofSame (R.trans G))) (I.keep (R.trans G)) (.tup (SqT.of Aq) (.cons (.str _) (.cons (L.keep G) (.cons (X.keep G) .nil))))
theorem wj (T:Txt K mg ad):CalB P w K mg base true 2 "count_of" ["parts"] (Ad8 K):=by
 have C:=T.PP.not (P:=P) (w:=w) (base:=base) (k:=0) MN (λ _ _ _ _ _ _=>by1 λ _=>rfl)
 refine T.PP.calN MN (λ _ _ _ _ _ _=>by1 λ _=>rfl) (λ vs H Q E h=>?_) (λ f J A outer s H vs Q E D h=>?_)
 ·obtain ⟨_,_,rfl,_⟩:=h;rfl
 obtain ⟨v,ps,rfl,hv,q⟩:=h;obtain ⟨b,xs,rfl,hb,o⟩:=hv.lst_of;have hl:xs.length=ps.length:=by have:=o.len;rw [Y2] at this;exact this
 refine ⟨_,(Ah (Aw (i:=1) MN.nd Ab) (Ah (Dj YR rfl (Dt (pv 0)) (Bp (i:=2) MN.nd) (Aj (qK (i:=1) MN.nd rfl (Or.inl rfl) (Fy (BR Bq (Ae Al (pv 2) Ab) (Bb (v:=.str "times") rfl T.ex.m_TIMES ⟨_,rfl⟩)) (Ax JP (Ae Al (pv 2) Ab) (Ag C D.m Af (Am (Ae Al (pv 2) Ab) Aa))) Ab) AZ4))) (Aj (Ar (pv 1))))),?_⟩
 refine ⟨_,rfl,b,rfl,⟨_,hb⟩,?_⟩;refine GX (K:=K) (a:=b) (xs:=xs) (λ i l e=>∃n,l=[some (.ref b),some (.int (i:Int)),n]/\e=H) ⟨_,rfl,rfl⟩ ?_ ?_ ?_
 ·rintro i l e hi ⟨n,rfl,rfl⟩
  exact hb
 ·rintro i x l e hi ⟨n,rfl,rfl⟩
  obtain ⟨d,hd,p⟩:=o.get hi;obtain ⟨r,L,rfl⟩:=Hg hd;obtain ⟨t,u,y,rfl,g,e0,ne⟩:∃(t:Addr) (u:Y1) (y:List V),x=.ref t/\SqT K e t (.str u::y)/\u=wd r/\wd r≠Z7 "times":=by
   cases r with
   | gap F=>
    obtain ⟨t,z,B,rfl,g,j,_⟩:=DV.t2 (show DV K e x (.tuple [.str "gap",Ak F]) from p)
    obtain rfl:=DV.str_of j;exact ⟨t,_,_,rfl,g,rfl,by show Z7 "gap"≠_;decide+kernel⟩
   | glass F=>
    obtain ⟨t,z,B,rfl,g,j,_⟩:=DV.t2 (show DV K e x (.tuple [.str "glass",Ak F]) from p)
    obtain rfl:=DV.str_of j;exact ⟨t,_,_,rfl,g,rfl,by show Z7 "glass"≠_;decide+kernel⟩
   | stop G I=>
    obtain ⟨t,z,B,M,rfl,g,j,_,_⟩:=DV.t3 (show DV K e x (.tuple [.str "stop",Ak G,Ak I]) from p)
    obtain rfl:=DV.str_of j;exact ⟨t,_,_,rfl,g,rfl,by show Z7 "stop"≠_;decide+kernel⟩
  subst e0;refine ⟨_,rfl,_,rfl,t,_,_,_,rfl,rfl,g,Ek,rfl,_,rfl,BV (by rw [Cy];exact η ne) ⟨_,_,rfl,rfl,?_⟩⟩
  exact ⟨_,by show [some (V.ref b),some (V.int ((i:Int)+1)),some (V.ref t)]=_;rfl,rfl⟩
 ·rintro l e ⟨n,rfl,rfl⟩
  rw [hl];exact ⟨_,rfl,q⟩
theorem AY9 {H:Hp}{x:V}{d:Pc}(e:DV K H x (Bm d)):∃(t:Addr) (h:List V),x=.ref t/\SqT K H t (.str (wd d)::h)/\wd d≠Z7 "times":=by
 cases d with
 | gap i=>
  obtain ⟨t,f,g,rfl,a,b,_⟩:=DV.t2 (show DV K H x (.tuple [.str "gap",Ak i]) from e)
  obtain rfl:=DV.str_of b;exact ⟨t,_,rfl,a,by show Z7 "gap"≠_;decide+kernel⟩
 | glass i=>
  obtain ⟨t,f,g,rfl,a,b,_⟩:=DV.t2 (show DV K H x (.tuple [.str "glass",Ak i]) from e)
  obtain rfl:=DV.str_of b;exact ⟨t,_,rfl,a,by show Z7 "glass"≠_;decide+kernel⟩
 | stop j k=>
  obtain ⟨t,f,g,l,rfl,a,b,_,_⟩:=DV.t3 (show DV K H x (.tuple [.str "stop",Ak j,Ak k]) from e)
  obtain rfl:=DV.str_of b;exact ⟨t,_,rfl,a,by show Z7 "stop"≠_;decide+kernel⟩
theorem AG3 (T:Txt K mg ad):CalB P w K mg base true 2 "told_out" ["parts"] (uO K):=by
 have C:=T.Oz.not (P:=P) (w:=w) (base:=base) (k:=0) Q4 (λ _ _ _ _ _ _=>by1 λ _=>rfl)
 refine T.Oz.calN Q4 (λ _ _ _ _ _ _=>by1 λ _=>rfl) (λ vs H Q E h=>?_) (λ f L A outer s H vs Q E D h=>?_)
 ·obtain ⟨_,_,rfl,_⟩:=h;rfl
 obtain ⟨v,ps,rfl,hv,M,q⟩:=h;obtain ⟨b,xs,rfl,hb,r⟩:=hv.lst_of;have hl:xs.length=ps.length:=by have:=r.len;rw [Y2] at this;exact this
 refine ⟨_,(Ah (Aw (i:=1) Q4.nd (CW Aa)) (Ah (Dj YR rfl (Dt (pv 0)) (Bp (i:=2) Q4.nd) (Aj (BJ (BR FZ (Ae Al (pv 2) Ab) (Bb (v:=.str "times") rfl T.ex.m_TIMES ⟨_,rfl⟩)) (Aj (Cq (Ca YY Xq Xs Fq (pv 1) (Ac (pv 2) Aa)))) (Aj (BJ (BR Hu (Ae Al (pv 2) Ab) Ab) (Aj (Cq (Ca YY PySem.F.slot_list_extend PySem.F.type_list_extend AV2 (pv 1) (CJ (Ax gK (Ag C D.m Af (Am (Ae Al (pv 2) Ab) Aa)) (Ae Al (pv 2) Ab)) Aa)))) BL))))) (Aj (Ar (pv 1))))),?_⟩
 refine ⟨(by show 0<=Y3;decide),λ l u=>?_⟩
 have u0:=Ao u (.lst []);have y:Bx K H l [] (upd H l (.lst [])):=⟨u0,u,[],Aq,.nil⟩;generalize upd H l (.lst [])=N at u0 y ⊢;refine ⟨_,rfl,b,rfl,⟨_,hb.keep u0⟩,?_⟩;refine GX (K:=K) (a:=b) (xs:=xs) (λ i j g=>∃o,j=[some (.ref b),some (.ref l),o]/\Bx K H l (ps.take i) g) ⟨_,rfl,by rw [NR];exact y⟩ ?_ ?_ ?_
 ·rintro i j g hi ⟨o,rfl,e⟩
  exact hb.keep e.s
 ·rintro i x j g hi ⟨o,rfl,e⟩
  obtain ⟨d,hd,z⟩:=r.get hi;obtain ⟨G,B,rfl⟩:=Hg hd;obtain ⟨t,O,rfl,I,ne⟩:=AY9 (z.keep e.s);obtain ⟨p,e1,e2⟩:=e.ex;have R:p.length<=60:=by
   have J:=e2.len;rw [Y2,YG] at J;omega
  refine ⟨_,rfl,t,_,_,_,rfl,rfl,I,Ek,rfl,_,rfl,Bk (by rw [Cy,η ne];rfl) ?_⟩
  refine ⟨_,rfl,.inl ⟨rfl,_,SqL.of e1⟩,_,rfl,l,p,_,rfl,rfl,e1,small1000 ∅,_,rfl,?_⟩
  have:=Bx.more (zs:=[.ref t]) (qs:=[G]) e.s e.n e1 e2 (.cons (z.keep e.s) .nil);rw [YU,B];exact this
 ·rintro j g ⟨o,rfl,e⟩
  rw [hl,YX] at e;obtain ⟨p,e1,e2⟩:=e.ex;exact ⟨_,rfl,q l p g e.s e.n e1 e2⟩
def Hi:List Pc->List Y1
 | []=>[]
 | q::r=>Z7 ";"::Fe (q::r)
theorem mL (p:Pc)(r:List Pc):Fe (p::r)=toks p++Hi r:=by
 cases r with
 | nil=>show toks p=toks p++[];rw [Xg]
 | cons q r=>rfl
theorem gq {a t u:List Y1}{i:Nat}(h:a.drop i=t++u):(∀(j:Nat) (z:Y1),t[j]?=some z->a[i+j]?=some z)/\a.drop (i+t.length)=u:=by
 refine ⟨λ j z hz=>?_,?_⟩
 ·rw [<- qE,h,UD (CQ hz)];exact hz
 ·rw [<- List.drop_drop,h,List.drop_left]
theorem AO1 (T:Txt K mg ad):CalB P w K mg base true 6 "read_parts" ["reader","deep"] (tD K ad.Reader):=by
 refine T.Te.calN pG (λ _ _ _ _ _ _=>Bg λ _ _=>rfl) (λ vs H Q E h=>?_) (λ f c8 A outer s H vs Q E a5 h=>?_)
 ·obtain ⟨_,_,_,_,_,_,rfl,_⟩:=h;rfl
 obtain ⟨a,j,n,g,ps,dp,rfl,a7,c1,ne,c9,sh,k⟩:=h;refine ⟨_,(Ah (Aw (i:=2) pG.nd (CW (BX (Ag (zz T) a5.m Af (Ac (pv 0) (Ac (pv 1) Aa))) Aa))) (Ah (O5 YR (Bs (CZ (k:=2) (pv 0) a5.m (Ac (Bb (v:=.str ";") rfl T.ex.m_PARTED ⟨_,rfl⟩) Aa))) (Aj (Cq (Ca YY Xq Xs Fq (pv 2) (BX (Ag (zz T) a5.m Af (Ac (pv 0) (Ac (pv 1) Aa))) Aa))))) (Aj (Ar (pv 2))))),?_⟩
 cases ps with
 | nil=>exact absurd rfl ne
 | cons p r=>
  have a8:g.drop 0=toks p++Hi r:=by rw [qq,c1];exact mL p r
  obtain ⟨tk,dr⟩:=gq a8;refine ⟨_,rfl,_,rfl,a,j,n,g,0,p,dp,rfl,a7,tk,sh p ZA,λ v W X J hv=>⟨(by show 1<=Y3;decide),λ l hl=>?_⟩⟩
  have u:=Ao hl (.lst [v]);have ha:H a=some (DK ad.Reader j n 0):=a7.r;have G:l≠a:=λ e=>by rw [e,J.r] at hl;cases hl
  have a9:n≠l:=λ e=>by rw [<- e,J.w] at hl;cases hl
  have b0:H l=none:=by
   cases e:H l with
   | none=>rfl
   | some o=>have:=X l o G e;rw [this] at hl;cases hl
  have Y:SD a H (upd W l (.lst [v])):=X.trans (Lib.SD.ofSame u);have Z:=J.keep u;have b1:upd W l (.lst [v]) l=some (.lst [v]):=Aq;have a0:DVs K (upd W l (.lst [v])) [v] ([p].map Bm):=.cons (hv.keep u) .nil;generalize upd W l (.lst [v])=d0 at Y Z b1 a0 ⊢;refine ⟨λ m b2 t=>∃(dn d:List Pc) (i:Nat) (xs:List V),p::r=dn++d/\m=d.length/\b2=[some (.ref a),some (.int dp),some (.ref l)]/\SD a H t/\RdAt ad.Reader a j n g i t/\i<=g.length/\g.drop i=Hi d/\t l=some (.lst xs)/\DVs K t xs (dn.map Bm),
   ⟨_,[p],r,_,[v],rfl,rfl,rfl,Y,Z,?_,dr,b1,a0⟩,?_⟩
  ·have:=congrArg JU a8;rw [qq,X9] at this;omega
  rintro m b2 t ⟨dn,d,i,xs,L,rfl,rfl,sd,z,c2,I,a1,M⟩
  have d1:xs.length<=60:=by
   have x:=M.len;have N:=congrArg JU L;rw [Y2] at x;rw [X9] at N;omega
  refine ⟨_,rfl,a,_,j,_,_,_,rfl,z.r,rfl,zP T,a,j,n,g,i,Z7 ";",rfl,z,c2,λ e=>?_,λ e=>?_⟩
  ·cases d with
   | nil=>
    have x:=congrArg JU I;rw [JO] at x;have N:=CQ e;simp only [Hi,YH] at x;omega
   | cons q d=>
    refine ⟨_,rfl,iteT ?_⟩;have b3:g.drop (i+1)=toks q++Hi d:=by
     rw [<- List.drop_drop,I];show (Z7 ";"::Fe (q::d)).drop 1=_;rw [mL];rfl
    obtain ⟨b4,b5⟩:=gq b3;have D:=z.step (i+1);have O:SD a t (upd t a (DK ad.Reader j n (i+1))):=Im _;have R:upd t a (DK ad.Reader j n (i+1)) l=some (.lst xs):=by rw [BP G];exact a1
    have a2:DVs K (upd t a (DK ad.Reader j n (i+1))) xs (dn.map Bm):=Cp (VB z.r O) (De Nf _) M;generalize upd t a (DK ad.Reader j n (i+1))=d2 at D O R a2 ⊢;refine ⟨λ a3 B=>∃(dn C:List Pc) (i:Nat) (xs:List V),p::r=dn++C/\C.length=d.length/\a3=[some (.ref a),some (.int dp),some (.ref l)]/\SD a H B/\RdAt ad.Reader a j n g i B/\i<=g.length/\g.drop i=Hi C/\B l=some (.lst xs)/\DVs K B xs (dn.map Bm),
     λ a3 B ⟨b6,C,c3,b7,x,N,c4⟩=>⟨d.length,by simp,b6,C,c3,b7,x,N.symm,c4⟩,?_⟩
    refine ⟨_,rfl,.inl ⟨rfl,_,SqL.of R⟩,_,rfl,_,rfl,a,j,n,g,i+1,q,dp,rfl,D,b4,sh q (by rw [L];simp),λ y b8 S U c5=>?_⟩
    have a4:b8 l=some (.lst xs):=S l _ G R;have b9:DVs K b8 xs (dn.map Bm):=Cp (VB D.r S) (De Nf _) a2;refine ⟨l,xs,_,rfl,rfl,a4,small1000 ∅,?_⟩
    have c6:=Gp a4 (.lst (xs++[y]));refine ⟨dn++[q],d,_,xs++[y],by rw [L,XB];rfl,rfl,rfl,?_,⟨by rw [BP (JE G)];exact U.r,by rw [BP a9];exact U.w,U.le⟩,?_,b5,Aq,?_⟩
    ·intro b o a6 e;have c0:b≠l:=Bt e b0;rw [BP c0];exact S b o a6 (O b o a6 (sd b o a6 e))
    ·have x:=congrArg JU b3;rw [JO,X9] at x;have N:=Ht q;omega
    ·rw [ZB];exact Cp c6 (by rw [<- ZB];exact De Nf _) (b9.append (.cons c5 .nil))
  ·refine ⟨_,rfl,iteF ?_⟩;cases d with
   | cons q d=>
    exfalso
    apply e
    have:=congrArg (λ d3:List Y1=>d3[0]?) I
    simp only [Hi,qE,Nat.add_zero,List.getElem?_cons_zero] at this;exact this
   | nil=>
    have x:=congrArg JU I;rw [JO] at x;simp only [Hi,YH] at x;have c7:i=g.length:=by omega
    subst c7;rw [Xg] at L;subst L;exact ⟨_,rfl,k l xs t sd b0 z a1 M⟩
theorem QM {a:List Y1}{e:Nat}(h:∀t∈a,t.length<=e):(a.map (·.length)).sum<=a.length * e:=by
 induction a with
 | nil=>exact WI _
 | cons t a b=>
  rw [YJ,yQ,X2,FP];have:=h t ZA;have:=b (λ x d=>h x (W1 _ d))
  omega
theorem rT (T:Txt K mg ad):CalB P w K mg base true 7 "read_bench" ["text"] (wN K):=by
 refine T.Sv.calN Wh (λ _ _ _ _ _ _=>by1 λ _=>rfl) (λ vs H Q E h=>?_) (λ f a0 A outer s H vs Q E n h=>?_)
 ·obtain ⟨_,rfl,_⟩:=h;rfl
 obtain ⟨ps,rfl,t,sh,q⟩:=h;refine ⟨_,(Ah (BJ (Cd (Bs (Br Ff rfl T.isinstance Fv (Ac (pv 0) (Ac (Fg (v:=.ty "str") rfl T.str HR rfl) Aa))))) (Aj Dh) BL) (Ah (BJ (BR Bq (pv 0) Ba) (Aj (Ar (CW Aa))) BL) (Ah (Aw (i:=1) Wh.nd (Jj (tV T) n.m (BX (Ag (Aj3 T) n.m Af (Ac (pv 0) Aa)) Aa))) (Ah (Aw (i:=2) Wh.nd (Ag (AO1 T) n.m Af (Ac (pv 1) (Bj Ab Aa)))) (Ah (BJ (Cd (Bs (Ik (k:=1) (pv 1) n.m))) (Aj Dh) BL) (Ah (BJ (BR Hu (Ag (wj T) n.m Af (Ac (pv 2) Aa)) (Bb (v:=.int 60) rfl T.ex.m_MOST_PIECES ⟨_,rfl⟩)) (Aj Dh) BL) (Aj (Ar (Ag (AG3 T) n.m Af (Ac (pv 2) Aa)))))))))),?_⟩
 refine ⟨_,rfl,_,_,_,_,rfl,.str _,K7 _,_,rfl,iteF ?_⟩;by_cases g:ps=[]
 ·subst g;refine ⟨_,rfl,rfl,_,rfl,Bk (by rw [Cy];exact ζ (by decide+kernel)) ⟨(by show 0<=Y3;decide),λ l hl=>?_⟩⟩
  exact q l [] _ (Ao hl _) hl Aq .nil
 ·have V:=jX g;refine ⟨_,rfl,rfl,_,rfl,BV (by rw [Cy];exact η V) ?_⟩
  have W:=MJ t sh;have sp:=iI g;have a2:=YD ps;refine ⟨_,rfl,CK ps,rfl,ZE (UO W 2) ⋯,by rw [sp];omega,(λ w C=>by rw [sp] at C;have:=Yh ps sh w C;omega),λ j p D a1 u=>λ a d x F ne=>?_⟩
  rw [sp,vC ps g] at u;have G:Same p (upd (upd p d (.own a)) a (.ins ad.Reader d [])):=λ b o e=>by rw [BP (Bt e x),BP (Bt e F)];exact e
  refine ⟨a,d,j,rfl,Aq,⟨rfl,?_⟩⟩;have I:j≠a:=λ e=>by rw [<- e,u] at x;cases x
  have J:RdAt ad.Reader a d j (Fe ps) 0 (upd (upd (upd p d (.own a)) a (.ins ad.Reader d [])) a (DK ad.Reader d j 0)):=⟨Aq,by rw [BP I];exact G _ _ u,by have:=jW ps;omega⟩
  have L:Same p (upd (upd (upd p d (.own a)) a (.ins ad.Reader d [])) a (DK ad.Reader d j 0)):=λ b o e=>by rw [BP (Bt e x)];exact G _ _ e
  generalize upd (upd (upd p d (.own a)) a (.ins ad.Reader d [])) a (DK ad.Reader d j 0)=a3 at J L ⊢;refine ⟨_,rfl,a,d,j,Fe ps,ps,0,rfl,J,rfl,g,t,sh,λ l xs M sd a4 y hl N=>?_⟩
  have hd:DV K M (.ref l) (Dg ps):=.lst (SqL.of hl) N;refine ⟨_,rfl,a,_,d,_,_,_,rfl,y.r,rfl,U8 T,a,d,j,Fe ps,(Fe ps).length,rfl,y,_,rfl,BV (by rw [ζ rfl];rfl) ?_⟩
  refine ⟨_,rfl,.ref l,ps,rfl,hd,_,_,rfl,rfl,_,rfl,BV (η ∅) ?_⟩
  refine ⟨_,rfl,.ref l,ps,rfl,hd,t,λ X O Y Z R S B=>?_⟩
  have U:H a=none:=D.free x;have z:Same H M:=Lib.SD.same (D.trans L) U sd;exact q X O Y (z.trans Z) (z.free R) S B
theorem tO (T:Txt K mg ad):CalB P w K mg base true 2 "show_piece" ["piece"] (gm K):=by
 refine T.Wt.calN yV (λ _ _ _ _ _ _=>by1 λ _=>rfl) (λ vs H Q E h=>?_) (λ f b0 A outer s H vs Q E a1 h=>?_)
 ·obtain ⟨_,_,rfl,_⟩:=h;rfl
 obtain ⟨v,p,rfl,hv,ps,q⟩:=h;refine ⟨_,(Aj (Ar (Ca Yr WV WZ Hn Ba (CJ (Ax Gk (CW (Am (Ae Al (pv 0) Ab) Aa)) (G4 ["part"] [none] rfl (Kf (Ea LR (pv 0) (Cu Ab) FJ)) (λ _ _ _ _ _=>(Bp (i:=0) (show Uu [("part":Str)] by decide))) (λ _ _ _ _ _=>FQ) (λ _ _ _ _ _=>(Ag (Rm T) a1.m Af (Ac (pv 0) Aa))) (Fo ⋯ ⋯) ⋯ rfl ⋯ rfl (Fw rfl))) Aa)))),?_⟩
 obtain ⟨t,b,rfl,g,z⟩:∃(t:Addr) (b:List V),v=.ref t/\SqT K H t (.str (wd p)::b)/\DVs K H b ((fracs p).map Ak):=by
  cases p with
  | gap B=>
   obtain ⟨t,M,N,rfl,g,k,l⟩:=DV.t2 (show DV K H v (.tuple [.str "gap",Ak B]) from hv)
   obtain rfl:=DV.str_of k;exact ⟨t,_,rfl,g,.cons l .nil⟩
  | glass B=>
   obtain ⟨t,M,N,rfl,g,k,l⟩:=DV.t2 (show DV K H v (.tuple [.str "glass",Ak B]) from hv)
   obtain rfl:=DV.str_of k;exact ⟨t,_,rfl,g,.cons l .nil⟩
  | stop B h=>
   obtain ⟨t,M,N,b1,rfl,g,k,l,a2⟩:=DV.t3 (show DV K H v (.tuple [.str "stop",Ak B,Ak h]) from hv)
   obtain rfl:=DV.str_of k;exact ⟨t,_,rfl,g,.cons l (.cons a2 .nil)⟩
 have hl:b.length=(fracs p).length:=by have:=z.len;rw [Y2] at this;exact this
 have b2:1<=(fracs p).length/\(fracs p).length<=2:=by cases p<;>exact ⟨by simp [fracs],by simp [fracs]⟩
 refine ⟨rfl,_,rfl,t,_,_,_,rfl,rfl,g,Ek,(by show 1<=Y3;decide),λ o O=>?_⟩
 have G:=Ao O (.lst [.str (wd p)]);have R:upd H o (.lst [.str (wd p)]) o=some (.lst [.str (wd p)]):=Aq;generalize upd H o (.lst [.str (wd p)])=S at G R ⊢;refine ⟨_,rfl,_,rfl,t,_,rfl,g.keep G,(λ e=>by rw [K3] at e;simp only [X2] at e;omega),λ n U=>⟨n,rfl,⟨_,SqT.of Aq⟩,?_⟩⟩
 rw [Kw];have I:=Ao U (.tup ((V.str (wd p)::b).drop 1));have W:upd S n (.tup ((V.str (wd p)::b).drop 1)) n=some (.tup b):=Aq;have C:=I _ _ R;have J:=G.trans I;generalize upd S n (.tup ((V.str (wd p)::b).drop 1))=a3 at I W C J ⊢;refine Mm (K:=K) (a:=n) (xs:=b) (λ i r u j=>∃c0,r=[c0]/\u=(((fracs p).take i).map Ay).map V.str/\j=a3) ⟨_,rfl,rfl,rfl⟩ ?_ ?_ ?_
 ·rintro i r u j hi ⟨c0,rfl,rfl,rfl⟩
  refine ⟨?_,SqT.of W⟩;rw [Y2,Y2,YG];exact XG (small1000 ∅)
 ·rintro i x r u j hi ⟨c0,rfl,rfl,rfl⟩
  obtain ⟨d,hd,a4⟩:=z.get hi;rw [Yf] at hd;cases e:(fracs p)[i]? with
  | none=>rw [e] at hd;cases hd
  | some B=>
   rw [e] at hd;cases hd
   refine ⟨_,rfl,x,B,rfl,a4.keep J,ps.2 B (ZI e),nx (CQ hi) ⟨_,rfl,?_,rfl⟩⟩;rw [YU,e,ZB,ZB];rfl
 ·rintro r u j y ⟨c0,rfl,rfl,rfl⟩ X
  rw [hl,YX];have L:=Ao X (.lst (((fracs p).map Ay).map V.str));have Y:upd j y (.lst (((fracs p).map Ay).map V.str)) y=some (.lst (((fracs p).map Ay).map V.str)):=Aq;have D:=L _ _ C;have Z:=J.trans L;generalize upd j y (.lst (((fracs p).map Ay).map V.str))=b3 at L Y D Z ⊢;refine ⟨o,y,_,_,rfl,rfl,D,Y,XG (small1000 (by rw [Y2,Y2];simp only [X2,YH];omega)),λ a5 a0=>?_⟩
  have a6:([.str (wd p)]++((fracs p).map Ay).map V.str:List V)=(toks p).map V.str:=rfl;have a7:JoinOk (Z7 " ") (toks p)=true:=by
   refine WO ?_ (by decide+kernel)
   have a8:∀t∈toks p,t.length<=1200:=Lib.Ql p ps;have a9:=Ht p;have b4:((toks p).map (·.length)).sum<=(toks p).length * 1200:=QM a8
   have b5:(toks p).length * 1200<=3 * 1200:=ZH _ a9.1;omega
  exact ⟨_,a5,toks p,rfl,rfl,by rw [Aq,a6],a7,q _ (Z.trans (Ao a0 _))⟩
theorem fK {p:Pc}(h:PBig p):(CV p).length<=4000:=by
 unfold CV;rw [Ew];have b:=iy (Z7 " ") (toks p) 1200 (Lib.Ql p h);have a:=Ht p;have d:(Z7 " ").length=1:=by decide+kernel
 have e:(toks p).length * (1200+(Z7 " ").length)<=3 * 1201:=qB a.1 ∅
 omega
theorem kZ (T:Txt K mg ad):CalB P w K mg base true 5 "show_bench" ["bench"] (nG K):=by
 refine T.ZD.calN AK5 (λ _ _ _ _ _ _=>by1 λ _=>rfl) (λ vs H Q E h=>?_) (λ f L A outer s H vs Q E u h=>?_)
 ·obtain ⟨_,_,rfl,_⟩:=h;rfl
 obtain ⟨v,ps,rfl,hv,n,sh,q⟩:=h;refine ⟨_,(Ah (Cq (Ag (Lk T) u.m Af (Ac (pv 0) Aa))) (Aj (Ar (Ca Yr WV WZ Hn Ba (DY (G4 ["piece"] [none] rfl (Dt (pv 0)) (λ _ _ _ _ _=>(Bp (i:=0) (show Uu [("piece":Str)] by decide))) (λ _ _ _ _ _=>FQ) (λ _ _ _ _ _=>(Ag (tO T) u.m Af (Ac (pv 0) Aa))) (Fo ⋯ ⋯) ⋯ rfl ⋯ rfl (Fw rfl)) Aa))))),?_⟩
 refine ⟨_,rfl,v,ps,1900,rfl,hv,⟨n,λ p e=>(sh p e).1,λ p e=>(sh p e).bd⟩,by decide,λ M y=>?_⟩
 obtain ⟨b,xs,rfl,hb,o⟩:=hv.lst_of;have hl:xs.length=ps.length:=by have:=o.len;rw [Y2] at this;exact this
 refine ⟨rfl,_,rfl,b,rfl,⟨_,hb.keep y⟩,?_⟩;refine JD (K:=K) (a:=b) (xs:=xs) (λ i j k l=>∃c0,j=[c0]/\k=((ps.take i).map CV).map V.str/\Same H l) ⟨_,rfl,rfl,y⟩ ?_ ?_ ?_
 ·rintro i j k l hi ⟨c0,rfl,rfl,g⟩
  refine ⟨?_,hb.keep g⟩;rw [Y2,Y2,YG];exact XG (small1000 ∅)
 ·rintro i x j k l hi ⟨c0,rfl,rfl,g⟩
  obtain ⟨d,hd,B⟩:=o.get hi;obtain ⟨z,r,rfl⟩:=Hg hd;refine ⟨_,rfl,x,z,rfl,B.keep g,sh z (ZI r),λ N C=>nx (CQ hi) ⟨_,rfl,?_,g.trans C⟩⟩
  rw [YU,r,ZB,ZB];rfl
 ·rintro j k l p ⟨c0,rfl,rfl,g⟩ e
  rw [hl,YX];have D:JoinOk (Z7 "; ") (ps.map CV)=true:=by
   refine WO ?_ (by decide+kernel)
   have G:∀t∈ps.map CV,t.length<=4000:=λ t I=>by
    obtain ⟨p,e,rfl⟩:=UC.mp I;exact fK (sh p e)
   have J:=QM G;rw [Y2] at J ⊢;have O:ps.length * 4000<=60 * 4000:=ZH _ n;omega
  exact ⟨_,p,ps.map CV,rfl,rfl,Aq,D,q _ (g.trans (Ao e _))⟩
end
end K69
namespace K69
open PySem L2 Lib Fr Op Tx
seal PE PT PW PA PS PSs PG PGs PI PO CP
section
variable {P:YA}{w:World}{K:FrG}{mg:Str->Option Value}{base:Heap}{ad:Adr}{c:Bool}
theorem AL7 (T:Txt K mg ad):CalB P w K mg base true 1 "_law_cell_at" ["_law_script","_law_k"] (xM K):=by
 refine T.Rh.calN AQ1 (λ _ _ _ _ _ _=>Bg λ _ _=>rfl) (λ vs H Q E h=>?_) (λ f g A outer s H vs Q E i h=>?_)
 ·obtain ⟨_,_,_,rfl,_⟩:=h;rfl
 obtain ⟨a,ns,k,rfl,b,d,q⟩:=h;refine ⟨_,(Ah (BJ (BR Hc (pv 1) (Br Do rfl T.len Dc (Ac (pv 0) Aa))) (Aj (Ar (Ae BK (pv 0) (pv 1)))) BL) (Aj (Ar Ab))),?_⟩;refine ⟨_,rfl,_,rfl,a,_,rfl,.inl b,_,_,rfl,rfl,_,rfl,?_⟩;refine ite2 (λ hc=>?_) (λ _=>q 0)
 have hc:k < (((ns.map V.int).length:Nat):Int):=of_decide_eq_true hc;obtain ⟨v,hv,e⟩:=PL (xs:=ns.map V.int) d hc;obtain ⟨z,_,rfl⟩:=UC.mp e;exact ⟨_,rfl,_,rfl,a,_,_,_,rfl,rfl,b,hv,q z⟩
theorem zq (T:Txt K mg ad):CalB P w K mg base true 1 "_law_drawn" ["_law_script","_law_start"] (AI0 K):=by
 refine T.aL.calN AP1 (λ _ _ _ _ _ _=>Bg λ _ _=>rfl) (λ vs H Q E h=>?_) (λ f B A outer s H vs Q E C h=>?_)
 ·obtain ⟨_,_,_,rfl,_⟩:=h;rfl
 obtain ⟨a,ns,st,rfl,t,q⟩:=h;refine ⟨_,(Aj (Ar (CW (Ac (pv 1) (CJ (Ax Gk (Ea Gg (pv 0) FJ (Cu Ab)) (CW (Ac (pv 1) Aa))) (Bj Ab Aa)))))),?_⟩;have g:=ye (ns.map V.int) 60
 change (cutV (ns.map V.int) none (some 60)).length<=_ at g
 have i:=cD ns none (some 60);refine ⟨_,rfl,_,rfl,_,rfl,a,_,rfl,t,λ p u=>?_⟩
 generalize cutV (ns.map V.int) none (some 60)=d at g i ⊢;have j:=Ao u (.lst d);refine ⟨_,rfl,(by show 1<=Y3;decide),λ v k=>?_⟩
 have e:=Ao k (.lst [.int st]);refine ⟨p,v,_,_,rfl,rfl,e _ _ Aq,Aq,XG (small1000 (by simp only [X2,YH];omega)),λ l m=>?_⟩
 have n:=Ao m (.lst (d++[.int st]));refine ⟨(by show 3<=Y3;decide),λ y b=>?_⟩
 have o:=Ao b (.lst [.int st,.ref l,.int 0]);have r:=j.trans (e.trans (n.trans o));refine q y l (d++[.int st]) _ r ((j.trans (e.trans n)).free b) ⟨⟨st,0,by decide,Aq⟩,o _ _ Aq,λ x z=>?_,by rw [X9];simp,by rw [X9];simp only [X2,YH];omega⟩
 rcases YT.mp z with h | h
 ·exact i x h
 ·exact ⟨st,X8.mp h⟩
theorem Q0 (T:Txt K mg ad):CalB P w K mg base true 1 "_law_draw" ["_law_drawn_here","_law_many"] Ag6:=by
 refine T.Wd.calN U4 (λ _ _ _ _ _ _=>Bg λ _ _=>rfl) (λ vs H Q E h=>?_) (λ f C A outer s H vs Q E D h=>?_)
 ·obtain ⟨_,_,_,_,rfl,_⟩:=h;rfl
 obtain ⟨d,c,k,m,rfl,hd,o,q⟩:=h;obtain ⟨a,n,F,b⟩:=hd.d;have j:=hd.ne;refine ⟨_,(Ah (Aw (i:=2) U4.nd (Ae BK (pv 0) Ab)) (Ah (I9 (Ax DW (Ae BK (pv 0) Ab) Ab) (La (pv 0) Ab Li)) (Ah (Aw (i:=3) U4.nd (Ax DW (Ax JP (Ae BK (pv 0) Ab) Ab) (Ax Dq (Ae BK (pv 2) (Ax Dq (Ae BK (pv 0) Ab) (Br Do rfl T.len Dc (Ac (pv 2) Aa)))) Ab))) (Ah (I9 (Ax Dq (Ax DW (pv 3) (Ae BK (pv 0) Ab)) Ab) (La (pv 0) Ab Li)) (Aj (Ar (Ax Dq (Ax JW (Ae BK (pv 0) Ab) Ab) (pv 1)))))))),?_⟩;refine ⟨_,rfl,d,_,_,_,rfl,rfl,SqL.of b,rfl,?_⟩;refine ⟨_,rfl,d,_,_,_,rfl,rfl,SqL.of b,rfl,_,_,rfl,rfl,_,rfl,d,_,_,2,rfl,rfl,b,rfl,?_⟩;have g:upd H d (.lst [.int a,.ref c,.int (n+1)]) d=some (.lst [.int a,.ref c,.int (n+1)]):=Aq;have e:upd H d (.lst [.int a,.ref c,.int (n+1)]) c=some (.lst k):=by rw [BP j];exact hd.c
 have e1:upd H d (.lst ([V.int a,.ref c,.int n].set 2 (.int (n+1))))=upd H d (.lst [.int a,.ref c,.int (n+1)]):=rfl;have r:SD d H (upd H d (.lst [.int a,.ref c,.int (n+1)])):=JN;refine ⟨_,rfl,d,_,_,_,rfl,rfl,SqL.of g,rfl,_,_,rfl,rfl,.inr ⟨by decide,by decide⟩,?_⟩
 have p:(0:Int) < ((k.length:Nat):Int):=by have:=hd.l;omega
 have t:=yv (n+1) (show ((k.length:Nat):Int)≠0 by omega)
 have u:=QF (n+1) p;obtain ⟨v,hv,y⟩:=PL (xs:=k) t u;obtain ⟨z,rfl⟩:=hd.i v y;refine ⟨_,rfl,_,rfl,d,_,_,_,rfl,rfl,SqL.of g,rfl,_,rfl,c,_,rfl,.inl (SqL.of e),_,_,rfl,rfl,p,c,_,_,_,rfl,rfl,SqL.of e,hv,?_⟩;refine ⟨_,_,rfl,rfl,(by show (0:Int) < 2147483647;decide),_,_,rfl,rfl,?_⟩
 refine ⟨_,rfl,_,rfl,d,_,_,_,rfl,rfl,SqL.of g,rfl,_,_,rfl,rfl,_,_,rfl,rfl,(by show (0:Int) < 2147483629;decide),_,rfl,d,_,_,0,rfl,rfl,g,rfl,?_⟩
 have B:∀x:Int,DrA (upd (upd H d (.lst [.int a,.ref c,.int (n+1)])) d (.lst [.int x,.ref c,.int (n+1)])) d c k:=λ x=>⟨⟨x,n+1,by omega,Aq⟩,by rw [BP j];exact e,hd.i,hd.l,hd.m⟩
 refine ⟨_,rfl,d,_,_,_,rfl,rfl,SqL.of Aq,rfl,_,_,rfl,rfl,⟨by decide,by decide⟩,_,rfl,_,_,rfl,rfl,o,?_⟩
 exact q _ _ (yv _ ∅) (QF _ o) (B _) (r.trans JN)
theorem jD (T:Txt K mg ad):CalB P w K mg base true 1 "_law_low" ["_law_top","_law_bottom"] AM7:=by
 refine T.YW.calN Pb (λ _ _ _ _ _ _=>Bg λ _ _=>rfl) (λ vs H Q E h=>?_) (λ f D A outer s H vs Q E F h=>?_)
 ·obtain ⟨a,b,rfl,_⟩:=h;rfl
 obtain ⟨a,b,rfl,G,bs,q⟩:=h;have g:b≠0:=by omega
 refine ⟨_,(Ah (Aw (i:=2) Pb.nd (Br K8 rfl T.abs Jd (Ac (pv 0) Aa))) (Ah (Aw (i:=3) Pb.nd (pv 1)) (Ah (O5 YR (BR Hu (pv 3) Ab) (Aj (jJ (i:=2) (j:=3) rfl Pb.nd rfl rfl ⋯ rfl rfl (Ac (pv 3) (CJ (Ax Dq (pv 2) (pv 3)) Aa)) rfl))) (Aj (Ar (Bh (CJ (Ax Qf (pv 0) (pv 2)) (CJ (Ax Qf (pv 1) (pv 2)) Aa)))))))),?_⟩
 refine ⟨_,rfl,_,rfl,_,rfl,?_⟩;have u:=Fr.P0 a;have v:b=(b.natAbs:Int):=by omega
 refine ⟨λ k x d=>H=d/\∃(m:Nat),x=[some (.int a),some (.int b),some (.int m),some (.int k)]/\GG m k=GG a.natAbs b.natAbs,⟨b.natAbs,rfl,a.natAbs,by rw [<- u,<- v];rfl,rfl⟩,?_⟩
 rintro n _ _ ⟨rfl,m,rfl,e⟩
 refine ⟨_,rfl,_,_,rfl,rfl,_,rfl,?_⟩;refine ite2 (λ c=>?_) (λ c=>?_)
 ·have l:n≠0:=by
   intro z;subst z;simp at c
  have y:(m:Int) % (n:Int)=((m % n:Nat):Int):=(FE m n).symm;refine ⟨λ o d=>H=d/\o=[some (.int a),some (.int b),some (.int n),some (.int ((m:Int) % (n:Int)))],?_,?_⟩
  ·rintro _ _ ⟨rfl,rfl⟩
   rw [y];exact ⟨m % n,MM _ ∅,rfl,n,rfl,by rw [Fr.bD,e]⟩
  ·exact ⟨_,rfl,_,rfl,_,rfl,_,_,rfl,rfl,(by show (0:Int) < (n:Int);omega),_,_,rfl,rfl,rfl⟩
 ·have l:n=0:=by
   by_cases z:n=0
   ·exact z
   ·exfalso
    apply c
    exact ζ ∅
  subst l;have e2:(m:Int)=Fr.gcd a b:=by
   unfold Fr.gcd;rw [<- e,Nat.gcd_zero_right]
  have I:=Fr.iM (a:=a) g;have J:=Fr.jA a b;have r:(m:Int)=Fr.sg a b:=by
   unfold Fr.sg;rw [if_neg ∅,e2]
  have t:(m:Int).natAbs.log2 < 9000:=by
   have B:(m:Int).natAbs < lim:=by omega
   exact jY B
  have ne:(m:Int)≠0:=by rw [r];exact Fr.Js g
  refine ⟨_,rfl,_,rfl,_,_,rfl,rfl,⟨ne,t⟩,_,rfl,_,rfl,_,_,rfl,rfl,⟨ne,t⟩,(by show 2<=Y3;decide),λ p C=>?_⟩
  rw [r];exact q p C
theorem iD (T:Txt K mg ad):CalB P w K mg base true 1 "_law_under" ["_law_one","_law_other"] (PR K cu):=by
 refine T.XX.calN AP9 (λ _ _ _ _ _ _=>Bg λ _ _=>rfl) (λ vs H Q E h=>?_) (λ f j A outer s H vs Q E l h=>?_)
 ·obtain ⟨_,_,dv,⟨_,_,rfl,_⟩,_⟩:=h;exact dv.len
 obtain ⟨_,_,dv,⟨p,q,rfl,sp,d,rfl⟩,k⟩:=h;obtain ⟨_,_,rfl,g,i⟩:=dv.two;obtain ⟨a,rfl,ha⟩:=g.fr;obtain ⟨b,rfl,hb⟩:=i.fr;refine ⟨_,(Aj (Ar (Dr Hc (Ax Ef (Ae Al (pv 0) Ab) (Ae Al (pv 1) Ab)) (Ax Ef (Ae Al (pv 1) Ab) (Ae Al (pv 0) Ab))))),?_⟩;refine ⟨_,rfl,a,_,_,_,rfl,rfl,ha,rfl,_,rfl,b,_,_,_,rfl,rfl,hb,rfl,_,_,rfl,rfl,Em sp.n d.dn,?_⟩;refine ⟨_,rfl,b,_,_,_,rfl,rfl,hb,rfl,_,rfl,a,_,_,_,rfl,rfl,ha,rfl,_,_,rfl,rfl,Em d.n sp.dn,_,_,rfl,rfl,?_⟩;have e:decide (p.num * (q.den:Int) < q.num * (p.den:Int))=decide (p < q):=decide_eq_decide.mpr (Fr.gw p q);show Q (.bl (decide (p.num * (q.den:Int) < q.num * (p.den:Int)))) H;rw [e];exact k _ _ (Same.refl _) (.bl _)
theorem iH {t b:Int}(a:b≠0)(d:t.natAbs < 10 ^ 15)(hb:b.natAbs < 10 ^ 15):Short (YV t b):=by
 obtain ⟨e,f⟩:=lG a (rfl:YV t b=YV t b);exact ⟨by omega,by omega⟩
theorem AP4 {t b:Int}(a:b≠0)(d:t.natAbs < 2000)(hb:b.natAbs < 2000):Bd 12 (YV t b):=by
 exact Bd.of a (UU d ⋯) (UU hb ⋯)
inductive uX (K:FrG)(vs:List V)(H:Hp)(Q:VK)(z3:XK):Prop | mk (d c:Addr) (L:List V) (far:Bool) (_:vs=[.ref d,.bl far]) (_:DrA H d c L) (_:∀v H' q,DrA H' d c L->SD d H H'->DV K H' v (Ak q)->(Short q/\(far=false->Bd 12 q))->Q v H')
inductive yU (K:FrG)(vs:List V)(H:Hp)(Q:VK)(z3:XK):Prop | mk (d c:Addr) (L:List V) (far:Bool) (_:vs=[.ref d,.bl far]) (_:DrA H d c L) (_:∀v H' p,DrA H' d c L->SD d H H'->DV K H' v (Bm p)->(Et p/\(far=false->p.bd 12))->Q v H')
theorem gY {q:Rat}(h:Short q):Bd 50 q:=by
 have a:(10:Nat) ^ 15<=2 ^ 50:=by decide
 exact ⟨Y4 h.n a,Y4 h.d a⟩
theorem Qz (T:Txt K mg ad):CalB P w K mg base true 2 "_law_part" ["_law_drawn_here","_law_far"] (uX K):=by
 refine T.SQ.calN Jr (λ _ _ _ _ _ _=>Bg λ _ _=>rfl) (λ vs H Q E h=>?_) (λ f Y A outer s H vs Q E a h=>?_)
 ·obtain ⟨_,_,_,_,rfl,_⟩:=h;rfl
 obtain ⟨d,c,n,x,rfl,hd,q⟩:=h;have y:CPow 10 15:=⟨by decide,by decide,by decide⟩
 have Z:(10:Int) ^ (15:Int).toNat=1000000000000000:=by decide
 have e6:(2:Nat) ^ 50=1125899906842624:=by decide
 have d1:(10:Nat) ^ 15=1000000000000000:=by decide
 obtain ⟨g0,d2,a0⟩:∃t,PSs (Eu true P w K mg base ["_law_drawn_here","_law_far","_law_top","_law_bottom"] "_law_part" (defScope LK) f Y A outer s H E).nox ((defBody LK).drop 1) t/\∀(d0:Ends) (a1 a2:Option V) (o:Hp),DrA o d c n->SD d H o->(∀v F q,DrA F d c n->SD d H F->DV K F v (Ak q)->(Short q/\(x=false->Bd 12 q))->d0.rt v F)->t d0 [some (.ref d),some (.bl x),a1,a2] o:=by
  refine ⟨_,(Ah (Aw (i:=2) Jr.nd (Ag (Q0 T) a.m Af (Ac (pv 0) (Am (Ae BK (CW (Bj Ab (Bj Ab Aa))) (Ga Ub rfl T.int JM (Tp (Dr Bq (Ag (Q0 T) a.m Af (Ac (pv 0) (Bj Ab Aa))) Ab) Aa))) Aa)))) (Ah (Aw (i:=3) Jr.nd (Ax DW Ab (Ae BK (CW (Bj Ab (Bj Ab (BX (Ag (Q0 T) a.m Af (Ac (pv 0) (Bj Ab Aa))) (BX (Ag (Q0 T) a.m Af (Ac (pv 0) (Bj Ab Aa))) Aa))))) (Ag (Q0 T) a.m Af (Ac (pv 0) (Bj Ab Aa)))))) (Ah (BJ (BR Bq (Ag (Q0 T) a.m Af (Ac (pv 0) (Bj Ab Aa))) Ab) (Aj (Aw (i:=2) Jr.nd (Ax Gm Ab (pv 2)))) BL) (Aj (Ar (Ag (jD T) a.m Af (Ac (pv 2) (Ac (pv 3) Aa)))))))),?_⟩
  intro d0 a1 a2 o j G q;refine ⟨_,rfl,(by show 2<=Y3;decide),λ p u=>?_⟩
  have a3:=Ao u (.lst [.int 21,.int 1999]);obtain ⟨g1,g2,_,a4⟩:=j.d;have a5:p≠d:=λ e=>by rw [e,a4] at u;cases u
  refine ⟨_,rfl,d,c,n,9,rfl,j.keep a3,by decide,λ a6 d3 a7 a8 z I=>?_⟩
  have a9:=I p _ a5 Aq;refine ⟨rfl,.inr ⟨_,rfl,?_⟩⟩;obtain ⟨v,hv,b0⟩:=PL (xs:=[V.int 21,V.int 1999]) (r:=if decide (V.int a6=V.int 1) then 1 else 0) (by split<;>decide) (by simp only [X2,YH];split<;>decide)
  obtain ⟨m,rfl,d4,g3⟩:∃m:Int,v=.int m/\0 < m/\m<=1999:=by
   simp only [X1,ZN,or_false] at b0;rcases b0 with rfl | rfl<;>exact ⟨_,rfl,by decide,by decide⟩
  refine ⟨p,_,_,_,rfl,rfl,SqL.of a9,hv,?_⟩;refine ⟨d,c,n,m,rfl,z,d4,λ t d5 g4 t1 B O=>?_⟩
  have b2:=G.trans ((a3.sd d).trans (I.trans O));refine ⟨_,rfl,d,c,n,4,rfl,B,by decide,λ b3 d6 b4 e7 C R=>?_⟩
  refine ⟨_,rfl,d,c,n,12,rfl,C,by decide,λ b5 d7 b6 e8 l S=>?_⟩
  refine ⟨(by show 4<=Y3;decide),λ U D=>?_⟩
  have b7:=Ao D (.lst [.int 0,.int 0,.int b3,.int b5]);obtain ⟨g5,g6,_,W⟩:=l.d;have X:U≠d:=λ e=>by rw [e,W] at D;cases D
  refine ⟨_,rfl,d,c,n,4,rfl,l.keep b7,by decide,λ d8 g7 b8 e9 b9 c0=>?_⟩
  have c1:=c0 U _ X Aq;obtain ⟨d9,c2,M⟩:=PL (xs:=[V.int 0,V.int 0,V.int b3,V.int b5]) (r:=d8) b8 (by simp only [X2,YH];omega)
  obtain ⟨b,rfl,g8,b1⟩:∃b:Int,d9=.int b/\0<=b/\b<=11:=by
   simp only [X1,ZN,or_false] at M;rcases M with rfl | rfl | rfl | rfl
   ·exact ⟨_,rfl,by decide,by decide⟩
   ·exact ⟨_,rfl,by decide,by decide⟩
   ·exact ⟨_,rfl,b4,by omega⟩
   ·exact ⟨_,rfl,b6,by omega⟩
  refine ⟨U,_,_,_,rfl,rfl,SqL.of c1,c2,_,_,rfl,rfl,?_⟩;have c3:=b2.trans (R.trans (S.trans ((b7.sd d).trans c0)));refine ⟨_,rfl,d,c,n,2,rfl,b9,by decide,λ g9 c4 f0 f1 c5 e2=>?_⟩
  have c6:=c3.trans e2;have bl:(1+b:Int).natAbs < lim:=Y4 (show (1+b:Int).natAbs < 2 ^ 50 by omega) (by unfold lim;exact DP ⋯)
  refine ⟨rfl,_,rfl,?_⟩;have N:∀t':Int,t'.natAbs < 2000->∀k,c4 k=none->d0.rt (.ref k) (upd c4 k (.tup [.int (Fr.lt t' (1+b)),.int (Fr.lb t' (1+b))])):=λ t' e3 k g=>
   q _ _ _ (c5.keep (Ao g _)) (c6.trans ((Ao g _).sd d)) (J0 ∅) ⟨iH ∅ ∅ ∅,λ _=>AP4 ∅ e3 ∅⟩
  refine ite2 (λ _=>?_) (λ _=>?_)
  ·refine ⟨_,rfl,_,_,rfl,rfl,?_⟩;exact ⟨_,rfl,_,rfl,_,_,rfl,(by show (0:Int) < 1+b;omega),bl,λ k g=>N (0 - t) ∅ k g⟩
  ·exact ⟨_,rfl,_,rfl,_,_,rfl,(by show (0:Int) < 1+b;omega),bl,λ k g=>N t ∅ k g⟩
 refine ⟨_,(Ah (BJ (PW.pt (pw_and (Bs (pv 1)) (pw_and1 (BR Bq (Ag (Q0 T) a.m Af (Ac (pv 0) (Bj Ab Aa))) Ab)))) (Ah (Aw (i:=2) Jr.nd (Ax DW (Ax JP (Ag (Q0 T) a.m Af (Ac (pv 0) (Bj Ab Aa))) Ab) (Ag (Q0 T) a.m Af (Ac (pv 0) (Bj Ab Aa))))) (Ah (Aw (i:=3) Jr.nd (Ax DW (Ax JP (Ag (Q0 T) a.m Af (Ac (pv 0) (Bj Ab Aa))) Ab) (Ag (Q0 T) a.m Af (Ac (pv 0) (Bj Ab Aa))))) (Aj (Ar (Ag (jD T) a.m Af (CJ (Ax DW (Ax Gm (Ax Dq (pv 2) (Ax Gm (Ax JP Ab (Ax Yj Ab Ab)) Ab)) (Ax Yj Ab Ab)) Ab) (CJ (Ax DW Ab (Ax Dq (pv 3) (Ax Gm (Ax Yj Ab Ab) Ab))) Aa))))))) BL) d2),?_⟩
 refine ⟨_,rfl,_,rfl,?_⟩;cases x with
 | false=>exact iteF (iteF (a0 _ _ _ H hd (SD.refl _ _) q))
 | true=>
  refine iteT ?_;refine ⟨_,rfl,d,c,n,3,rfl,hd,by decide,λ a6 o a7 a8 j G=>?_⟩
  refine ⟨rfl,_,rfl,?_⟩;refine ite2 (λ _=>?_) (λ _=>a0 _ _ _ o j G q)
  refine ⟨_,rfl,d,c,n,33554432,rfl,j,by decide,λ c7 d3 f2 f3 z I=>?_⟩
  refine ⟨_,_,rfl,rfl,.inr ⟨by decide,by decide⟩,_,rfl,d,c,n,33554432,rfl,z,by decide,λ c8 d5 f4 f5 B O=>?_⟩
  refine ⟨_,_,rfl,rfl,?_⟩;refine ⟨_,rfl,d,c,n,33554432,rfl,B,by decide,λ J d6 f6 f7 C R=>?_⟩
  refine ⟨_,_,rfl,rfl,.inr ⟨by decide,by decide⟩,_,rfl,d,c,n,33554432,rfl,C,by decide,λ L d7 f8 f9 l S=>?_⟩
  refine ⟨_,_,rfl,rfl,?_⟩;have c9:=G.trans (I.trans (O.trans (R.trans S)));refine ⟨_,rfl,_,_,rfl,rfl,y,_,_,rfl,rfl,.inl ⟨by decide,by decide⟩,_,_,rfl,rfl,_,_,rfl,rfl,(by show (0:Int) < 2 * 10 ^ (15:Int).toNat - 1;decide),_,_,rfl,rfl,y,_,_,rfl,rfl,_,_,rfl,rfl,?_⟩
  refine ⟨_,rfl,_,_,rfl,rfl,y,_,_,rfl,rfl,_,_,rfl,rfl,(by show (0:Int) < 10 ^ (15:Int).toNat - 1;decide),_,_,rfl,rfl,?_⟩
  have e0:=yv (c7 * 33554432+c8) (show (2 * 10 ^ (15:Int).toNat - 1:Int)≠0 by decide)
  have e1:=QF (c7 * 33554432+c8) (show (0:Int) < 2 * 10 ^ (15:Int).toNat - 1 by decide)
  have e4:=yv (J * 33554432+L) (show (10 ^ (15:Int).toNat - 1:Int)≠0 by decide)
  have e5:=QF (J * 33554432+L) (show (0:Int) < 10 ^ (15:Int).toNat - 1 by decide)
  rw [Z] at e0 e1 e4 e5 ⊢;refine ⟨_,_,rfl,(by show (0:Int) < 1+(J * 33554432+L) % (1000000000000000 - 1);omega),Y4 (show (1+(J * 33554432+L) % (1000000000000000 - 1):Int).natAbs < 2 ^ 50 by omega) (by unfold lim;exact DP ⋯),λ p u=>?_⟩
  exact q _ _ _ (l.keep (Ao u _)) (c9.trans ((Ao u _).sd d)) (J0 ∅) ⟨iH ∅ ∅ ∅,λ e=>nomatch e⟩
theorem zr (T:Txt K mg ad):CalB P w K mg base true 3 "_law_piece" ["_law_drawn_here","_law_far"] (yU K):=by
 refine T.Xl.calN KJ (λ _ _ _ _ _ _=>Bg λ _ _=>rfl) (λ vs H Q E h=>?_) (λ f R A outer s H vs Q E B h=>?_)
 ·obtain ⟨_,_,_,_,rfl,_⟩:=h;rfl
 obtain ⟨d,c,M,C,rfl,hd,q⟩:=h;refine ⟨_,(Ah (Aw (i:=2) KJ.nd (Ag (Q0 T) B.m Af (Ac (pv 0) (Bj Ab Aa)))) (Ah (Aw (i:=3) KJ.nd (Ag (Qz T) B.m Af (Ac (pv 0) (Ac (pv 1) Aa)))) (Ah (BJ (BR Hc (pv 2) Ab) (Aj (Ar (Bh (Bj Ba (Ac (pv 3) Aa))))) BL) (Ah (BJ (BR Hc (pv 2) Ab) (Aj (Ar (Bh (Bj Ba (Ac (pv 3) Aa))))) BL) (Ah (Aw (i:=4) KJ.nd (Ag (Qz T) B.m Af (Ac (pv 0) (Ac (pv 1) Aa)))) (Ah (BJ (Bs (Ag (iD T) B.m Af (Ac (pv 4) (Ac (pv 3) Aa)))) (Aj (jJ (i:=3) (j:=4) rfl KJ.nd rfl rfl ⋯ rfl rfl (Ac (pv 4) (Ac (pv 3) Aa)) rfl)) BL) (Aj (Ar (Bh (Bj Ba (Ac (pv 3) (Ac (pv 4) Aa)))))))))))),?_⟩
 refine ⟨_,rfl,d,c,M,5,rfl,hd,by decide,λ V W S U G N=>?_⟩
 refine ⟨_,rfl,_,rfl,d,c,M,C,rfl,G,λ X Y k n O t b2=>?_⟩
 have u:=N.trans O;refine ⟨_,rfl,_,_,rfl,rfl,_,rfl,?_⟩;refine ite2 (λ _=>?_) (λ _=>?_)
 ·refine ⟨_,rfl,(by show 2<=Y3;decide),λ p a=>?_⟩
  exact q _ _ (.gap k) (n.keep (Ao a _)) (u.trans ((Ao a _).sd d)) (DV.upd2 a (.str _) t) ⟨⟨trivial,λ x g=>by rw [X8.mp g];exact b2.1⟩,λ e=>b2.2 e⟩
 refine ⟨_,rfl,_,_,rfl,rfl,_,rfl,?_⟩;refine ite2 (λ _=>?_) (λ _=>?_)
 ·refine ⟨_,rfl,(by show 2<=Y3;decide),λ p a=>?_⟩
  exact q _ _ (.glass k) (n.keep (Ao a _)) (u.trans ((Ao a _).sd d)) (DV.upd2 a (.str _) t) ⟨⟨trivial,λ x g=>by rw [X8.mp g];exact b2.1⟩,λ e=>b2.2 e⟩
 refine ⟨_,rfl,_,rfl,d,c,M,C,rfl,n,λ Z a0 v I J y b3=>?_⟩
 have L:=u.trans J;have l:=n.dv J t;refine ⟨_,rfl,_,rfl,_,_,.cons y (.cons l .nil),⟨_,_,rfl,(gY b3.1).sm ⋯,(gY b2.1).sm ⋯,rfl⟩,λ b a1 o hb=>?_⟩
 obtain rfl:=hb.bl_of;refine ⟨_,rfl,?_⟩;have D:=I.keep o;have F:=L.trans (o.sd d);refine ite2 (λ r=>?_) (λ r=>?_)
 ·have r:v < k:=of_decide_eq_true r;refine ⟨_,rfl,_,rfl,_,_,rfl,?_⟩;refine ⟨_,rfl,_,rfl,(by show 3<=Y3;decide),λ p a=>?_⟩
  exact q _ _ (.stop v k) (D.keep (Ao a _)) (F.trans ((Ao a _).sd d)) (DV.upd3 a (.str _) (y.keep o) (l.keep o)) ⟨⟨show ¬ k < v by grind,λ x g=>by rcases X1.mp g with rfl | g;exact b3.1;rw [X8.mp g];exact b2.1⟩,λ e=>⟨b3.2 e,b2.2 e⟩⟩
 ·have r:¬ v < k:=λ z=>r (ζ z)
  refine ⟨_,rfl,_,rfl,(by show 3<=Y3;decide),λ p a=>?_⟩
  exact q _ _ (.stop k v) (D.keep (Ao a _)) (F.trans ((Ao a _).sd d)) (DV.upd3 a (.str _) (l.keep o) (y.keep o)) ⟨⟨r,λ x g=>by rcases X1.mp g with rfl | g;exact b2.1;rw [X8.mp g];exact b3.1⟩,λ e=>⟨b2.2 e,b3.2 e⟩⟩
end
end K69
namespace K69
open PySem L2 Lib Fr Op
seal PE PT PW PA PS PSs PG PGs PI PO CP
section
variable {P:YA}{w:World}{K:FrG}{mg:Str->Option Value}{base:Heap}{ad:Adr}{c:Bool}
theorem jL (T:Txt K mg ad):CalB P w K mg base true 3 "_law_plus" ["_law_one","_law_other"] (PR K (Ka λ p q=>p+q)):=by
 refine T.Ux.calN AL2 (λ _ _ _ _ _ _=>Bg λ _ _=>rfl) (λ vs H Q E h=>?_) (λ f l A outer s H vs Q E g h=>?_)
 ·obtain ⟨_,_,dv,⟨_,_,rfl,_⟩,_⟩:=h;exact dv.len
 obtain ⟨_,_,dv,⟨p,q,rfl,sp,d,rfl⟩,k⟩:=h;obtain ⟨_,_,rfl,i,j⟩:=dv.two;obtain ⟨a,rfl,ha⟩:=i.fr;obtain ⟨b,rfl,hb⟩:=j.fr;refine ⟨_,(Aj (Ar (Ag (jD T) g.m Af (CJ (Ax DW (Ax Ef (Ae Al (pv 0) Ab) (Ae Al (pv 1) Ab)) (Ax Ef (Ae Al (pv 1) Ab) (Ae Al (pv 0) Ab))) (CJ (Ax Ef (Ae Al (pv 0) Ab) (Ae Al (pv 1) Ab)) Aa))))),?_⟩
 refine ⟨_,rfl,a,_,_,_,rfl,rfl,ha,rfl,_,rfl,b,_,_,_,rfl,rfl,hb,rfl,_,_,rfl,rfl,Em sp.n d.dn,?_⟩;refine ⟨_,rfl,b,_,_,_,rfl,rfl,hb,rfl,_,rfl,a,_,_,_,rfl,rfl,ha,rfl,_,_,rfl,rfl,Em d.n sp.dn,_,_,rfl,rfl,?_⟩;refine ⟨_,rfl,a,_,_,_,rfl,rfl,ha,rfl,_,rfl,b,_,_,_,rfl,rfl,hb,rfl,_,_,rfl,rfl,Em sp.dn d.dn,?_⟩;refine ⟨_,_,rfl,Int.mul_pos (Z3 p) (Z3 q),Lw sp.dn d.dn,λ r g=>k _ _ (Ao g _) ?_⟩
 have e:=J0 (K:=K) (H:=H) (t:=p.num * (q.den:Int)+q.num * (p.den:Int)) (b:=(p.den:Int) * (q.den:Int)) (p:=r) (JH p q);rw [Fr.Vt] at e;exact e
theorem AN2 (T:Txt K mg ad):CalB P w K mg base true 4 "_law_less" ["_law_one","_law_other"] (PR K (Ka λ p q=>p - q)):=by
 refine T.RL.calN uf (λ _ _ _ _ _ _=>Bg λ _ _=>rfl) (λ vs H Q E h=>?_) (λ f t A outer s H vs Q E i h=>?_)
 ·obtain ⟨_,_,dv,⟨_,_,rfl,_⟩,_⟩:=h;exact dv.len
 obtain ⟨_,_,dv,⟨p,q,rfl,sp,j,rfl⟩,k⟩:=h;obtain ⟨_,_,rfl,l,n⟩:=dv.two;obtain ⟨b,rfl,hb⟩:=n.fr;refine ⟨_,(Aj (Ar (Ag (jL T) i.m Af (Ac (pv 0) (DG (Bh (CJ (Ax Gm Ab (Ae Al (pv 1) Ab)) (Am (Ae Al (pv 1) Ab) Aa))) Aa))))),?_⟩
 refine ⟨_,rfl,_,rfl,b,_,_,_,rfl,rfl,hb,rfl,_,_,rfl,rfl,_,rfl,b,_,_,_,rfl,rfl,hb,rfl,(by show 2<=Y3;decide),λ a d=>?_⟩
 have g:=Ao d (.tup [.int (0 - q.num),.int (q.den:Int)]);have dn:DV K (upd H a (.tup [.int (0 - q.num),.int (q.den:Int)])) (.ref a) (Ak (-q)):=by
  rw [oU];exact .tup (SqT.of Aq) (.cons (.int _) (.cons (.int _) .nil))
 refine ⟨_,_,.cons (l.keep g) (.cons dn .nil),⟨_,_,rfl,sp,j.neg,rfl⟩,λ v o r hv=>k _ _ (g.trans r) ?_⟩
 have e:p+-q=p - q:=(Rat.sub_eq_add_neg p q).symm;show DV K o v (Ak (p - q));rw [<- e];exact hv
end
end K69
namespace K69
open PySem L2 Lib Fr Op Tx PySem.NumText
seal PE PT PW PA PS PSs PG PGs PI PO CP PJ
section
variable {P:YA}{w:World}{K:FrG}{mg:Y1->Option Value}{base:Heap}{ad:Adr}{c:Bool}
theorem dF {d:Nat}(h:d < 10):(Z7 "0123456789").cps[d]?=some (48+d):=by
 have:∀d:Nat,d < 10->(Z7 "0123456789").cps[d]?=some (48+d):=by decide
 exact this d h
theorem Ai5 {y:Y1}(h:y=Z7 ""):cl y=[]:=by subst h;rfl
theorem XS (T:Txt K mg ad):CalB P w K mg base true 1 "_law_written" ["_law_number"] sJ:=by
 refine T.W7.calN NQ (λ _ _ _ _ _ _=>by1 λ _=>rfl) (λ vs H Q E h=>?_) (λ f L A outer s H vs Q E M h=>?_)
 ·obtain ⟨_,rfl,_⟩:=h;rfl
 obtain ⟨n,rfl,G,q⟩:=h;refine ⟨_,(Ah (Aw (i:=1) NQ.nd Ba) (Ah (Aw (i:=2) NQ.nd (Br K8 rfl T.abs Jd (Ac (pv 0) Aa))) (Ah (O5 YR (PW.pt (pw_or (BR Hu (pv 2) Ab) (pw_or1 (BR Bq (pv 1) Ba)))) (Ah (Aw (i:=1) NQ.nd (Ax Ce (oh Ba (Ax Dq (pv 2) Ab) (λ _ _=>rfl)) (pv 1))) (Aj (Aw (i:=2) NQ.nd (Ax JW (pv 2) Ab))))) (Aj (Ar (Ax Ce (Ax gP Ba (Ga Ub rfl T.int JM (Tp (Dr Hc (pv 0) Ab) Aa))) (pv 1))))))),?_⟩
 have dl:=(Fp (m:=n.natAbs) (k:=575) ⋯).mpr G
 refine ⟨_,rfl,_,rfl,?_⟩;refine ⟨λ k I l=>∃(m:Nat) (y:Y1),I=[some (.int n),some (.str y),some (.int (m:Int))]/\l=H/\((cl y=[]/\y=Z7 ""/\m=n.natAbs/\k=m+1)\/(cl y≠[]/\dz m++cl y=dg n.natAbs/\k=m)),⟨n.natAbs+1,n.natAbs,Z7 "",by rw [Fr.P0];rfl,rfl,.inl ⟨rfl,rfl,rfl,rfl⟩⟩,?_⟩
 rintro k _ l ⟨m,y,rfl,rfl,o⟩
 have v:(m:Int) % 10=((m % 10:Nat):Int):=(FE m 10).symm;have x:(m:Int) / 10=((m / 10:Nat):Int):=(Int.natCast_ediv m 10).symm;have d:m % 10 < 10:=MM _ ⋯
 have N:y.length<=575:=by
  rw [<- Du];rcases o with ⟨e,_⟩ | ⟨_,e,_⟩
  ·rw [e];decide
  ·have:=congrArg JU e;rw [X9] at this;omega
 have step:(0 < m\/cl y=[])->m / 10 < k/\cl (US #[48+m % 10]++y)≠[]/\dz (m / 10)++cl (US #[48+m % 10]++y)=dg n.natAbs:=λ b=>by
  have e1:cl (US #[48+m % 10]++y)=[48+m % 10]++cl y:=By _ _;rw [e1];refine ⟨?_,by simp,?_⟩
  ·rcases o with ⟨_,_,_,e⟩ | ⟨e0,_,e⟩
   ·omega
   ·rcases b with h | h
    ·omega
    ·exact absurd h e0
  ·rcases o with ⟨e0,_,e2,e⟩ | ⟨e0,e2,e⟩
   ·rw [e0,<- e2];by_cases z:m=0
    ·subst z;rfl
    ·rw [Xg,<- jy ∅,Ak3 ∅]
   ·rcases b with h | h
    ·rw [<- e2,jy h,XB]
    ·exact absurd h e0
 have p:¬ (0 < m\/cl y=[])->cl (MZ (Z7 "-") (if decide (n < 0)=true then 1 else 0)++y)=(if n < 0 then [45] else [])++dg n.natAbs:=λ b=>by
  have J:m=0:=by
   by_cases z:m=0
   ·exact z
   ·exact absurd (.inl ∅) b
  have B:cl y=dg n.natAbs:=by
   rcases o with ⟨e0,_⟩ | ⟨_,e2,_⟩
   ·exact absurd (.inr e0) b
   ·rw [J] at e2;exact e2
  rw [By,B];by_cases a:n < 0
  ·rw [if_pos (ζ a),if_pos a];rfl
  ·rw [if_neg (by simpa using a),if_neg a];rfl
 have C:MulOk (Z7 "-") (if decide (n < 0)=true then 1 else 0):=by
  by_cases a:n < 0
  ·rw [if_pos (ζ a)];exact ⟨by decide,λ _ h=>absurd h ⋯,λ _ h=>absurd h ⋯⟩
  ·rw [if_neg (by simpa using a)];exact ⟨by decide,λ h=>absurd ⋯ h,λ h=>absurd ⋯ h⟩
 have O:(MZ (Z7 "-") (if decide (n < 0)=true then 1 else 0)).length<=1:=by
  by_cases a:n < 0
  ·rw [if_pos (ζ a)];decide
  ·rw [if_neg (by simpa using a)];decide
 refine ⟨_,rfl,_,_,rfl,rfl,_,rfl,?_⟩;refine ite2 (λ c=>?_) (λ c=>?_)
 ·have b:0 < m:=by
   have:(0:Int) < (m:Int):=of_decide_eq_true c;omega
  obtain ⟨r,t,u⟩:=step (.inl b);refine ⟨λ g j=>g=[some (.int n),some (.str (US #[48+m % 10]++y)),some (.int ((m / 10:Nat):Int))]/\j=l,?_,?_⟩
  ·rintro _ _ ⟨rfl,rfl⟩
   exact ⟨m / 10,r,m / 10,_,rfl,rfl,.inr ⟨t,u,rfl⟩⟩
  ·refine ⟨_,rfl,_,_,rfl,rfl,(by show (0:Int) < 10;decide),_,_,48+m % 10,rfl,rfl,(by show (0:Int)<=(m:Int) % 10;omega),(by show (m:Int) % 10 < 2 ^ 63;omega),(by show (m:Int) % 10 < 10;omega),?_,?_⟩
   ·show (Z7 "0123456789").cps[((m:Int) % 10).toNat]?=_;rw [v,Qb];exact dF d
   ·refine ⟨_,rfl,_,_,rfl,rfl,CT (by show 1+y.length<=10000;omega),?_⟩
    refine ⟨_,rfl,_,_,rfl,rfl,⟨by decide,by decide⟩,?_⟩
    refine ⟨?_,rfl⟩;show [some (V.int n),some (V.str (US #[48+m % 10]++y)),some (V.int ((m:Int) / 10))]=_;rw [x]
 ·have b:¬ 0 < m:=λ z=>c (ζ ∅)
  refine ⟨_,rfl,rfl,_,rfl,?_⟩;refine ite2 (λ c=>?_) (λ c=>?_)
  ·rw [Cy] at c;have b:=Ai5 (of_decide_eq_true c);obtain ⟨r,t,u⟩:=step (.inr b);refine ⟨λ g j=>g=[some (.int n),some (.str (US #[48+m % 10]++y)),some (.int ((m / 10:Nat):Int))]/\j=l,?_,?_⟩
   ·rintro _ _ ⟨rfl,rfl⟩
    exact ⟨m / 10,r,m / 10,_,rfl,rfl,.inr ⟨t,u,rfl⟩⟩
   ·refine ⟨_,rfl,_,_,rfl,rfl,(by show (0:Int) < 10;decide),_,_,48+m % 10,rfl,rfl,(by show (0:Int)<=(m:Int) % 10;omega),(by show (m:Int) % 10 < 2 ^ 63;omega),(by show (m:Int) % 10 < 10;omega),?_,?_⟩
    ·show (Z7 "0123456789").cps[((m:Int) % 10).toNat]?=_;rw [v,Qb];exact dF d
    ·refine ⟨_,rfl,_,_,rfl,rfl,CT (by show 1+y.length<=10000;omega),?_⟩
     refine ⟨_,rfl,_,_,rfl,rfl,⟨by decide,by decide⟩,?_⟩
     refine ⟨?_,rfl⟩;show [some (V.int n),some (V.str (US #[48+m % 10]++y)),some (V.int ((m:Int) / 10))]=_;rw [x]
  ·have D:¬ cl y=[]:=λ e=>c (by rw [Cy];exact ζ (ext (e.trans (show []=cl (Z7 "") from rfl))))
   have F:¬ (0 < m\/cl y=[]):=λ h=>h.elim b D
   exact ⟨_,rfl,_,_,rfl,rfl,.inr ⟨_,rfl,_,_,rfl,rfl,C,_,rfl,_,_,rfl,rfl,CT ∅,q _ (p F)⟩⟩
theorem Y0 (T:Txt K mg ad):CalB P w K mg base true 2 "_law_shown" ["_law_part_here"] (RX K):=by
 refine T.Vi.calN AS3 (λ _ _ _ _ _ _=>by1 λ _=>rfl) (λ vs H Q E h=>?_) (λ f n A outer s H vs Q E b h=>?_)
 ·obtain ⟨_,_,rfl,_⟩:=h;rfl
 obtain ⟨v,p,rfl,hv,sp,q⟩:=h;obtain ⟨a,o,r,rfl,h,e1,e2⟩:=DV.t2 (show DV K H v (.tuple [.int p.num,.int (p.den:Int)]) from hv)
 obtain rfl:=DV.int_of e1;obtain rfl:=DV.int_of e2;refine ⟨_,(Ah (BJ (BR Bq (Ae Al (pv 0) Ab) Ab) (Aj (Ar (Ag (XS T) b.m Af (Am (Ae Al (pv 0) Ab) Aa)))) BL) (Aj (Ar (Ax Ce (Ax Ce (Ag (XS T) b.m Af (Am (Ae Al (pv 0) Ab) Aa)) Ba) (Ag (XS T) b.m Af (Am (Ae Al (pv 0) Ab) Aa)))))),?_⟩
 refine ⟨_,rfl,a,_,_,_,rfl,rfl,h,rfl,rfl,_,rfl,?_⟩;have t:=(Fp (m:=p.num.natAbs) (k:=575) ⋯).mpr (Y4 sp.1 G8)
 have u:=(Fp (m:=p.den) (k:=575) ⋯).mpr (Y4 sp.2 G8)
 have e1:∀x:Y1,cl x=sh p->x=Ay p:=λ x i=>ext (i.trans (Iv p).symm)
 refine ite2 (λ c1=>?_) (λ c1=>?_)
 ·have d:p.den=1:=by
   have z:decide (V.int (p.den:Int)=V.int 1)=true:=c1;rw [GJ] at z;have:=of_decide_eq_true z;omega
  refine ⟨_,rfl,a,_,_,_,rfl,rfl,h,rfl,_,rfl,Y4 sp.1 G8,λ z hz=>?_⟩
  rw [e1 z (by rw [hz];unfold sh;rw [if_pos d,Xg])]
  exact q
 ·have d:¬ p.den=1:=by
   intro e
   apply c1
   show decide (V.int (p.den:Int)=V.int 1)=true;rw [GJ,e];rfl
  refine ⟨_,rfl,a,_,_,_,rfl,rfl,h,rfl,_,rfl,Y4 sp.1 G8,λ z hz=>?_⟩
  have j:=Du z;rw [hz,X9] at j;have zl2:(if p.num < 0 then [45] else []:List Nat).length<=1:=by split<;>decide
  have zs:(Z7 "/").length=1:=rfl;refine ⟨_,_,rfl,rfl,CT ∅,?_⟩
  refine ⟨_,rfl,a,_,_,_,rfl,rfl,h,rfl,_,rfl,by rw [YO];exact Y4 sp.2 G8,λ y g=>?_⟩
  rw [if_neg ∅,Jn,YO] at g
  have l:=Du y;rw [g] at l;refine ⟨_,_,rfl,rfl,CT (by rw [Cm];omega),?_⟩
  show Q (.str (z++Z7 "/"++y)) H;rw [e1 (z++Z7 "/"++y) (by
   rw [By,By,hz,g];unfold sh;rw [if_neg d];show _++[47]++_=_;simp)]
  exact q
theorem AJ6 (T:Txt K mg ad):CalB P w K mg base true 3 "_law_piece_text" ["_law_piece_here"] (gm K):=by
 refine T.Vn.calN AH9 (λ _ _ _ _ _ _=>by1 λ _=>rfl) (λ vs H Q E h=>?_) (λ f b0 A outer s H vs Q E a1 h=>?_)
 ·obtain ⟨_,_,rfl,_⟩:=h;rfl
 obtain ⟨v,p,rfl,hv,ps,q⟩:=h;refine ⟨_,(Aj (Ar (Ca Yr WV WZ Hn Ba (CJ (Ax Gk (CW (Am (Ae Al (pv 0) Ab) Aa)) (G4 ["_law_part_here"] [none] rfl (Kf (Ea LR (pv 0) (Cu Ab) FJ)) (λ _ _ _ _ _=>(Bp (i:=0) (show Uu [("_law_part_here":Str)] by decide))) (λ _ _ _ _ _=>FQ) (λ _ _ _ _ _=>(Ag (Y0 T) a1.m Af (Ac (pv 0) Aa))) (Fo ⋯ ⋯) ⋯ rfl ⋯ rfl (Fw rfl))) Aa)))),?_⟩
 obtain ⟨t,b,rfl,g,z⟩:∃(t:Addr) (b:List V),v=.ref t/\SqT K H t (.str (wd p)::b)/\DVs K H b ((fracs p).map Ak):=by
  cases p with
  | gap B=>
   obtain ⟨t,M,N,rfl,g,k,l⟩:=DV.t2 (show DV K H v (.tuple [.str "gap",Ak B]) from hv)
   obtain rfl:=DV.str_of k;exact ⟨t,_,rfl,g,.cons l .nil⟩
  | glass B=>
   obtain ⟨t,M,N,rfl,g,k,l⟩:=DV.t2 (show DV K H v (.tuple [.str "glass",Ak B]) from hv)
   obtain rfl:=DV.str_of k;exact ⟨t,_,rfl,g,.cons l .nil⟩
  | stop B h=>
   obtain ⟨t,M,N,b1,rfl,g,k,l,a2⟩:=DV.t3 (show DV K H v (.tuple [.str "stop",Ak B,Ak h]) from hv)
   obtain rfl:=DV.str_of k;exact ⟨t,_,rfl,g,.cons l (.cons a2 .nil)⟩
 have hl:b.length=(fracs p).length:=by have:=z.len;rw [Y2] at this;exact this
 have b2:1<=(fracs p).length/\(fracs p).length<=2:=by cases p<;>exact ⟨by simp [fracs],by simp [fracs]⟩
 refine ⟨rfl,_,rfl,t,_,_,_,rfl,rfl,g,Ek,(by show 1<=Y3;decide),λ o O=>?_⟩
 have G:=Ao O (.lst [.str (wd p)]);have R:upd H o (.lst [.str (wd p)]) o=some (.lst [.str (wd p)]):=Aq;generalize upd H o (.lst [.str (wd p)])=S at G R ⊢;refine ⟨_,rfl,_,rfl,t,_,rfl,g.keep G,(λ e=>by rw [K3] at e;simp only [X2] at e;omega),λ n U=>⟨n,rfl,⟨_,SqT.of Aq⟩,?_⟩⟩
 rw [Kw];have I:=Ao U (.tup ((V.str (wd p)::b).drop 1));have W:upd S n (.tup ((V.str (wd p)::b).drop 1)) n=some (.tup b):=Aq;have C:=I _ _ R;have J:=G.trans I;generalize upd S n (.tup ((V.str (wd p)::b).drop 1))=a3 at I W C J ⊢;refine Mm (K:=K) (a:=n) (xs:=b) (λ i r u j=>∃c0,r=[c0]/\u=(((fracs p).take i).map Ay).map V.str/\j=a3) ⟨_,rfl,rfl,rfl⟩ ?_ ?_ ?_
 ·rintro i r u j hi ⟨c0,rfl,rfl,rfl⟩
  refine ⟨?_,SqT.of W⟩;rw [Y2,Y2,YG];exact XG (small1000 ∅)
 ·rintro i x r u j hi ⟨c0,rfl,rfl,rfl⟩
  obtain ⟨d,hd,a4⟩:=z.get hi;rw [Yf] at hd;cases e:(fracs p)[i]? with
  | none=>rw [e] at hd;cases hd
  | some B=>
   rw [e] at hd;cases hd
   refine ⟨_,rfl,x,B,rfl,a4.keep J,ps.2 B (ZI e),nx (CQ hi) ⟨_,rfl,?_,rfl⟩⟩;rw [YU,e,ZB,ZB];rfl
 ·rintro r u j y ⟨c0,rfl,rfl,rfl⟩ X
  rw [hl,YX];have L:=Ao X (.lst (((fracs p).map Ay).map V.str));have Y:upd j y (.lst (((fracs p).map Ay).map V.str)) y=some (.lst (((fracs p).map Ay).map V.str)):=Aq;have D:=L _ _ C;have Z:=J.trans L;generalize upd j y (.lst (((fracs p).map Ay).map V.str))=b3 at L Y D Z ⊢;refine ⟨o,y,_,_,rfl,rfl,D,Y,XG (small1000 (by rw [Y2,Y2];simp only [X2,YH];omega)),λ a5 a0=>?_⟩
  have a6:([.str (wd p)]++((fracs p).map Ay).map V.str:List V)=(toks p).map V.str:=rfl;have a7:JoinOk (Z7 " ") (toks p)=true:=by
   refine WO ?_ (by decide+kernel)
   have a8:∀t∈toks p,t.length<=1200:=Lib.Ql p ps;have a9:=Ht p;have b4:((toks p).map (·.length)).sum<=(toks p).length * 1200:=QM a8
   have b5:(toks p).length * 1200<=3 * 1200:=ZH _ a9.1;omega
  exact ⟨_,a5,toks p,rfl,rfl,by rw [Aq,a6],a7,q _ (Z.trans (Ao a0 _))⟩
theorem PQ (T:Txt K mg ad):CalB P w K mg base true 4 "_law_text" ["_law_bench"] (nG K):=by
 refine T.Vk.calN vY (λ _ _ _ _ _ _=>by1 λ _=>rfl) (λ vs H Q E h=>?_) (λ f L A outer s H vs Q E z h=>?_)
 ·obtain ⟨_,_,rfl,_⟩:=h;rfl
 obtain ⟨v,ps,rfl,hv,r,sh,q⟩:=h;refine ⟨_,(Aj (Ar (Ca Yr WV WZ Hn Ba (DY (G4 ["_law_piece_here"] [none] rfl (Dt (pv 0)) (λ _ _ _ _ _=>(Bp (i:=0) (show Uu [("_law_piece_here":Str)] by decide))) (λ _ _ _ _ _=>FQ) (λ _ _ _ _ _=>(Ag (AJ6 T) z.m Af (Ac (pv 0) Aa))) (Fo ⋯ ⋯) ⋯ rfl ⋯ rfl (Fw rfl)) Aa)))),?_⟩
 have u:=Same.refl H;obtain ⟨b,xs,rfl,hb,l⟩:=hv.lst_of;have hl:xs.length=ps.length:=by have:=l.len;rw [Y2] at this;exact this
 refine ⟨rfl,_,rfl,b,rfl,⟨_,hb.keep u⟩,?_⟩;refine JD (K:=K) (a:=b) (xs:=xs) (λ i g j k=>∃c0,g=[c0]/\j=((ps.take i).map CV).map V.str/\Same H k) ⟨_,rfl,rfl,u⟩ ?_ ?_ ?_
 ·rintro i g j k hi ⟨c0,rfl,rfl,e⟩
  refine ⟨?_,hb.keep e⟩;rw [Y2,Y2,YG];exact XG (small1000 ∅)
 ·rintro i x g j k hi ⟨c0,rfl,rfl,e⟩
  obtain ⟨d,hd,B⟩:=l.get hi;obtain ⟨y,n,rfl⟩:=Hg hd;refine ⟨_,rfl,x,y,rfl,B.keep e,sh y (ZI n),λ M C=>nx (CQ hi) ⟨_,rfl,?_,e.trans C⟩⟩
  rw [YU,n,ZB,ZB];rfl
 ·rintro g j k p ⟨c0,rfl,rfl,e⟩ o
  rw [hl,YX];have D:JoinOk (Z7 "; ") (ps.map CV)=true:=by
   refine WO ?_ (by decide+kernel)
   have G:∀t∈ps.map CV,t.length<=4000:=λ t I=>by
    obtain ⟨p,o,rfl⟩:=UC.mp I;exact fK (sh p o)
   have J:=QM G;rw [Y2] at J ⊢;have N:ps.length * 4000<=60 * 4000:=ZH _ r;omega
  exact ⟨_,p,ps.map CV,rfl,rfl,Aq,D,q _ (e.trans (Ao o _))⟩
theorem AJ7 (T:Txt K mg ad):CalB P w K mg base true 1 "is_name" ["thing"] (t8 K):=by
 refine T.XC.calN Ac9 (λ _ _ _ _ _ _=>by1 λ _=>rfl) (λ vs H Q E h=>?_) (λ f k A outer s H vs Q E l h=>?_)
 ·obtain ⟨_,_,rfl,_⟩:=h;rfl
 obtain ⟨v,d,rfl,hv,ok,q⟩:=h;refine ⟨_,(Ah (BJ (PW.pt (pw_or (Cd (Bs (Br Ff rfl T.isinstance Fv (Ac (pv 0) (Ac (Fg (v:=.ty "str") rfl T.str HR rfl) Aa))))) (pw_or1 (Cd (bQ Pk Pk Ab (Br lN rfl T.len Dc (Ac (pv 0) Aa)) (Bb (v:=.int 8) rfl T.ex.m_MOST_LETTERS ⟨_,rfl⟩)))))) (Aj (Ar Dn)) BL) (Aj (Ar (Br (Np rfl) rfl T.all Qw (DY (fW rfl (pv 0) T.ex.m_LETTERS ⋯ ⋯ rfl ⋯ rfl rfl rfl rfl) Aa))))),?_⟩
 refine ⟨_,rfl,_,_,_,_,rfl,hv,K7 d,_,rfl,?_⟩;cases b:Ow d with
 | false=>
  have a:=q _ (Same.refl _);rw [Ah6 b] at a;exact iteT (iteT a)
 | true=>
  obtain ⟨z,rfl⟩:=Ak8 b;obtain rfl:=DV.str_of hv;have hz:=ok z rfl;refine iteF ⟨_,rfl,z,rfl,hz,_,_,rfl,rfl,_,rfl,?_⟩;by_cases g:1<=z.length
  ·refine Bk (ζ ∅) ⟨_,_,rfl,rfl,_,rfl,?_⟩
   by_cases i:z.length<=8
   ·refine BV (by rw [ζ ∅];rfl) ?_
    refine ⟨_,rfl,z,rfl,hz,λ p j=>?_⟩
    refine ⟨p,(QE z).map KY,rfl,SqL.of (by rw [zb];exact Aq),?_⟩
    have a:=q _ (Ao j (.lst ((QE z).map λ x=>V.bl (KY x))))
    have e:Jq (.str z)=((QE z).map KY).all id:=by
     show ((decide (1<=z.length) && decide (z.length<=8)) && _)=_;rw [ζ g,ζ i,MW];rfl
    rw [<- e];exact a
   ·have a:=q _ (Same.refl _);have e:Jq (.str z)=false:=by
     show ((decide (1<=z.length) && decide (z.length<=8)) && _)=_;rw [η i,Bool.and_false,wc]
    rw [e] at a;exact Bk (by rw [η ∅];rfl) a
  ·have a:=q _ (Same.refl _);have e:Jq (.str z)=false:=by
    show ((decide (1<=z.length) && decide (z.length<=8)) && _)=_;rw [η g,wc,wc]
   rw [e] at a;exact BV (η ∅) ⟨_,rfl,iteT a⟩
theorem oW (T:Txt K mg ad):CalB P w K mg base true 2 "look_at_name" ["word"] AK3:=by
 refine T.We.calN AH0 (λ _ _ _ _ _ _=>by1 λ _=>rfl) (λ vs H Q E h=>?_) (λ f d A outer s H vs Q E a h=>?_)
 ·obtain ⟨_,rfl,_⟩:=h;rfl
 obtain ⟨x,rfl,nx,k⟩:=h;refine ⟨_,(Aj (BJ (Cd (Bs (Ag (AJ7 T) a.m Af (Ac (pv 0) Aa)))) (Aj Dh) BL)),?_⟩
 refine ⟨_,rfl,_,_,rfl,.str x,(λ z e=>by cases e;exact ZE nx.len ⋯),λ g b=>?_⟩
 refine ⟨_,rfl,?_⟩;refine BV (by rw [show Jq (.str x)=true from nx];rfl) ?_
 exact k _ b
theorem AW3 (T:Txt K mg ad):CalB P w K mg base true 4 "read_number_desk" ["word"] (Uy K):=by
 refine T.YF.calN yD (λ _ _ _ _ _ _=>by1 λ _=>rfl) (λ vs H Q E h=>?_) (λ f d A outer s H vs Q E a h=>?_)
 ·obtain ⟨_,rfl,_⟩:=h;rfl
 obtain ⟨q,rfl,b,k⟩:=h;refine ⟨_,(Aj (fC (eO T) a.m (Ac (pv 0) Aa))),?_⟩
 exact ⟨_,rfl,q,rfl,b,k⟩
abbrev AO9 (ad:Adr):List (Y1×V):=[("join",V.ref ad.ROWS_join),("turn",V.ref ad.ROWS_turn),("show",V.ref ad.ROWS_show),("walk",V.ref ad.ROWS_walk),("table",V.ref ad.ROWS_table),("apart",V.ref ad.ROWS_apart),("image",V.ref ad.ROWS_image),("field",V.ref ad.ROWS_field),("sharp",V.ref ad.ROWS_sharp),("rounds",V.ref ad.ROWS_rounds)]
abbrev Ac0 (ad:Adr):List (Y1×V):=[("show",V.ref ad.ANSWERS_show),("walk",V.ref ad.ANSWERS_walk),("table",V.ref ad.ANSWERS_table),("apart",V.ref ad.ANSWERS_apart),("image",V.ref ad.ANSWERS_image),("field",V.ref ad.ANSWERS_field),("sharp",V.ref ad.ANSWERS_sharp),("rounds",V.ref ad.ANSWERS_rounds)]
def fQ (K:FrG)(ad:Adr)(u:Y1)(m:Nat):Prop:=∃a,valV (Dd (AO9 ad)) (.inr u)=some (.ref a)/\∀H,SqT K H a [.int 1,.int (m:Int)]
theorem nW (T:Txt K mg ad)(b7:w.params=ad.pr){u0:Y1}{m:Nat}(b8:fQ K ad u0 m)(d0:m<=5):CalB P w K mg base true 8 "read_row" ["words"] (λ vs H Q E=>∃(l:Addr) (x:Y1) (qs:List Rat),vs=[.ref l]/\H l=some (.lst ((u0::x::qs.map Ay).map V.str))/\Nm x/\(∀q∈qs,Short q)/\qs.length=m/\(u0=Z7 "sharp"->∃q,qs[4]?=some q/\0<=q)/\
  ∀r g u b,Same H b->b r=some (.tup [.ref g,.ref u])->b g=some (.lst [.str x])->DV K b (.ref u) (.list (qs.map Ak))->Q (.ref r) b):=by
 refine T.ZZ.calN Kd (λ _ _ _ _ _ _=>by1 λ _=>rfl) (λ vs H Q E h=>?_) (λ f c8 A outer s H vs Q E Z h=>?_)
 ·obtain ⟨_,_,_,rfl,_⟩:=h;rfl
 obtain ⟨l,x,qs,rfl,hl,a5,a6,d1,a7,k⟩:=h;obtain ⟨F,b9,C⟩:=b8;refine ⟨_,(Ah (Aw (i:=1) Kd.nd (wZ (Bb (v:=.ref ad.ROWS) rfl T.ex.m_ROWS rfl) (Ae BK (pv 0) Ab) ⟨rfl,rfl,rfl,rfl⟩)) (Ah (BJ (PW.pt (pw_or (BR Gi (pv 1) Ec) (pw_or1 (BR FZ (Br Do rfl T.len Dc (Ac (pv 0) Aa)) (Ax DW (Ax DW Ab (Ae Al (pv 1) Ab)) (Ae Al (pv 1) Ab)))))) (Aj Dh) BL) (Ah (Aw (i:=2) Kd.nd (Ea Gg (pv 0) (Cu Ab) (Cu (Ax DW Ab (Ae Al (pv 1) Ab))))) (Ah (Dj YR rfl (Dt (pv 2)) (Bp (i:=3) Kd.nd) (Aj (Cq (Ag (oW T) Z.m Af (Ac (pv 3) Aa))))) (Ah (j6 (i:=4) Kd.nd rfl (by walk_at "o") ["word"] [none] rfl (Dt (Ea Gg (pv 0) (Cu (Ax DW Ab (Ae Al (pv 1) Ab))) FJ)) (λ _ _ _ _ _=>(Bp (i:=0) (show Uu [("word":Str)] by decide))) (λ _ _ _ _ _=>FQ) (λ _ _ _ _ _=>(Ag (AW3 T) Z.m Af (Ac (pv 0) Aa))) (Fo ⋯ ⋯) ⋯ rfl ⋯ rfl (Fw rfl)) (Ah (BJ (PW.pt (pw_and (BR Bq (Ae BK (pv 0) Ab) Ba) (pw_and1 (Bs (Ag (Hj T) Z.m Af (Am (Ae BK (pv 4) Ab) (Ac (Bb (v:=.ref ad.NOUGHT) rfl T.ex.m_NOUGHT rfl) Aa))))))) (Aj Dh) BL) (Aj (Ar (Bh (Ac (pv 2) (Ac (pv 4) Aa))))))))))),?_⟩
 refine ⟨ad.ROWS,_,rfl,T.ex.g_ROWS _ _ b7,_,rfl,l,_,_,.str u0,rfl,rfl,SqL.of hl,Bu (j:=0) rfl,.inr u0,rfl,?_⟩;rw [b9];refine ⟨_,rfl,rfl,_,rfl,BV (by rfl) ?_⟩
 have a0:((u0::x::qs.map Ay).map V.str).length=2+m:=by simp only [Y2,X2];omega
 refine ⟨_,rfl,l,_,rfl,.inl (SqL.of hl),_,rfl,F,_,_,.int 1,rfl,rfl,C H,rfl,_,_,rfl,rfl,_,rfl,F,_,_,.int (m:Int),rfl,rfl,C H,rfl,_,_,rfl,rfl,?_⟩;refine ⟨rfl,_,rfl,BV (by rw [GJ,ζ (show (((u0::x::qs.map Ay).map V.str).length:Int)=1+1+(m:Int) by rw [a0];omega)];rfl) ?_⟩
 refine ⟨_,rfl,_,rfl,_,rfl,F,_,_,.int 1,rfl,rfl,C H,rfl,_,_,rfl,rfl,_,rfl,l,_,rfl,SqL.of hl,λ g a8=>?_⟩
 have c1:cutV ((u0::x::qs.map Ay).map V.str) (some 1) (some (1+1))=[.str x]:=by
  unfold cutV;rw [show HT.sIx ((u0::x::qs.map Ay).map V.str).length 0 (some 1)=min 1 ((u0::x::qs.map Ay).map V.str).length from HT.Gx _ _ 1,show HT.sIx ((u0::x::qs.map Ay).map V.str).length ((u0::x::qs.map Ay).map V.str).length (some (1+1))=min 2 ((u0::x::qs.map Ay).map V.str).length from HT.Gx _ _ 2,a0,xw ∅,xw ∅]
  rfl
 have c2:cutV ((u0::x::qs.map Ay).map V.str) (some (1+1)) none=(qs.map Ay).map V.str:=by
  unfold cutV;rw [show HT.sIx ((u0::x::qs.map Ay).map V.str).length 0 (some (1+1))=min 2 ((u0::x::qs.map Ay).map V.str).length from HT.Gx _ _ 2,HT.M3,a0,xw ∅]
  show ((qs.map Ay).map V.str).take _=_;exact UB (by rw [Y2,Y2];omega)
 rw [c1];have a1:=Ao a8 (.lst [.str x]);have o:upd H g (.lst [.str x]) g=some (.lst [.str x]):=Aq;generalize upd H g (.lst [.str x])=c3 at a1 o ⊢;refine ⟨_,rfl,g,rfl,⟨_,SqL.of o⟩,?_⟩;refine GX (K:=K) (a:=g) (xs:=[.str x]) (λ i t b=>∃G,t=[some (.ref l),some (.ref F),some (.ref g),G,none]/\Same c3 b) ⟨_,rfl,Same.refl _⟩ ?_ ?_ ?_
 ·rintro i t b hi ⟨G,rfl,B⟩
  exact SqL.of (B _ _ o)
 ·rintro i y t b hi ⟨G,rfl,B⟩
  obtain rfl:y=.str x:=by
   have:=ZI hi;exact X8.mp this
  exact ⟨_,rfl,x,rfl,a5,λ a9 c4=>⟨_,rfl,B.trans c4⟩⟩
 ·rintro t b ⟨G,rfl,B⟩
  have W:b l=some (.lst ((u0::x::qs.map Ay).map V.str)):=B _ _ (a1 _ _ hl);refine ⟨_,rfl,_,rfl,F,_,_,.int 1,rfl,rfl,C b,rfl,_,_,rfl,rfl,_,rfl,l,_,rfl,SqL.of W,λ u a2=>?_⟩
  rw [c2];have b0:=Ao a2 (.lst ((qs.map Ay).map V.str));have I:upd b u (.lst ((qs.map Ay).map V.str)) u=some (.lst ((qs.map Ay).map V.str)):=Aq;generalize upd b u (.lst ((qs.map Ay).map V.str))=a9 at b0 I ⊢;refine ⟨u,rfl,⟨_,SqL.of I⟩,?_⟩;refine JD (K:=K) (a:=u) (xs:=(qs.map Ay).map V.str) (λ i t n z=>∃c0,t=[c0]/\Same a9 z/\DVs K z n ((qs.take i).map Ak)) ⟨_,rfl,Same.refl _,.nil⟩ ?_ ?_ ?_
  ·rintro i t n z hi ⟨c0,rfl,J,dv⟩
   have:=dv.len;rw [Y2,YG] at this;rw [Y2,Y2] at hi;exact ⟨XG (small1000 ∅),SqL.of (J _ _ I)⟩
  ·rintro i y t n z hi ⟨c0,rfl,J,dv⟩
   have b1:=CQ hi;rw [Yf,Yf] at hi;cases e:qs[i]? with
   | none=>rw [e] at hi;cases hi
   | some q=>
    rw [e] at hi;cases hi
    refine ⟨_,rfl,q,rfl,a6 q (ZI e),λ v L b2 hv=>nx b1 ⟨_,rfl,J.trans b2,?_⟩⟩
    rw [YU,e,ZB];exact DVs.append (dv.keep b2) (.cons hv .nil)
  ·rintro t n z p ⟨c0,rfl,J,dv⟩ c5
   rw [Y2,Y2,YX] at dv;have S:=Ao c5 (.lst n);have dl:DV K (upd z p (.lst n)) (.ref p) (.list (qs.map Ak)):=.lst (SqL.of Aq) (dv.keep S);have b3:(upd z p (.lst n)) p=some (.lst n):=Aq;have M:=dv.keep S;have D:=b0.trans (J.trans S);generalize upd z p (.lst n)=L at S dl b3 M D ⊢;have X:∀N,Same L N->tTup (tCons (tVar 2) (tCons (tVar 4) tNil)) [some (.ref l),some (.ref F),some (.ref g),G,some (.ref p)] N (λ v c6=>Q v c6):=λ N O=>by
    refine ⟨_,rfl,_,rfl,(by show 2<=Y3;decide),λ r b4=>?_⟩
    have a3:=Ao b4 (.tup [.ref g,.ref p]);exact k r g p _ (((a1.trans B).trans D).trans (O.trans a3)) Aq (a3 _ _ (O _ _ (D _ _ (B _ _ o)))) (dl.keep (O.trans a3))
   refine ⟨_,rfl,l,_,_,.str u0,rfl,rfl,SqL.of (D _ _ W),Bu (j:=0) rfl,rfl,_,rfl,?_⟩;rw [Cy];by_cases a4:u0=Z7 "sharp"
   ·obtain ⟨q,b5,c7⟩:=a7 a4;refine Bk (ζ a4) ?_;have Y:(qs.map Ak)[4]?=some (Ak q):=by rw [Yf,b5];rfl
    obtain ⟨y,U,R⟩:∃y,n[4]?=some y/\DV K L y (Ak q):=by
     have c9:=M.len;have d2:=CQ Y;obtain ⟨y,U⟩:∃y,n[4]?=some y:=⟨_,Yi ∅⟩
     obtain ⟨d,hd,R⟩:=M.get U;rw [Y] at hd;cases hd
     exact ⟨y,U,R⟩
    refine ⟨_,rfl,p,_,_,y,rfl,rfl,SqL.of b3,Bu (j:=4) U,_,_,.cons R (.cons (dN T L) .nil),⟨q,0,rfl,(Hk (a6 q (ZI b5))).sm ⋯,Sm.zero,rfl⟩,λ d3 N O b6=>?_⟩
    obtain rfl:=b6.bl_of;rw [η (xE.mpr c7)];exact ⟨_,rfl,iteF (X N O)⟩
   ·exact BV (η a4) (iteF (X L (Same.refl _)))
theorem qN (T:Txt K mg ad):MkC P w K mg base 1 "Desk" ad.Desk ["self"] (Ag5 ad.Desk):=by
 refine T.ex.i_Desk.mkc AN1 (λ _ _ _ _ _ _=>by1 λ _=>rfl) (λ vs H Q E h=>?_) (λ f e A outer s H vs Q E g h=>?_)
 ·obtain ⟨_,_,rfl,_⟩:=h;rfl
 obtain ⟨a,b,rfl,ha,q⟩:=h;refine ⟨_,(Aj (J8 (pv 0) zF)),?_⟩;exact λ d hd=>⟨_,rfl,a,ad.Desk,b,[],rfl,by rw [BP (Bt ha hd)];exact ha,T.ex.l_Desk,T.ex.n_Desk_benches,by decide,q d hd⟩
theorem zO (T:Txt K mg ad):MC P w K mg base 1 ad.Desk "bench_by" ["self","name"] (vp K ad.Desk):=by
 refine T.ex.q_Desk_bench_by.mc Aa2 (λ _ _ _ _ _ _=>Bg λ _ _=>rfl) (λ vs H Q E h=>?_) (λ f p A outer s H vs Q E b h=>?_)
 ·obtain ⟨_,_,_,_,_,_,_,_,rfl,_⟩:=h;rfl
 obtain ⟨o,e,d,q,x,u,n,ps,rfl,a,sx,k⟩:=h;refine ⟨_,(Ah (BJ (xU (AS7 b.units1 (pv 1) (Fi (pv 0)))) (Aj Dh) BL) (Aj (Ar (vJ b.units1 (Fi (pv 0)) (pv 1) (λ _ _=>rfl))))),?_⟩
 obtain ⟨r,g,hl,i⟩:=a.d;obtain ⟨ok,l,j,hb,m⟩:=i.at sx;have t:DGet H d (.str x) (some (.ref l)):=j▸DGet.k (k:=.inr x) g;refine ⟨_,rfl,_,rfl,o,_,e,_,_,rfl,a.o,T.ex.l_Desk,T.ex.n_Desk_benches,rfl,d,_,rfl,t,_,rfl,BV rfl ?_⟩;exact ⟨_,rfl,o,_,e,_,_,rfl,a.o,T.ex.l_Desk,T.ex.n_Desk_benches,rfl,_,rfl,d,_,rfl,t,k l hb m⟩
theorem xO (T:Txt K mg ad):MC P w K mg base 6 ad.Desk "keep" ["self","name","bench"] (qO K ad.Desk):=by
 refine T.ex.q_Desk_keep.mc AX1 (λ _ _ _ _ _ _=>Mz λ _ _ _=>rfl) (λ vs H Q E h=>?_) (λ f t A outer s H vs Q E e h=>?_)
 ·obtain ⟨_,_,_,_,_,_,_,_,_,rfl,_⟩:=h;rfl
 obtain ⟨o,i,d,q,l,x,B,n,ps,rfl,j,p,hb,r,ok,k⟩:=h;refine ⟨_,(Ah (Cq (Ag (Lk T) e.m Af (Ac (pv 2) Aa))) (Ah (AX7 e.units1 (Fi (pv 0)) (pv 1) (pv 2) rfl) (Aj (Ar (Bb (v:=.str "ok") rfl T.ex.m_DONE ⟨_,rfl⟩))))),?_⟩
 refine ⟨_,rfl,.ref l,ps,18,rfl,hb.dv,ok.good,by decide,λ y b=>?_⟩
 have a:=j.keep b;obtain ⟨u,g,hl,z⟩:=a.d;refine ⟨_,rfl,_,rfl,o,_,i,_,_,rfl,a.o,T.ex.l_Desk,T.ex.n_Desk_benches,rfl,_,rfl,d,_,rfl,DPut.k (k:=.inr x) g (xB (ZE hl p) ⋯),?_⟩
 exact k _ ((Lib.SD.ofSame b).trans (Im _)) (a.put g (hb.keep b) r ok)
theorem AI9 (T:Txt K mg ad):MC P w K mg base 10 ad.Desk "lay" ["self","row"] (fZ K ad.Desk):=by
 refine T.ex.q_Desk_lay.mc lu (λ _ _ _ _ _ _=>Bg λ _ _=>rfl) (λ vs H Q E h=>?_) (λ f R A outer s H vs Q E t h=>?_)
 ·obtain ⟨_,_,_,_,_,_,_,_,rfl,_⟩:=h;rfl
 obtain ⟨o,u,d,q,x,S,n,ps,rfl,G,I,J,nx,ok,k⟩:=h;have U:=MJ (ZE ok.1 ⋯) ok.sh
 refine ⟨_,(Ah (Aw (i:=2) lu.nd (Ca Yr XV Wm AV8 (pv 1) (Bj Ba (Bj Ab Aa)))) (Ah (BJ (BR FZ (Br Do rfl T.len Dc (Ac (pv 2) Aa)) Ab) (Aj Dh) BL) (Ah (Cq (Ag (oW T) t.m Af (Am (Ae BK (pv 2) Ab) Aa))) (Aj (Ar (CZ (k:=6) (pv 0) t.m (Am (Ae BK (pv 2) Ab) (BX (Ag (rT T) t.m Af (Am (Ae BK (pv 2) Ab) Aa)) Aa)))))))),?_⟩
 refine ⟨_,rfl,rfl,_,Z7 "bench",x,CK ps,rfl,rfl,Uj _ _,by decide+kernel,nx.no,(by rw [m7 nx];have:=nx.len;exact ZE (show _<=20000 by omega) ⋯),λ a v=>?_⟩
 have b:=Ao v (.lst [.str (Z7 "bench"),.str x,.str (CK ps)]);have g:upd H a (.lst [.str (Z7 "bench"),.str x,.str (CK ps)]) a=some (.lst [.str (Z7 "bench"),.str x,.str (CK ps)]):=Aq;generalize upd H a (.lst [.str (Z7 "bench"),.str x,.str (CK ps)])=V at b g ⊢;refine ⟨_,rfl,a,_,rfl,.inl (SqL.of g),rfl,_,rfl,BV rfl ?_⟩;refine ⟨_,rfl,a,_,_,.str x,rfl,rfl,SqL.of g,Bu (j:=1) rfl,x,rfl,nx,λ W p=>?_⟩
 have r:=G.keep (b.trans p);have y:=p _ _ g;refine ⟨_,rfl,o,_,u,_,_,_,rfl,r.o,rfl,xO T,_,rfl,a,_,_,.str x,rfl,rfl,SqL.of y,Bu (j:=1) rfl,_,rfl,a,_,_,.str (CK ps),rfl,rfl,SqL.of y,Bu (j:=2) rfl,ps,rfl,ZE ok.1 ⋯,ok.sh,λ l xs X B L hl C=>?_⟩
 have M:l∉q:=λ e=>by
  obtain ⟨z,hz⟩:=I l e;have:=p _ _ (b _ _ hz);rw [L] at this;cases this
 exact ⟨o,u,d,q,l,x,S,n,ps,rfl,r.keep B,J,.of hl C,M,ok,λ N O D=>k N ((Lib.SD.ofSame ((b.trans p).trans B)).trans O) D⟩
theorem gF (T:Txt K mg ad):CalB P w K mg base true 5 "turned_bench" ["bench"] (λ _ _ _ _=>False):=T.aQ.calN zN (λ _ _ _ _ _ _=>by1 λ _=>rfl) (λ vs H Q E h=>h.elim) (λ f a A outer s H vs Q E b h=>h.elim)
theorem dU (T:Txt K mg ad)(C:w.params=ad.pr):MC P w K mg base 16 ad.Desk "say" ["self","row"] (fZ K ad.Desk):=by
 have D:=nW (P:=P) (w:=w) (base:=base) T C (u0:="show") ⟨_,by unfold valV Dd;rfl,λ H=>T.ex.s_ROWS_show H⟩ ⋯
 refine T.ex.q_Desk_say.mc IV (λ _ _ _ _ _ _=>Bg λ _ _=>rfl) (λ vs H Q E h=>?_) (λ f O A outer s H vs Q E b h=>?_)
 ·obtain ⟨_,_,_,_,_,_,_,_,rfl,_⟩:=h;rfl
 obtain ⟨o,p,d,q,x,R,n,ps,rfl,G,I,J,nx,ok,k⟩:=h;have S:=MJ (ZE ok.1 ⋯) ok.sh
 refine ⟨_,(Ah (BJ (Cd (Bs (Br Ff rfl T.isinstance Fv (Ac (pv 1) (Ac (Fg (v:=.ty "str") rfl T.str HR rfl) Aa))))) (Aj Dh) BL) (Ah (Aw (i:=2) IV.nd (Ca Yr XV Wm Hw (pv 1) (Bj Ba Aa))) (Ah (BJ (BR Bq (Ae BK (pv 2) Ab) Ba) (Aj (Ar (CZ (k:=10) (pv 0) b.m (Ac (pv 1) Aa)))) BL) (Ah (Aw (i:=3) IV.nd (Ag D b.m Af (Ac (pv 2) Aa))) (Ah (Aw (i:=4) IV.nd (Ae Al (pv 3) Ab)) (Ah (BJ (BR Bq (Ae BK (pv 2) Ab) Ba) (Aj (Ar (CZ (k:=6) (pv 0) b.m (Am (Ae BK (pv 4) Ab) (CJ (Ax Gk (CZ (k:=1) (pv 0) b.m (Am (Ae BK (pv 4) Ab) Aa)) (CZ (k:=1) (pv 0) b.m (Am (Ae BK (pv 4) Ab) Aa))) Aa))))) BL) (Ah (BJ (BR Bq (Ae BK (pv 2) Ab) Ba) (Aj (Ar (CZ (k:=6) (pv 0) b.m (Am (Ae BK (pv 4) Ab) (BX (Ag (gF T) b.m Af (BX (CZ (k:=1) (pv 0) b.m (Am (Ae BK (pv 4) Ab) Aa)) Aa)) Aa))))) BL) (Aj (Ar (dw Af (oY (Bb (v:=.ref ad.ANSWERS) rfl T.ex.m_ANSWERS rfl) (Ae BK (pv 2) Ab) (λ _ _=>rfl)) (BX (CZ (k:=1) (pv 0) b.m (Am (Ae BK (pv 4) Ab) Aa)) (Am (Ae Al (pv 3) Ab) Aa)))))))))))),?_⟩
 refine ⟨_,rfl,_,_,_,_,rfl,.str _,K7 _,_,rfl,iteF ?_⟩;refine ⟨_,rfl,rfl,_,_,rfl,rfl,rfl,(by rw [m7 nx];have:=nx.len;exact ZE (show _<=20000 by omega) ⋯),λ e u=>?_⟩
 obtain ⟨r,L⟩:=AG2 (t:=CK ps) nx;rw [L];have g:=Ao u (.lst ((Z7 "bench"::r).map V.str));have y:upd H e (.lst ((Z7 "bench"::r).map V.str)) e=some (.lst ((Z7 "bench"::r).map V.str)):=Aq;generalize upd H e (.lst ((Z7 "bench"::r).map V.str))=U at g y ⊢;refine ⟨_,rfl,e,_,_,.str (Z7 "bench"),rfl,rfl,SqL.of y,Bu (j:=0) rfl,rfl,_,rfl,Bk (by rw [Cy];exact ζ rfl) ?_⟩
 have l:=G.keep g;exact ⟨_,rfl,o,_,p,_,_,_,rfl,l.o,rfl,AI9 T,_,rfl,o,p,d,q,x,R,n,ps,rfl,l,(λ a ha=>(I a ha).imp λ z hz=>g _ _ hz),J,nx,ok,λ M N B=>k M ((Lib.SD.ofSame g).trans N) B⟩
theorem Hv (T:Txt K mg ad)(z:w.params=ad.pr){u0 nm:Y1}{m:Nat}{p:Addr}{b4:List Pc->List Rat->Y1->Prop}(a0:fQ K ad u0 m)(a1:m<=5)(a2:32∉cl u0)(a3:u0.length<=8)(a4:u0≠Z7 "bench")(a5:u0≠Z7 "join")(a6:u0≠Z7 "turn")
  (hv:valV (Dd (Ac0 ad)) (.inr u0)=some (.ref p)) (B:mg nm=some (.ref p)) (C:CalB P w K mg base true 12 nm ["bench","numbers"] (GQ K b4)):MC P w K mg base 16 ad.Desk "say" ["self","row"] (Gr K ad.Desk u0 m b4):=by
 have a7:=nW (P:=P) (w:=w) (base:=base) T z a0 a1;refine T.ex.q_Desk_say.mc IV (λ _ _ _ _ _ _=>Bg λ _ _=>rfl) (λ vs H Q E h=>?_) (λ f b5 A outer s H vs Q E a h=>?_)
 ·obtain ⟨_,_,_,_,_,_,_,_,_,_,rfl,_⟩:=h;rfl
 obtain ⟨o,D,d,q,x,b7,n,ps,qs,t,rfl,a8,nx,sx,a9,G,I,J,k⟩:=h;refine ⟨_,(Ah (BJ (Cd (Bs (Br Ff rfl T.isinstance Fv (Ac (pv 1) (Ac (Fg (v:=.ty "str") rfl T.str HR rfl) Aa))))) (Aj Dh) BL) (Ah (Aw (i:=2) IV.nd (Ca Yr XV Wm Hw (pv 1) (Bj Ba Aa))) (Ah (BJ (BR Bq (Ae BK (pv 2) Ab) Ba) (Aj (Ar (CZ (k:=10) (pv 0) a.m (Ac (pv 1) Aa)))) BL) (Ah (Aw (i:=3) IV.nd (Ag a7 a.m Af (Ac (pv 2) Aa))) (Ah (Aw (i:=4) IV.nd (Ae Al (pv 3) Ab)) (Ah (BJ (BR Bq (Ae BK (pv 2) Ab) Ba) (Aj (Ar (CZ (k:=6) (pv 0) a.m (Am (Ae BK (pv 4) Ab) (CJ (Ax Gk (CZ (k:=1) (pv 0) a.m (Am (Ae BK (pv 4) Ab) Aa)) (CZ (k:=1) (pv 0) a.m (Am (Ae BK (pv 4) Ab) Aa))) Aa))))) BL) (Ah (BJ (BR Bq (Ae BK (pv 2) Ab) Ba) (Aj (Ar (CZ (k:=6) (pv 0) a.m (Am (Ae BK (pv 4) Ab) (BX (Ag (gF T) a.m Af (BX (CZ (k:=1) (pv 0) a.m (Am (Ae BK (pv 4) Ab) Aa)) Aa)) Aa))))) BL) (Aj (Ar (dw Af (oY (Bb (v:=.ref ad.ANSWERS) rfl T.ex.m_ANSWERS rfl) (Ae BK (pv 2) Ab) (λ _ _=>rfl)) (BX (CZ (k:=1) (pv 0) a.m (Am (Ae BK (pv 4) Ab) Aa)) (Am (Ae Al (pv 3) Ab) Aa)))))))))))),?_⟩
 refine ⟨_,rfl,_,_,_,_,rfl,.str _,K7 _,_,rfl,iteF ?_⟩;refine ⟨_,rfl,rfl,_,_,rfl,rfl,rfl,ZE (UO (AL3 a3 nx.len ∅ G) 2) ⋯,λ b L=>?_⟩
 rw [pW a2 nx.no];have M:=Ao L (.lst ((u0::x::qs.map Ay).map V.str));have g:upd H b (.lst ((u0::x::qs.map Ay).map V.str)) b=some (.lst ((u0::x::qs.map Ay).map V.str)):=Aq;generalize upd H b (.lst ((u0::x::qs.map Ay).map V.str))=b8 at M g ⊢;refine ⟨_,rfl,b,_,_,.str u0,rfl,rfl,SqL.of g,Bu (j:=0) rfl,rfl,_,rfl,BV (by rw [Cy];exact η a4) ?_⟩
 refine ⟨_,rfl,b,x,qs,rfl,g,nx,G,a9,I,λ r N b0 b9 O l R dn=>?_⟩
 refine ⟨_,rfl,r,_,_,.ref N,rfl,rfl,SqT.of l,Bu (j:=0) rfl,?_⟩;have u:=O _ _ g;refine ⟨_,rfl,b,_,_,.str u0,rfl,rfl,SqL.of u,Bu (j:=0) rfl,rfl,_,rfl,BV (by rw [Cy];exact η a5) ?_⟩
 refine ⟨_,rfl,b,_,_,.str u0,rfl,rfl,SqL.of u,Bu (j:=0) rfl,rfl,_,rfl,BV (by rw [Cy];exact η a6) ?_⟩
 have S:=M.trans O;have e:=a8.keep S;obtain ⟨y,U,b1,W,X,Y⟩:=C.ex;obtain rfl:y=p:=by
  have:=W.symm.trans B
  injection this with this
  injection this
 refine ⟨_,rfl,b,_,_,.str u0,rfl,rfl,SqL.of u,Bu (j:=0) rfl,ad.ANSWERS,_,.inr u0,.ref y,rfl,T.ex.g_ANSWERS _ _ z,rfl,hv,y,U,12,_,_,rfl,b1,X,Y,a.mono ⋯,?_⟩
 refine ⟨_,rfl,o,_,D,_,_,_,rfl,e.o,rfl,zO T,_,rfl,N,_,_,.str x,rfl,rfl,SqL.of R,Bu (j:=0) rfl,o,D,d,q,x,b7,n,ps,rfl,e,sx,λ c0 Z b6=>?_⟩
 exact ⟨_,rfl,r,_,_,.ref b0,rfl,rfl,SqT.of l,Bu (j:=1) rfl,_,_,ps,qs,t,rfl,Z.dv,e.ok sx,dn,J,λ b2 b3=>k b2 (S.trans b3)⟩
theorem Lz (T:Txt K mg ad):CalB P w K mg base true 2 "shown" ["ratios"] (oJ K):=by
 refine T.Vg.calN AZ9 (λ _ _ _ _ _ _=>by1 λ _=>rfl) (λ vs H Q E h=>?_) (λ f g A outer s H vs Q E b h=>?_)
 ·obtain ⟨_,_,rfl,_⟩:=h;rfl
 obtain ⟨v,qs,rfl,hv,big,a,q⟩:=h;refine ⟨_,(Aj (Ar (Ca Yr WV WZ Hn Ba (DY (G4 ["one"] [none] rfl (jP (pv 0)) (λ _ _ _ _ _=>(Bp (i:=0) (show Uu [("one":Str)] by decide))) (λ _ _ _ _ _=>FQ) (λ _ _ _ _ _=>(Ag (Rm T) b.m Af (Ac (pv 0) Aa))) (Fo ⋯ ⋯) ⋯ rfl ⋯ rfl (Fw rfl)) Aa)))),?_⟩
 exact ⟨rfl,gj hv big a λ p j d e=>⟨_,p,qs.map Ay,rfl,rfl,e,gO big a,q _ d⟩⟩
theorem AR8 (T:Txt K mg ad):CalB P w K mg base true 12 "show_answer" ["bench","numbers"] (GQ K lO):=by
 refine T.Y8.calN pY (λ _ _ _ _ _ _=>Bg λ _ _=>rfl) (λ vs H Q E h=>?_) (λ f b A outer s H vs Q E a h=>?_)
 ·obtain ⟨_,_,_,_,_,rfl,_⟩:=h;rfl
 obtain ⟨v,u,ps,qs,t,rfl,hb,d,e,rfl,k⟩:=h;refine ⟨_,(Aj (Ar (Ag (kZ T) a.m Af (Ac (pv 0) Aa)))),?_⟩
 exact ⟨_,rfl,v,ps,rfl,hb,ZE d.1 ⋯,d.pbig,k⟩
theorem rP (T:Txt K mg ad):CalB P w K mg base true 12 "walk_answer" ["bench","numbers"] (GQ K Tr):=by
 refine T.R5.calN nA (λ _ _ _ _ _ _=>Bg λ _ _=>rfl) (λ vs H Q E h=>?_) (λ f W A outer s H vs Q E x h=>?_)
 ·obtain ⟨_,_,_,_,_,rfl,_⟩:=h;rfl
 obtain ⟨v,u0,ps,qs,t,rfl,hb,O,R,⟨y,u,rfl,S,U,rfl⟩,k⟩:=h;obtain ⟨a,xs,rfl,ha,B⟩:=DV.lst_of R;obtain ⟨e,g,rfl,C,D⟩:=B.two;have rb:=mX S U;have X:=ZH (18+1) O.1;refine ⟨_,(Ah (Aw (i:=2) nA.nd (Ag (bC T) x.m Af (Ac (pv 0) (DG (Bh (Am (Ae BK (pv 1) Ab) (Am (Ae BK (pv 1) Ab) Aa))) Aa)))) (Ah (BJ (BR rH (Ae Al (pv 2) Ab) Ec) (Aj (Ar (Ax Ce Ba (Ga aR rfl T.str HR (Am (Ae Al (pv 2) Ab) Aa))))) BL) (Aj (Ar (Ax Ce Ba (Ag (Lz T) x.m Af (Am (Ae BK (Ae Al (pv 2) Ab) (W9 WW Ab)) Aa))))))),?_⟩
 refine ⟨_,rfl,_,rfl,a,_,_,e,rfl,rfl,ha,rfl,_,rfl,a,_,_,g,rfl,rfl,ha,rfl,(by show 2<=Y3;decide),λ p F=>?_⟩
 have j:=Ao F (.tup [e,g]);have G:DV K (upd H p (.tup [e,g])) (.ref p) (BZ (y,u)):=DV.upd2 F C D;generalize upd H p (.tup [e,g])=Y at j G ⊢;refine ⟨v,.ref p,ps,(y,u),100,18,rfl,hb.keep j,O.good,G,rb,by omega,λ t l Z at_ a0 I o hl q J b=>?_⟩
 refine ⟨_,rfl,t,_,_,_,rfl,rfl,SqT.of q,rfl,rfl,_,rfl,?_⟩;rw [jh b];unfold Rj at k;cases r:(walk ps (y,u)).2 with
 | none=>
  rw [r] at k;refine BV rfl ?_;obtain ⟨z,hz,L⟩:=DVs.last J (d:=BZ (GZ ps (y,u))) (by rw [List.getLast?_map,XH];rfl)
  have M:=cH O rb;have N:=all2 M.1 M.2;refine ⟨_,rfl,t,_,_,_,rfl,rfl,SqT.of q,rfl,_,rfl,l,_,_,_,rfl,rfl,SqL.of hl,VM hz,z,[(GZ ps (y,u)).1,(GZ ps (y,u)).2],rfl,.inr L,N,(by show 2<=60;decide),λ a1 V=>?_⟩
  have a2:=Ju N (by show 2<=5;decide)
  exact ⟨_,_,rfl,rfl,CT (by rw [show (Z7 "by ").length=3 by decide+kernel];omega),k _ (j.trans (I.trans V))⟩
 | some n=>
  rw [r] at k b;refine Bk rfl ?_;obtain rfl:=DV.int_of b;have o:((n:Int)).natAbs.log2 < 1920:=Nk (by
   have C:=(pK r).1;have D:=O.1;rw [YO];exact Y4 (show n < 2 ^ 3 by omega) (JY ⋯ ⋯))
  refine ⟨_,rfl,t,_,_,_,rfl,rfl,SqT.of q,rfl,_,rfl,o,?_⟩;have a3:=Ro o;exact ⟨_,_,rfl,rfl,CT (by rw [show (Z7 "stopped ").length=8 by decide+kernel];omega),k _ (j.trans I)⟩
theorem AY0 (T:Txt K mg ad):CalB P w K mg base true 12 "table_answer" ["bench","numbers"] (GQ K oG):=by
 refine T.ZC.calN AU7 (λ _ _ _ _ _ _=>Bg λ _ _=>rfl) (λ vs H Q E h=>?_) (λ f p A outer s H vs Q E e h=>?_)
 ·obtain ⟨_,_,_,_,_,rfl,_⟩:=h;rfl
 obtain ⟨v,u0,ps,qs,t,rfl,hb,j,r,rfl,k⟩:=h;have u:=ZH (18+1) j.1;refine ⟨_,(Aj (Ar (Ag (Lz T) e.m Af (BX (Ag (Gf T) e.m Af (Ac (pv 0) Aa)) Aa)))),?_⟩
 refine ⟨_,rfl,_,_,.cons hb .nil,⟨ps,18,rfl,j.good,by omega,rfl⟩,λ l x n g=>?_⟩
 have tb:=j.tb;exact ⟨l,[(tabOf ps).a,(tabOf ps).b,(tabOf ps).c,(tabOf ps).d],rfl,.inr g,(λ q i=>by
  simp only [X1,ZN,or_false] at i;rcases i with rfl | rfl | rfl | rfl
  ·exact tb.a.mono ⋯
  ·exact tb.b.mono ⋯
  ·exact tb.c.mono ⋯
  ·exact tb.d.mono ⋯),(by show 4<=60;decide),λ y o=>k _ (n.trans o)⟩
theorem Ae2 (T:Txt K mg ad):CalB P w K mg base true 12 "apart_answer" ["bench","numbers"] (GQ K lX):=by
 refine T.Ti.calN sO (λ _ _ _ _ _ _=>Bg λ _ _=>rfl) (λ vs H Q E h=>?_) (λ f o A outer s H vs Q E a h=>?_)
 ·obtain ⟨_,_,_,_,_,rfl,_⟩:=h;rfl
 obtain ⟨v,u0,ps,qs,t,rfl,hb,e,p,rfl,k⟩:=h;have q:=ZH (18+1) e.1;have tk:=dZ e.tb (Ft ps);refine ⟨_,(Aj (Ar (Ag (kZ T) a.m Af (BX (Ag (eN T) a.m Af (BX (Ag (Gf T) a.m Af (Ac (pv 0) Aa)) Aa)) Aa)))),?_⟩
 refine ⟨_,rfl,_,_,.cons hb .nil,⟨ps,18,rfl,e.good,by omega,rfl⟩,λ g r i b=>?_⟩
 refine ⟨g,tabOf ps,154,rfl,b,e.tb,by decide,Ft ps,λ l u xs j x hl d=>?_⟩
 exact ⟨.ref l,Cv (tabOf ps),rfl,.lst (SqL.of hl) d,tk.1,tk.2,λ y n=>k _ (i.trans (j.trans n))⟩
theorem pZ (T:Txt K mg ad):CalB P w K mg base true 12 "image_answer" ["bench","numbers"] (GQ K cg):=by
 refine T.Xx.calN Tn (λ _ _ _ _ _ _=>Bg λ _ _=>rfl) (λ vs H Q E h=>?_) (λ f U A outer s H vs Q E g h=>?_)
 ·obtain ⟨_,_,_,_,_,rfl,_⟩:=h;rfl
 obtain ⟨v,u0,ps,qs,t,rfl,hb,D,F,⟨y,rfl,d,rfl⟩,k⟩:=h;obtain ⟨a,xs,rfl,ha,q⟩:=DV.lst_of F;obtain ⟨r,V,rfl,u,x⟩:=q.cons_of;obtain rfl:=x.nil_of;have W:=ZH (18+1) D.1;have tb:=D.tb;refine ⟨_,(Ah (Aw (i:=2) Tn.nd (Ag (Gf T) g.m Af (Ac (pv 0) Aa))) (Ah (Aw (i:=3) Tn.nd (Ag (RZ T) g.m Af (Ac (pv 2) (Am (Ae BK (pv 1) Ab) Aa)))) (Aj (Ar (Fy (BR Gi (pv 3) Ec) (Bb (v:=.str "none") rfl T.ex.m_NONE ⟨_,rfl⟩) (Ag (Lz T) g.m Af (lM (CW (Ac (pv 3) (BX (Ag (jz T) g.m Af (Ac (pv 2) (Am (Ae BK (pv 1) Ab) Aa))) Aa))) Aa))))))),?_⟩
 refine ⟨_,rfl,_,_,.cons hb .nil,⟨ps,18,rfl,D.good,by omega,rfl⟩,λ X Y n j=>?_⟩
 refine ⟨_,rfl,_,rfl,a,_,_,r,rfl,rfl,ha.keep n,rfl,_,_,.cons j (.cons (u.keep n) .nil),⟨tabOf ps,y,154,rfl,tb,Ft ps,d.mono ⋯,by decide,rfl⟩,λ G I z b=>?_⟩
 have t2:=n.trans z;unfold Qp at k;cases e:img (tabOf ps) y with
 | none=>
  rw [e] at b k;obtain rfl:=DV.non_of b;exact ⟨_,rfl,rfl,_,rfl,Bk ⋯ (k _ t2)⟩
 | some p=>
  rw [e] at b k;obtain ⟨J,L⟩:=dC D d e;have M:Jy (tabOf ps) y=some (1 / (spread (tabOf ps) y).2):=by
   unfold img at e;unfold Jy
   split at e
   ·cases e
   ·rename_i hz;rw [if_neg hz]
  obtain ⟨N,Z,a0,rfl,_,_,_⟩:=DV.t2 (show DV K I G (.tuple [.int p.num,.int (p.den:Int)]) from b)
  refine ⟨_,rfl,rfl,_,rfl,BV (by simp) ?_⟩
  refine ⟨_,rfl,_,rfl,_,rfl,a,_,_,r,rfl,rfl,ha.keep t2,rfl,_,_,.cons (j.keep z) (.cons (u.keep t2) .nil),⟨tabOf ps,y,154,rfl,tb,Ft ps,d.mono ⋯,by decide,rfl⟩,λ O a1 B l=>?_⟩
  rw [M] at l;refine ⟨(by show 2<=Y3;decide),λ R C=>?_⟩
  have o:=Ao C (.lst [.ref N,O]);exact ⟨.ref R,[p,1 / (spread (tabOf ps) y).2],rfl,.inl (.lst (SqL.of Aq) (.cons (b.keep (B.trans o)) (.cons (l.keep o) .nil))),all2 J L,(by show 2<=60;decide),λ a2 S=>k _ (t2.trans (B.trans (o.trans S)))⟩
theorem zf (T:Txt K mg ad):CalB P w K mg base true 12 "rounds_answer" ["bench","numbers"] (GQ K iQ):=by
 refine T.Uz.calN gM (λ _ _ _ _ _ _=>Bg λ _ _=>rfl) (λ vs H Q E h=>?_) (λ f o A outer s H vs Q E b h=>?_)
 ·obtain ⟨_,_,_,_,_,rfl,_⟩:=h;rfl
 obtain ⟨v,u0,ps,qs,t,rfl,hb,l,p,rfl,k⟩:=h;have q:=ZH (18+1) l.1;refine ⟨_,(Ah (Aw (i:=2) gM.nd (Ag (oA T) b.m Af (BX (Ag (Gf T) b.m Af (Ac (pv 0) Aa)) Aa))) (Aj (Ar (Fy (BR Gi (pv 2) Ec) Ba (Ga aR rfl T.str HR (Ac (pv 2) Aa)))))),?_⟩
 refine ⟨_,rfl,_,_,.cons hb .nil,⟨ps,18,rfl,l.good,by omega,rfl⟩,λ r u d g=>?_⟩
 refine ⟨_,_,.cons g .nil,⟨tabOf ps,121,rfl,l.tq,Ft ps,by decide,rfl⟩,λ x y j a=>?_⟩
 unfold Ob at k;cases e:lst (tabOf ps) 6 with
 | none=>
  rw [e] at a k;obtain rfl:=DV.non_of a;exact ⟨_,rfl,rfl,_,rfl,Bk ⋯ (k _ (d.trans j))⟩
 | some n=>
  rw [e] at a k;obtain rfl:=DV.int_of a;refine ⟨_,rfl,rfl,_,rfl,BV (by simp) ⟨_,rfl,_,rfl,Nk ?_,k _ (d.trans j)⟩⟩
  rw [YO];exact Y4 (show n < 2 ^ 3 by have:=(Ph e).2;omega) (JY ⋯ ⋯)
theorem xn (T:Txt K mg ad):CalB P w K mg base true 12 "field_answer" ["bench","numbers"] (GQ K pH):=by
 refine T.Z2.calN mQ (λ _ _ _ _ _ _=>Bg λ _ _=>rfl) (λ vs H Q E h=>?_) (λ f a4 A outer s H vs Q E e h=>?_)
 ·obtain ⟨_,_,_,_,_,rfl,_⟩:=h;rfl
 obtain ⟨v,u0,ps,qs,t,rfl,hb,C,U,⟨x,rfl,D,G,rfl⟩,k⟩:=h;obtain ⟨a,xs,rfl,ha,I⟩:=DV.lst_of U;have a5:=ZH (18+1) C.1;have J:=C.field D G;have W:=lL J;have u:=iR C D G;refine ⟨_,(Ah (Aw (i:=2) mQ.nd (Ag (jH T) e.m Af (Ac (pv 0) (BX (Ga xZ rfl T.tuple N7 (Ac (pv 1) Aa)) Aa)))) (Aj (Ar (Fy (BR (Gh e.units) (pv 2) (CW Aa)) (Bb (v:=.str "none") rfl T.ex.m_NONE ⟨_,rfl⟩) (Ca Yr WV WZ Hn Ba (DY (G4 ["corner"] [none] rfl (Dt (pv 2)) (λ _ _ _ _ _=>(Bp (i:=0) (show Uu [("corner":Str)] by decide))) (λ _ _ _ _ _=>FQ) (λ _ _ _ _ _=>(Ag (Lz T) e.m Af (Ac (pv 0) Aa))) (Fo ⋯ ⋯) ⋯ rfl ⋯ rfl (Fw rfl)) Aa)))))),?_⟩
 refine ⟨_,rfl,_,rfl,a,_,rfl,.inl ⟨ha,λ p X=>?_⟩⟩
 have g:=Ao X (.tup xs);have L:DV K (upd H p (.tup xs)) (.ref p) (Ia x):=.tup (SqT.of Aq) (I.keep g);generalize upd H p (.tup xs)=a6 at g L ⊢;refine ⟨v,.ref p,ps,x,18,67,17,rfl,hb.keep g,L,C.good,by omega,J,by decide,λ l M z Y a7 hl b=>?_⟩
 have hd:DV K z (.ref l) (Hs (GK (Bv ps) x)):=.lst (SqL.of hl) b;generalize GK (Bv ps) x=cs at W u b hd k;have Z:M.length=cs.length:=by have:=b.len;rw [Y2] at this;exact this
 have t2:=g.trans Y;refine ⟨_,rfl,(by show 0<=Y3;decide),λ B N=>?_⟩
 have j:=Ao N (.lst ([]:List V));have O:DV K (upd z B (.lst ([]:List V))) (.ref B) (.list []):=.lst (SqL.of Aq) .nil;have hl:=j _ _ hl;have b:=b.keep j;have t3:=t2.trans j;have hd:=hd.keep j;generalize upd z B (.lst ([]:List V))=a0 at O hl b t3 hd ⊢;refine dJ hd O (Xm (fu O9 cs)) ⟨_,rfl,?_⟩;unfold Qu at k;by_cases hc:cs=[]
 ·subst hc;exact Bk rfl (k _ t3)
 ·rw [if_neg hc] at k;refine BV (by cases cs with | nil=>exact absurd rfl hc | cons _ _=>rfl) ?_
  refine ⟨rfl,_,rfl,l,rfl,⟨_,SqL.of hl⟩,?_⟩;refine JD (K:=K) (a:=l) (xs:=M) (λ i n o q=>∃c0,n=[c0]/\o=((cs.take i).map λ r=>Es [r.1,r.2]).map V.str/\Same a0 q) ⟨_,rfl,rfl,Same.refl _⟩ ?_ ?_ ?_
  ·rintro i n o q hi ⟨c0,rfl,rfl,s'⟩
   refine ⟨?_,SqL.of (s' _ _ hl)⟩;rw [Y2,Y2,YG];exact XG (small1000 (by have:=C.1;omega))
  ·rintro i y n o q hi ⟨c0,rfl,rfl,s'⟩
   obtain ⟨d,hd,a1⟩:=b.get hi;rw [Yf] at hd;obtain ⟨r,e,rfl⟩:=yk.mp hd;have R:=u r (ZI e);refine ⟨_,rfl,y,[r.1,r.2],rfl,.inr (a1.keep s'),all2 R.1 R.2,(by show 2<=60;decide),λ a8 a2=>nx (CQ hi) ⟨_,rfl,?_,s'.trans a2⟩⟩
   rw [YU,e,ZB,ZB];rfl
  ·rintro n o q a3 ⟨c0,rfl,rfl,s'⟩ S
   rw [Z,YX];exact ⟨_,a3,_,rfl,rfl,Aq,cC u (by have:=C.1;omega),k _ (t3.trans (s'.trans (Ao S _)))⟩
theorem Aj6 (T:Txt K mg ad):CalB P w K mg base true 12 "sharp_answer" ["bench","numbers"] (GQ K Up):=by
 refine T.Sq.calN QC (λ _ _ _ _ _ _=>Bg λ _ _=>rfl) (λ vs H Q E h=>?_) (λ f b8 A outer s H vs Q E D h=>?_)
 ·obtain ⟨_,_,_,_,_,rfl,_⟩:=h;rfl
 obtain ⟨v,u0,ps,qs,t,rfl,hb,J,a1,⟨x,m,rfl,q,a2,L,rfl⟩,k⟩:=h;obtain ⟨a,xs,rfl,ha,M⟩:=DV.lst_of a1;obtain ⟨B,b9,rfl,a3,N⟩:=M.cons_of;obtain ⟨C,a4,a5,a6,rfl,a7,a8,a9,b0⟩:=N.four;have c0:=ZH (18+1) J.1;refine ⟨_,(Ah (Aw (i:=2) QC.nd (Bh (Am (Ae BK (pv 1) Ab) (Am (Ae BK (pv 1) Ab) Aa)))) (Ah (Aw (i:=3) QC.nd (Ag (cj T) D.m Af (Ac (pv 0) (Ac (pv 2) (Am (Ae BK (pv 1) Ab) (Am (Ae BK (pv 1) Ab) Aa)))))) (Ah (BJ (BR Gi (pv 3) Ec) (Aj (Ar Ba)) BL) (Ah (Aw (i:=4) QC.nd (Ag (gW T) D.m Af (Ac (pv 0) (Ac (pv 2) (Ac (pv 3) (Am (Ae BK (pv 1) Ab) Aa)))))) (Aj (Ar (Fy (BR Hu (Br Do rfl T.len Dc (Ac (pv 4) Aa)) Ab) (Ag (Lz T) D.m Af (Am (Ea LR (pv 4) (Cu Ab) FJ) Aa)) (Ae Al (pv 4) Ab)))))))),?_⟩
 refine ⟨_,rfl,a,_,_,B,rfl,rfl,ha,rfl,_,rfl,a,_,_,C,rfl,rfl,ha,rfl,(by show 2<=Y3;decide),λ p O=>?_⟩
 have n:=Ao O (.tup [B,C]);have F:DV K (upd H p (.tup [B,C])) (.ref p) (pairD x.h x.s):=DV.upd2 O a3 a7;generalize upd H p (.tup [B,C])=c2 at n F ⊢;refine ⟨_,rfl,_,rfl,_,rfl,a,_,_,a4,rfl,rfl,ha.keep n,rfl,_,rfl,a,_,_,a5,rfl,rfl,ha.keep n,rfl,_,_,.cons (hb.keep n) (.cons F (.cons (a8.keep n) (.cons (a9.keep n) .nil))),⟨ps,x.h,x.s,x.f,x.l,18,12,1000,rfl,J.good,q.h,q.s,q.f.mono ⋯,q.l.mono ⋯,q.o,by omega,by decide,rfl⟩,λ b1 b2 R j=>?_⟩
 have t2:=n.trans R;unfold Yu at k;cases e:Fz (Bv ps) x.h x.s x.f x.l with
 | none=>
  rw [e] at j k;obtain rfl:=DV.non_of j;exact ⟨_,rfl,rfl,_,rfl,Bk ⋯ (k _ t2)⟩
 | some b3=>
  obtain ⟨r,g'⟩:=b3;have S:=J.lpv q e;rw [e] at j k;obtain ⟨c3,c4,c5,rfl,_,_,_⟩:=DV.t2 (show DV K b2 b1 (.tuple [Ak r,Ak g']) from j)
  refine ⟨_,rfl,rfl,_,rfl,BV (by simp) ?_⟩
  refine ⟨_,rfl,_,rfl,_,rfl,_,rfl,a,_,_,a6,rfl,rfl,ha.keep t2,rfl,_,_,.cons (hb.keep t2) (.cons (F.keep R) (.cons j (.cons (b0.keep t2) .nil))),⟨ps,⟨x.h,x.s,r,g'⟩,m,rfl,J.good,ZE J.1 ⋯,S,a2,L.mono ⋯,rfl⟩,λ U V b4 d=>?_⟩
  have t3:=t2.trans b4;have k:∀u,Same H u->Q (.str (Kg (tabOf ps) ⟨x.h,x.s,r,g'⟩ m)) u:=k;unfold Pa at d;unfold Kg at k;by_cases G:growing (tabOf ps) ⟨x.h,x.s,r,g'⟩=0
  ·rw [if_pos G] at d k;have one:∀z:Y1,DV K V U (.tuple [.str z])->(∀u,Same H u->Q (.str z) u)->∃b,U=.ref b/\SqT K V b [.str z]:=λ z hz _=>by
    obtain ⟨b,y,rfl,g,W⟩:=t1 hz;obtain rfl:=DV.str_of W;exact ⟨b,rfl,g⟩
   split at d
   ·rename_i c1
    rw [if_pos c1] at k;obtain ⟨b,rfl,g⟩:=one _ d k;exact ⟨_,rfl,b,_,rfl,.inr g,_,_,rfl,rfl,_,rfl,BV rfl ⟨_,rfl,b,_,_,_,rfl,rfl,g,rfl,k _ t3⟩⟩
   ·rename_i c1
    rw [if_neg c1] at k;obtain ⟨b,rfl,g⟩:=one _ d k;exact ⟨_,rfl,b,_,rfl,.inr g,_,_,rfl,rfl,_,rfl,BV rfl ⟨_,rfl,b,_,_,_,rfl,rfl,g,rfl,k _ t3⟩⟩
  ·rw [if_neg G] at d k;obtain ⟨b,b5,X,Y,rfl,g,e0,e1,e2⟩:=DV.t3 d;have Z:=gr J.tb S L G;refine ⟨_,rfl,b,_,rfl,.inr g,_,_,rfl,rfl,_,rfl,Bk rfl ?_⟩;refine ⟨_,rfl,_,rfl,b,_,rfl,g,(λ e=>by rw [K3] at e;simp only [X2] at e;omega),λ b6 a0=>?_⟩
   rw [Kw];have I:=Ao a0 (.tup ([b5,X,Y].drop 1));exact ⟨.ref b6,[mid (tabOf ps) x.s - reach (tabOf ps) ⟨x.h,x.s,r,g'⟩ m,mid (tabOf ps) x.s+reach (tabOf ps) ⟨x.h,x.s,r,g'⟩ m],rfl,.inr (.tup (SqT.of Aq) (.cons (e1.keep I) (.cons (e2.keep I) .nil))),all2 Z.1 Z.2,(by show 2<=60;decide),λ c6 b7=>k _ (t3.trans (I.trans b7))⟩
theorem LQ (T:Txt K mg ad):CalB P w K mg base true 3 "_law_row" ["_law_parts_here"] (oJ K):=by
 refine T.Vv.calN vU (λ _ _ _ _ _ _=>by1 λ _=>rfl) (λ vs H Q E h=>?_) (λ f g A outer s H vs Q E b h=>?_)
 ·obtain ⟨_,_,rfl,_⟩:=h;rfl
 obtain ⟨v,qs,rfl,hv,big,a,q⟩:=h;refine ⟨_,(Aj (Ar (Ca Yr WV WZ Hn Ba (DY (G4 ["_law_part_here"] [none] rfl (jP (pv 0)) (λ _ _ _ _ _=>(Bp (i:=0) (show Uu [("_law_part_here":Str)] by decide))) (λ _ _ _ _ _=>FQ) (λ _ _ _ _ _=>(Ag (Y0 T) b.m Af (Ac (pv 0) Aa))) (Fo ⋯ ⋯) ⋯ rfl ⋯ rfl (Fw rfl)) Aa)))),?_⟩
 exact ⟨rfl,gj hv big a λ p j d e=>⟨_,p,qs.map Ay,rfl,rfl,e,gO big a,q _ d⟩⟩
theorem Ac7 (T:Txt K mg ad):CalB P w K mg base true 6 "_law_walk" ["_law_bench","_law_parts_here"] (GQ K Tr):=by
 refine T.WY.calN V3 (λ _ _ _ _ _ _=>Bg λ _ _=>rfl) (λ vs H Q E h=>?_) (λ f W A outer s H vs Q E o h=>?_)
 ·obtain ⟨_,_,_,_,_,rfl,_⟩:=h;rfl
 obtain ⟨v,u0,ps,qs,t,rfl,hb,L,M,⟨y,u,rfl,N,O,rfl⟩,k⟩:=h;obtain ⟨a,xs,rfl,ha,r⟩:=DV.lst_of M;obtain ⟨e,g,rfl,R,S⟩:=r.two;have rb:=mX N O;have X:=ZH (18+1) L.1;refine ⟨_,(Ah (I9 (Ag (bC T) o.m Af (Ac (pv 0) (DG (Bh (Am (Ae BK (pv 1) Ab) (Am (Ae BK (pv 1) Ab) Aa))) Aa))) (JV (n:=2) rfl (Eb (Bp (i:=2) V3.nd) (Eb (Bp (i:=3) V3.nd) HD)))) (Ah (BJ (BR Gi (pv 3) Ec) (Aj (Ar (Ax Ce Ba (Ag (LQ T) o.m Af (Am (Ae BK (pv 2) (W9 WW Ab)) Aa))))) BL) (Aj (Ar (Ax Ce Ba (Ag (XS T) o.m Af (Ac (pv 3) Aa))))))),?_⟩
 refine ⟨_,rfl,_,rfl,a,_,_,e,rfl,rfl,ha,rfl,_,rfl,a,_,_,g,rfl,rfl,ha,rfl,(by show 2<=Y3;decide),λ p x=>?_⟩
 have j:=Ao x (.tup [e,g]);have B:DV K (upd H p (.tup [e,g])) (.ref p) (BZ (y,u)):=DV.upd2 x R S;generalize upd H p (.tup [e,g])=Y at j B ⊢;refine ⟨v,.ref p,ps,(y,u),100,18,rfl,hb.keep j,L.good,B,rb,by omega,λ t l Z at_ a0 C a1 hl U D b=>?_⟩
 refine ⟨t,_,rfl,SqT.of U,rfl,_,_,rfl,_,_,rfl,rfl,?_⟩;refine ⟨_,rfl,rfl,_,rfl,?_⟩;rw [jh b];unfold Rj at k;cases q:(walk ps (y,u)).2 with
 | none=>
  rw [q] at k;refine iteT ?_;obtain ⟨z,hz,F⟩:=DVs.last D (d:=BZ (GZ ps (y,u))) (by rw [List.getLast?_map,XH];rfl)
  have G:=cH L rb;have I:=all2 G.1 G.2;have a2:=Ju I (by show 2<=5;decide)
  refine ⟨_,rfl,_,rfl,l,_,_,_,rfl,rfl,SqL.of hl,VM hz,z,[(GZ ps (y,u)).1,(GZ ps (y,u)).2],rfl,.inr F,I,(by show 2<=60;decide),λ a3 V=>?_⟩
  exact ⟨_,_,rfl,rfl,CT (by rw [show (Z7 "by ").length=3 by decide+kernel];omega),k _ (j.trans (C.trans V))⟩
 | some n=>
  rw [q] at k b;refine iteF ?_;obtain rfl:=DV.int_of b;have J:n < 8:=by have:=(pK q).1;have:=L.1;omega
  refine ⟨_,rfl,n,rfl,jE J,λ z hz=>?_⟩
  obtain rfl:=kO hz;have:=AG4 (o9 J);exact ⟨_,_,rfl,rfl,CT (by rw [show (Z7 "stopped ").length=8 by decide+kernel];omega),k _ (j.trans C)⟩
theorem AV6 (T:Txt K mg ad):CalB P w K mg base true 8 "_law_image" ["_law_bench","_law_s"] (xg K):=by
 refine T.S8.calN jO (λ _ _ _ _ _ _=>Bg λ _ _=>rfl) (λ vs H Q E h=>?_) (λ f N A outer s H vs Q E b h=>?_)
 ·obtain ⟨_,_,_,_,rfl,_⟩:=h;rfl
 obtain ⟨v,u0,ps,y,rfl,hb,l,n,d,k⟩:=h;have O:=ZH (18+1) l.1;have tb:=l.tb;refine ⟨_,(Ah (Aw (i:=2) jO.nd (Ag (RZ T) b.m Af (BX (Ag (Gf T) b.m Af (Ac (pv 0) Aa)) (Ac (pv 1) Aa)))) (Ah (BJ (BR Gi (pv 2) Ec) (Aj (Ar Ba)) BL) (Aj (Ar (Ag (LQ T) b.m Af (lM (CW (Ac (pv 2) (BX (Ag (jz T) b.m Af (BX (Ag (Gf T) b.m Af (Ac (pv 0) Aa)) (Ac (pv 1) Aa))) Aa))) Aa)))))),?_⟩
 refine ⟨_,rfl,_,_,.cons hb .nil,⟨ps,18,rfl,l.good,by omega,rfl⟩,λ R S o q=>?_⟩
 refine ⟨_,rfl,_,_,.cons q (.cons (n.keep o) .nil),⟨tabOf ps,y,154,rfl,tb,Ft ps,d.mono ⋯,by decide,rfl⟩,λ z B C a=>?_⟩
 have t2:=o.trans C;unfold Qp at k;cases e:img (tabOf ps) y with
 | none=>
  rw [e] at a k;obtain rfl:=DV.non_of a;exact ⟨_,rfl,rfl,_,rfl,Bk ⋯ (k _ t2)⟩
 | some p=>
  rw [e] at a k;obtain ⟨D,F⟩:=dC l d e;have G:Jy (tabOf ps) y=some (1 / (spread (tabOf ps) y).2):=by
   unfold img at e;unfold Jy
   split at e
   ·cases e
   ·rename_i hz;rw [if_neg hz]
  obtain ⟨I,U,V,rfl,_,_,_⟩:=DV.t2 (show DV K B z (.tuple [.int p.num,.int (p.den:Int)]) from a)
  refine ⟨_,rfl,rfl,_,rfl,BV (by simp) ?_⟩
  refine ⟨_,rfl,_,rfl,_,_,.cons (hb.keep t2) .nil,⟨ps,18,rfl,l.good,by omega,rfl⟩,λ W X r t=>?_⟩
  have t3:=t2.trans r;refine ⟨_,rfl,_,_,.cons t (.cons (n.keep t3) .nil),⟨tabOf ps,y,154,rfl,tb,Ft ps,d.mono ⋯,by decide,rfl⟩,λ J Y u g=>?_⟩
  rw [G] at g;refine ⟨(by show 2<=Y3;decide),λ L x=>?_⟩
  have j:=Ao x (.lst [.ref I,J]);exact ⟨.ref L,[p,1 / (spread (tabOf ps) y).2],rfl,.inl (.lst (SqL.of Aq) (.cons (a.keep (r.trans (u.trans j))) (.cons (g.keep j) .nil))),all2 D F,(by show 2<=60;decide),λ Z M=>k _ (t3.trans (u.trans (j.trans M)))⟩
theorem qY (T:Txt K mg ad):CalB P w K mg base true 8 "_law_rounds" ["_law_bench"] (AH2 K):=by
 refine T.VN.calN iw (λ _ _ _ _ _ _=>by1 λ _=>rfl) (λ vs H Q E h=>?_) (λ f o A outer s H vs Q E b h=>?_)
 ·obtain ⟨_,_,rfl,_⟩:=h;rfl
 obtain ⟨v,ps,rfl,hb,l,k⟩:=h;have p:=ZH (18+1) l.1;refine ⟨_,(Ah (Aw (i:=1) iw.nd (Ag (oA T) b.m Af (BX (Ag (Gf T) b.m Af (Ac (pv 0) Aa)) Aa))) (Ah (BJ (BR Gi (pv 1) Ec) (Aj (Ar Ba)) BL) (Aj (Ar (Ag (XS T) b.m Af (Ac (pv 1) Aa)))))),?_⟩
 refine ⟨_,rfl,_,_,.cons hb .nil,⟨ps,18,rfl,l.good,by omega,rfl⟩,λ q r d g=>?_⟩
 refine ⟨_,_,.cons g .nil,⟨tabOf ps,121,rfl,l.tq,Ft ps,by decide,rfl⟩,λ t u j a=>?_⟩
 unfold Ob at k;cases e:lst (tabOf ps) 6 with
 | none=>
  rw [e] at a k;obtain rfl:=DV.non_of a;exact ⟨_,rfl,rfl,_,rfl,Bk ⋯ (k _ (d.trans j))⟩
 | some n=>
  rw [e] at a k;obtain rfl:=DV.int_of a;refine ⟨_,rfl,rfl,_,rfl,BV (by simp) ⟨_,rfl,n,rfl,jE (by have:=(Ph e).2;omega),λ z hz=>?_⟩⟩
  obtain rfl:=kO hz;exact k _ (d.trans j)
theorem vG (T:Txt K mg ad):CalB P w K mg base true 8 "_law_field" ["_law_bench","_law_parts_here"] (z8 K):=by
 refine T.Td.calN mV (λ _ _ _ _ _ _=>Bg λ _ _=>rfl) (λ vs H Q E h=>?_) (λ f b2 A outer s H vs Q E e h=>?_)
 ·obtain ⟨_,_,_,_,_,rfl,_⟩:=h;rfl
 obtain ⟨v,u0,ps,x,e0,rfl,hb,I,Z,J,L,k⟩:=h;obtain ⟨a,xs,rfl,ha,M⟩:=DV.lst_of Z;obtain ⟨g,b3,rfl,a0,N⟩:=M.cons_of;obtain ⟨j,n,o,b4,rfl,a1,a2,a3,b5⟩:=N.four;have b6:=ZH (18+1) I.1;have O:=I.field J L;have a4:=lL O;have C:=iR I J L;refine ⟨_,(Ah (Aw (i:=2) mV.nd (Ag (jH T) e.m Af (Ac (pv 0) (DG (Bh (Am (Ae BK (pv 1) Ab) (Am (Ae BK (pv 1) Ab) (Am (Ae BK (pv 1) Ab) (Am (Ae BK (pv 1) Ab) Aa))))) Aa)))) (Ah (BJ (BR (Gh e.units) (pv 2) (CW Aa)) (Aj (Ar Ba)) BL) (Aj (Ar (Ca Yr WV WZ Hn Ba (DY (G4 ["_law_ray"] [none] rfl (Dt (pv 2)) (λ _ _ _ _ _=>(Bp (i:=0) (show Uu [("_law_ray":Str)] by decide))) (λ _ _ _ _ _=>FQ) (λ _ _ _ _ _=>(Ag (LQ T) e.m Af (Ac (pv 0) Aa))) (Fo ⋯ ⋯) ⋯ rfl ⋯ rfl (Fw rfl)) Aa)))))),?_⟩
 refine ⟨_,rfl,_,rfl,a,_,_,g,rfl,rfl,ha,rfl,_,rfl,a,_,_,j,rfl,rfl,ha,rfl,_,rfl,a,_,_,n,rfl,rfl,ha,rfl,_,rfl,a,_,_,o,rfl,rfl,ha,rfl,(by show 4<=Y3;decide),λ p a5=>?_⟩
 have q:=Ao a5 (.tup [g,j,n,o]);have R:DV K (upd H p (.tup [g,j,n,o])) (.ref p) (Ia x):=.tup (SqT.of Aq) ((DVs.cons a0 (.cons a1 (.cons a2 (.cons a3 .nil)))).keep q);generalize upd H p (.tup [g,j,n,o])=b7 at q R ⊢;refine ⟨v,.ref p,ps,x,18,67,17,rfl,hb.keep q,R,I.good,by omega,O,by decide,λ l S D a6 b8 hl b=>?_⟩
 have hd:DV K D (.ref l) (Hs (GK (Bv ps) x)):=.lst (SqL.of hl) b;generalize GK (Bv ps) x=cs at a4 C b hd k;have a7:S.length=cs.length:=by have:=b.len;rw [Y2] at this;exact this
 have t2:=q.trans a6;refine ⟨_,rfl,(by show 0<=Y3;decide),λ G U=>?_⟩
 have t:=Ao U (.lst ([]:List V));have W:DV K (upd D G (.lst ([]:List V))) (.ref G) (.list []):=.lst (SqL.of Aq) .nil;have hl:=t _ _ hl;have b:=b.keep t;have t3:=t2.trans t;have hd:=hd.keep t;generalize upd D G (.lst ([]:List V))=a8 at W hl b t3 hd ⊢;refine dJ hd W (Xm (fu O9 cs)) ⟨_,rfl,?_⟩;unfold Qu at k;by_cases hc:cs=[]
 ·subst hc;exact Bk rfl (k _ t3)
 ·rw [if_neg hc] at k;refine BV (by cases cs with | nil=>exact absurd rfl hc | cons _ _=>rfl) ?_
  refine ⟨rfl,_,rfl,l,rfl,⟨_,SqL.of hl⟩,?_⟩;refine JD (K:=K) (a:=l) (xs:=S) (λ i u z B=>∃c0,u=[c0]/\z=((cs.take i).map λ r=>Es [r.1,r.2]).map V.str/\Same a8 B) ⟨_,rfl,rfl,Same.refl _⟩ ?_ ?_ ?_
  ·rintro i u z B hi ⟨c0,rfl,rfl,s'⟩
   refine ⟨?_,SqL.of (s' _ _ hl)⟩;rw [Y2,Y2,YG];exact XG (small1000 (by have:=I.1;omega))
  ·rintro i y u z B hi ⟨c0,rfl,rfl,s'⟩
   obtain ⟨d,hd,a9⟩:=b.get hi;rw [Yf] at hd;obtain ⟨r,e,rfl⟩:=yk.mp hd;have X:=C r (ZI e);refine ⟨_,rfl,y,[r.1,r.2],rfl,.inr (a9.keep s'),all2 X.1 X.2,(by show 2<=60;decide),λ b9 b0=>nx (CQ hi) ⟨_,rfl,?_,s'.trans b0⟩⟩
   rw [YU,e,ZB,ZB];rfl
  ·rintro u z B b1 ⟨c0,rfl,rfl,s'⟩ Y
   rw [a7,YX];exact ⟨_,b1,_,rfl,rfl,Aq,cC C (by have:=I.1;omega),k _ (t3.trans (s'.trans (Ao Y _)))⟩
theorem vX (T:Txt K mg ad):CalB P w K mg base true 10 "_law_sharp" ["_law_bench","_law_parts_here"] (GQ K Up):=by
 refine T.Sy.calN aX (λ _ _ _ _ _ _=>Bg λ _ _=>rfl) (λ vs H Q E h=>?_) (λ f c4 A outer s H vs Q E F h=>?_)
 ·obtain ⟨_,_,_,_,_,rfl,_⟩:=h;rfl
 obtain ⟨v,u0,ps,qs,t,rfl,hb,N,a9,⟨x,m,rfl,B,b0,O,rfl⟩,k⟩:=h;obtain ⟨a,xs,rfl,ha,R⟩:=DV.lst_of a9;obtain ⟨j,c6,rfl,S,U⟩:=R.cons_of;obtain ⟨n,b1,b2,b3,rfl,W,b4,b5,b6⟩:=U.four;have c7:=ZH (18+1) N.1;refine ⟨_,(Ah (Aw (i:=2) aX.nd (Ag (cj T) F.m Af (Ac (pv 0) (DG (Bh (Am (Ae BK (pv 1) Ab) (Am (Ae BK (pv 1) Ab) Aa))) (Am (Ae BK (pv 1) Ab) (Am (Ae BK (pv 1) Ab) Aa)))))) (Ah (BJ (BR Gi (pv 2) Ec) (Aj (Ar Ba)) BL) (Ah (Aw (i:=3) aX.nd (Ag (gW T) F.m Af (Ac (pv 0) (DG (Bh (Am (Ae BK (pv 1) Ab) (Am (Ae BK (pv 1) Ab) Aa))) (Ac (pv 2) (Am (Ae BK (pv 1) Ab) Aa)))))) (Ah (BJ (BR Bq (Ae Al (pv 3) Ab) Ba) (Aj (Ar (Ag (LQ T) F.m Af (Am (Ea LR (pv 3) (Cu Ab) FJ) Aa)))) BL) (Aj (Ar (Ae Al (pv 3) Ab))))))),?_⟩
 refine ⟨_,rfl,_,rfl,a,_,_,j,rfl,rfl,ha,rfl,_,rfl,a,_,_,n,rfl,rfl,ha,rfl,(by show 2<=Y3;decide),λ p X=>?_⟩
 have r:=Ao X (.tup [j,n]);have Y:DV K (upd H p (.tup [j,n])) (.ref p) (pairD x.h x.s):=DV.upd2 X S W;generalize upd H p (.tup [j,n])=c8 at r Y ⊢;refine ⟨_,rfl,a,_,_,b1,rfl,rfl,ha.keep r,rfl,_,rfl,a,_,_,b2,rfl,rfl,ha.keep r,rfl,_,_,.cons (hb.keep r) (.cons Y (.cons (b4.keep r) (.cons (b5.keep r) .nil))),⟨ps,x.h,x.s,x.f,x.l,18,12,1000,rfl,N.good,B.h,B.s,B.f.mono ⋯,B.l.mono ⋯,B.o,by omega,by decide,rfl⟩,λ b7 G b8 q=>?_⟩
 have t2:=r.trans b8;unfold Yu at k;cases e:Fz (Bv ps) x.h x.s x.f x.l with
 | none=>
  rw [e] at q k;obtain rfl:=DV.non_of q;exact ⟨_,rfl,rfl,_,rfl,Bk ⋯ (k _ t2)⟩
 | some b9=>
  obtain ⟨C,g'⟩:=b9;have Z:=N.lpv B e;rw [e] at q k;obtain ⟨c9,d0,d1,rfl,_,_,_⟩:=DV.t2 (show DV K G b7 (.tuple [Ak C,Ak g']) from q)
  refine ⟨_,rfl,rfl,_,rfl,BV (by simp) ?_⟩
  refine ⟨_,rfl,_,rfl,a,_,_,j,rfl,rfl,ha.keep t2,rfl,_,rfl,a,_,_,n,rfl,rfl,ha.keep t2,rfl,(by show 2<=Y3;decide),λ I D=>?_⟩
  have J:=Ao D (.tup [j,n]);have a0:DV K (upd G I (.tup [j,n])) (.ref I) (pairD x.h x.s):=DV.upd2 D (S.keep t2) (W.keep t2);generalize upd G I (.tup [j,n])=c5 at J a0 ⊢;have u:=t2.trans J;refine ⟨_,rfl,_,rfl,a,_,_,b3,rfl,rfl,ha.keep u,rfl,_,_,.cons (hb.keep u) (.cons a0 (.cons (q.keep J) (.cons (b6.keep u) .nil))),⟨ps,⟨x.h,x.s,C,g'⟩,m,rfl,N.good,ZE N.1 ⋯,Z,b0,O.mono ⋯,rfl⟩,λ a1 a2 c0 d=>?_⟩
  have t3:=u.trans c0;have k:∀a3,Same H a3->Q (.str (Kg (tabOf ps) ⟨x.h,x.s,C,g'⟩ m)) a3:=k;unfold Pa at d;unfold Kg at k;by_cases L:growing (tabOf ps) ⟨x.h,x.s,C,g'⟩=0
  ·rw [if_pos L] at d k;have one:∀z:Y1,DV K a2 a1 (.tuple [.str z])->∃b,a1=.ref b/\SqT K a2 b [.str z]:=λ z hz=>by
    obtain ⟨b,y,rfl,g,a4⟩:=t1 hz;obtain rfl:=DV.str_of a4;exact ⟨b,rfl,g⟩
   split at d
   ·rename_i c1
    rw [if_pos c1] at k;obtain ⟨b,rfl,g⟩:=one _ d;exact ⟨_,rfl,b,_,_,_,rfl,rfl,g,rfl,rfl,_,rfl,BV (by rw [Cy];exact η (by decide+kernel)) ⟨_,rfl,b,_,_,_,rfl,rfl,g,rfl,k _ t3⟩⟩
   ·rename_i c1
    rw [if_neg c1] at k;obtain ⟨b,rfl,g⟩:=one _ d;exact ⟨_,rfl,b,_,_,_,rfl,rfl,g,rfl,rfl,_,rfl,BV (by rw [Cy];exact η (by decide+kernel)) ⟨_,rfl,b,_,_,_,rfl,rfl,g,rfl,k _ t3⟩⟩
  ·rw [if_neg L] at d k;obtain ⟨b,d2,a5,a6,rfl,g,e0,e1,e2⟩:=DV.t3 d;obtain rfl:=DV.str_of e0;have a7:=gr N.tb Z O L;refine ⟨_,rfl,b,_,_,_,rfl,rfl,g,rfl,rfl,_,rfl,Bk (by rw [Cy];exact ζ rfl) ?_⟩
   refine ⟨_,rfl,_,rfl,b,_,rfl,g,(λ e=>by rw [K3] at e;simp only [X2] at e;omega),λ c2 a8=>?_⟩
   rw [Kw];have M:=Ao a8 (.tup ([V.str "from",a5,a6].drop 1))
   exact ⟨.ref c2,[mid (tabOf ps) x.s - reach (tabOf ps) ⟨x.h,x.s,C,g'⟩ m,mid (tabOf ps) x.s+reach (tabOf ps) ⟨x.h,x.s,C,g'⟩ m],rfl,.inr (.tup (SqT.of Aq) (.cons (e1.keep M) (.cons (e2.keep M) .nil))),all2 a7.1 a7.2,(by show 2<=60;decide),λ d3 c3=>k _ (t3.trans (M.trans c3))⟩
theorem rC (T:Txt K mg ad):CalB P w K mg base true 1 "_law_called" ["_law_number","_law_k"] Ab2:=by
 refine T.T6.calN Vc (λ _ _ _ _ _ _=>Bg λ _ _=>rfl) (λ vs H Q E h=>?_) (λ f j A outer s H vs Q E k h=>?_)
 ·obtain ⟨_,_,rfl,_⟩:=h;rfl
 obtain ⟨z,i,rfl,z0,l,n,o,q⟩:=h;refine ⟨_,(Ah (Aw (i:=2) Vc.nd (oh Ba (Ax Dq (Ax DW (Ax JW (pv 0) Ab) (Ax JP Ab (pv 1))) Ab) (λ _ _=>rfl))) (Ah (BJ (BR Bq (Ax Dq (pv 0) Ab) Ab) (Aj (Ar (Ax gP Ba (Ax DW Ab (pv 1))))) BL) (Ah (Aw (i:=3) Vc.nd (Ax Dq (Ax JW (pv 0) Ab) Ab)) (Aj (Ar (Ax Ce (Ax Ce (Ea O8 Ba FJ (Cu (pv 3))) (pv 2)) (Ea O8 Ba (Cu (pv 3)) (Cu (Ax DW (pv 3) (Ax Dq (pv 0) Ab)))))))))),?_⟩
 have hl:=ur ⟨((z / 24+5 * i) % 26).toNat,by omega⟩
 have b:=Af2 ⟨(z / 3 % 5).toNat,by omega⟩ ⟨(z % 4).toNat,by omega⟩
 have e2:(((z / 3 % 5).toNat:Nat):Int)=z / 3 % 5:=by omega
 have d:(((z % 4).toNat:Nat):Int)=z % 4:=by omega
 simp only [e2,d] at b;refine ⟨_,rfl,_,_,rfl,rfl,⟨(by show (0:Int) < 24;decide),(by show (24:Int) < 1073741824;decide)⟩,_,rfl,_,_,rfl,rfl,.inl ⟨by decide,by omega⟩,_,_,rfl,rfl,_,_,rfl,rfl,(by show (0:Int) < 26;decide),?_⟩
 refine ⟨_,_,_,rfl,rfl,by omega,by omega,?_,hl,?_⟩
 ·show (z / 24+5 * i) % 26 < ((Z7 "abcdefghijklmnopqrstuvwxyz").length:Int);rw [show (Z7 "abcdefghijklmnopqrstuvwxyz").length=26 by decide+kernel]
  omega
 refine ⟨_,rfl,_,_,rfl,rfl,(by show (0:Int) < 3;decide),rfl,_,rfl,?_⟩
 by_cases hz:z % 3=0
 ·refine Bk (by rw [GJ];exact ζ hz) ⟨_,rfl,_,_,rfl,rfl,_,_,rfl,rfl,?_,?_⟩
  ·have g:i=0\/i=1\/i=2\/i=3:=by omega
   rcases g with rfl | rfl | rfl | rfl
   ·exact ⟨by decide,λ _ h=>absurd h ⋯,λ _ h=>absurd h ⋯⟩
   ·exact ⟨by decide,λ _ _=>by decide,λ _ _=>by decide⟩
   ·exact ⟨by decide,λ _ _=>by decide,λ _ _=>by decide⟩
   ·exact ⟨by decide,λ _ _=>by decide,λ _ _=>by decide⟩
  ·have e:called z i=MZ (Z7 "m") (1+i):=if_pos hz;rw [<- e];exact q
 ·refine BV (by rw [GJ];exact η hz) ?_
  have e:called z i=JQ ((z / 24+5 * i) % 26) (z / 3 % 5) (z % 4):=if_neg hz;rw [e] at q;have a:(Z7 "lens").length<=Y3:=by decide+kernel
  refine ⟨_,rfl,_,_,rfl,rfl,⟨(by show (0:Int) < 3;decide),(by show (3:Int) < 1073741824;decide)⟩,_,_,rfl,rfl,(by show (0:Int) < 5;decide),?_⟩
  refine ⟨_,rfl,_,rfl,_,rfl,a,_,rfl,_,_,rfl,rfl,?_,?_⟩
  ·exact ZE (show _+1<=5 by omega) ⋯
  refine ⟨_,rfl,_,rfl,_,rfl,_,rfl,_,_,rfl,rfl,(by show (0:Int) < 4;decide),_,_,rfl,rfl,_,rfl,_,rfl,a,_,_,rfl,rfl,?_,q⟩
  refine ZE (m:=9) ?_ ⋯
  rw [<- Lib.K5,By,X9,Lib.K5,Lib.K5];show _+1+_<=9;omega
theorem eF (T:Txt K mg ad):CalB P w K mg base true 6 "_law_benches" ["_law_drawn_here","_law_many","_law_least"] (xY K):=by
 refine T.YS.calN Hq (λ _ _ _ _ _ _=>Mz λ _ _ _=>rfl) (λ vs H Q E h=>?_) (λ f j7 A outer s H vs Q E b4 h=>?_)
 ·obtain ⟨_,_,_,_,rfl,_⟩:=h;rfl
 obtain ⟨d,c,e4,d0,rfl,k5,hd,q⟩:=h;refine ⟨_,(Ah (Aw (i:=3) Hq.nd (CW Aa)) (Ah (Dj YR rfl (Ld rfl T.range (Ac (pv 1) Aa)) (Bp (i:=4) Hq.nd) (Ah (Aw (i:=5) Hq.nd (CW Aa)) (Ah (Dj YR rfl (Ld rfl T.range (CJ (Ax DW (pv 2) (Ag (Q0 T) b4.m Af (Ac (pv 0) (Bj Ab Aa)))) Aa)) (Bp (i:=6) Hq.nd) (Ah (Aw (i:=7) Hq.nd (Ag (zr T) b4.m Af (Ac (pv 0) (Bj Dn Aa)))) (Ah (BJ (PW.pt (pw_and (BR Bq (Ae Al (pv 7) Ab) Ba) (pw_and1 (BR Hu (Ag (Q0 T) b4.m Af (Ac (pv 0) (Bj Ab Aa))) Ab)))) (Ah (Aw (i:=8) Hq.nd (Ag (AN2 T) b4.m Af (Am (Ae Al (pv 7) Ab) (DG (Bh (Bj Ab (Bj Ab Aa))) Aa)))) (Aj (Aw (i:=7) Hq.nd (Bh (Bj Ba (Ac (pv 8) (BX (Ag (jL T) b4.m Af (Am (Ae Al (pv 7) Ab) (DG (Bh (Bj Ab (Bj Ab Aa))) Aa))) Aa))))))) BL) (Aj (Cq (Ca YY Xq Xs Fq (pv 5) (Ac (pv 7) Aa))))))) (Aj (Cq (Ca YY Xq Xs Fq (pv 3) (Ac (pv 5) Aa))))))) (Aj (Ar (pv 3))))),?_⟩
 refine ⟨(by show 0<=Y3;decide),λ g D=>?_⟩
 have u0:=Ao D (.lst ([]:List V));have a2:g≠d:=λ e=>by
  obtain ⟨i3,i4,_,b5⟩:=hd.d;rw [e,b5] at D;cases D
 have d4:=hd.keep u0;have d5:upd H g (.lst ([]:List V)) g=some (.lst []):=Aq;have f6:SD d H (upd H g (.lst ([]:List V))):=Lib.SD.ofSame u0;generalize upd H g (.lst ([]:List V))=k6 at u0 d4 d5 f6 ⊢;refine ⟨_,rfl,(d0:Int),rfl,by omega,by omega,?_⟩
 rw [Qb];refine QB (lo:=0) (n:=d0) (λ i W z=>(∃e5 e6 X Y Z,W=[some (.ref d),some (.int (d0:Int)),some (.int 0),some (.ref g),e5,e6,X,Y,Z])/\DrA z d c e4/\SD d H z/\∃(bs:List Addr) (k:List (List Pc)),bs.length=i/\z g=some (.lst (bs.map V.ref))/\BnL K z bs k/\(∀b∈bs,H b=none/\b≠g)/\∀ps∈k,OkB ps) ⟨⟨_,_,_,_,_,rfl⟩,d4,f6,[],[],rfl,d5,⟨rfl,λ i b ps h=>nomatch h⟩,(λ b hb=>nomatch hb),λ ps x=>nomatch x⟩ ?_ ?_
 ·rintro i W d1 hi ⟨⟨e5,e6,X,Y,Z,rfl⟩,a3,d2,bs,k,e7,a4,J,bn,b6⟩
  refine ⟨(by show 0<=Y3;decide),λ lb B=>?_⟩
  have b7:=Ao B (.lst ([]:List V));have L:lb≠d:=λ e=>by
   obtain ⟨i3,i4,_,b5⟩:=a3.d;rw [e,b5] at B;cases B
  have b8:lb≠g:=λ e=>by rw [e,a4] at B;cases B
  have f7:∀b∈bs,b≠lb:=λ b hb e=>by
   obtain ⟨j,f8⟩:=uj hb;have f9:j < k.length:=by rw [<- J.1];exact CQ f8
   obtain ⟨xs,M,_⟩:=J.2 j b _ f8 (Yi f9);rw [e,B] at M;cases M
  have b9:H lb=none:=by
   cases e:H lb with
   | none=>rfl
   | some o=>have:=d2 lb o L e;rw [B] at this;cases this
  have c0:=a3.keep b7;have d6:upd d1 lb (.lst ([]:List V)) lb=some (.lst []):=Aq;have d7:=b7 _ _ a4;have g0:=d2.trans (Lib.SD.ofSame b7);have d8:=J.keep b7;generalize upd d1 lb (.lst ([]:List V))=k7 at b7 c0 d6 d7 g0 d8 ⊢;refine ⟨_,rfl,_,rfl,d,c,e4,7,rfl,c0,by decide,λ m k8 k9 l0 g1 d3=>?_⟩
  refine ⟨_,_,rfl,rfl,_,rfl,by omega,by omega,?_⟩
  obtain ⟨l1,l2,_,e8⟩:=c0.d;have a0:∀b∈bs,b≠d:=λ b hb e=>by
   obtain ⟨_,_,_,i5⟩:=hd.d;have:=(bn b hb).1;rw [e,i5] at this;cases this
  refine QB (lo:=0) (n:=(0+m).toNat) (λ e9 W z=>(∃X Y Z,W=[some (.ref d),some (.int (d0:Int)),some (.int 0),some (.ref g),some (.int (0+(i:Int))),some (.ref lb),X,Y,Z])/\DrA z d c e4/\SD d H z/\z g=some (.lst (bs.map V.ref))/\BnL K z bs k/\∃xs ps,z lb=some (.lst xs)/\DVs K z xs (List.map Bm ps)/\ps.length=e9/\∀p∈ps,Et p/\p.fd 12 17) ⟨⟨_,_,_,rfl⟩,g1,g0.trans d3,d3 _ _ a2 d7,d8.sd e8 d3 a0,[],[],d3 _ _ L d6,.nil,rfl,λ p x=>nomatch x⟩ ?_ ?_
  ·rintro e9 W f0 j8 ⟨⟨X,Y,Z,rfl⟩,N,f1,G,c1,xs,ps,c2,a5,d9,c3⟩
   refine ⟨_,rfl,d,c,e4,false,rfl,N,λ v g2 p I c4 hv x=>?_⟩
   have a6:∀(u:V) (a:Hp) (b1:Pc),DrA a d c e4->SD d H a->a g=some (.lst (bs.map V.ref))->BnL K a bs k->a lb=some (.lst xs)->DV K a u (Bm b1)->DVs K a xs (List.map Bm ps)->(Et b1/\b1.fd 12 17)->DrA (upd a lb (.lst (xs++[u]))) d c e4/\SD d H (upd a lb (.lst (xs++[u])))/\upd a lb (.lst (xs++[u])) g=some (.lst (bs.map V.ref))/\BnL K (upd a lb (.lst (xs++[u]))) bs k/\∃e0 c5,upd a lb (.lst (xs++[u])) lb=some (.lst e0)/\DVs K (upd a lb (.lst (xs++[u]))) e0 (List.map Bm c5)/\c5.length=e9+1/\∀p∈c5,Et p/\p.fd 12 17:=by
    intro u a b1 a7 O a8 a9 l i6 b0 g3;have R:SD lb a (upd a lb (.lst (xs++[u]))):=JN;have st:Gn a (upd a lb (.lst (xs++[u]))):=R.t l;refine ⟨a7.keepD R L.symm (Bt hd.c b9),λ b o n e=>by rw [BP (Bt e b9)];exact O b o n e,by rw [BP b8.symm];exact a8,a9.sd l R f7,_,ps++[b1],Aq,?_,by rw [X9,d9];rfl,λ p x=>?_⟩
    ·rw [ZB];exact DVs.append (Cp st (De JZ ps) b0) (.cons (Er st (JZ b1) i6) .nil)
    ·rcases YT.mp x with h | h
     ·exact c3 p h
     ·rw [X8.mp h];exact g3
   have b2:xs.length < Y3:=small1000 (by have:=a5.len;rw [Y2] at this;omega)
   have c6:=f1.trans c4;have c7:=c4 _ _ a2 G;have C:=c4 _ _ L c2;have c8:=Cp (N.t c4) (De JZ ps) a5;obtain ⟨j9,k0,_,f2⟩:=N.d;have S:=c1.sd f2 c4 a0;have a1:Et _/\_:=⟨x.1,wX (x.2 rfl)⟩;cases p with
   | gap l3=>
    obtain ⟨tt,g4,rfl,c9,U⟩:=DV.tup_of hv;obtain ⟨g5,g6,rfl,M,g7⟩:=U.two;obtain rfl:=DV.str_of M;refine ⟨_,rfl,tt,_,_,_,rfl,rfl,c9,Ek,rfl,_,rfl,BV (by rw [Cy];exact η (by decide+kernel)) (iteF ?_)⟩
    exact ⟨_,rfl,.inl ⟨rfl,_,SqL.of C⟩,_,rfl,lb,_,_,rfl,rfl,C,b2,⟨_,_,_,rfl⟩,a6 _ g2 _ I c6 c7 S C hv c8 a1⟩
   | glass l3=>
    obtain ⟨tt,g4,rfl,c9,U⟩:=DV.tup_of hv;obtain ⟨g5,g6,rfl,M,g7⟩:=U.two;obtain rfl:=DV.str_of M;refine ⟨_,rfl,tt,_,_,_,rfl,rfl,c9,Ek,rfl,_,rfl,BV (by rw [Cy];exact η (by decide+kernel)) (iteF ?_)⟩
    exact ⟨_,rfl,.inl ⟨rfl,_,SqL.of C⟩,_,rfl,lb,_,_,rfl,rfl,C,b2,⟨_,_,_,rfl⟩,a6 _ g2 _ I c6 c7 S C hv c8 a1⟩
   | stop lo hi=>
    obtain ⟨tt,g4,rfl,c9,U⟩:=DV.tup_of hv;obtain ⟨g5,g6,l4,rfl,M,g7,l5⟩:=U.three;obtain rfl:=DV.str_of M;refine ⟨_,rfl,tt,_,_,_,rfl,rfl,c9,Ek,rfl,_,rfl,Bk (by rw [Cy];exact ζ rfl) ?_⟩
    refine ⟨_,rfl,d,c,e4,3,rfl,I,by decide,λ y a l6 l7 a7 O=>?_⟩
    have e1:=c6.trans O;have a8:=O _ _ a2 c7;have l:=O _ _ L C;have b0:=Cp (I.t O) (De JZ ps) c8;obtain ⟨k1,k2,_,f3⟩:=I.d;have a9:=S.sd f3 O a0;have e2:=I.dv O hv;refine ⟨_,_,rfl,rfl,_,rfl,ite2 (λ i7=>?_) (λ i7=>?_)⟩
    ·obtain ⟨t',k3,e,e3,f4⟩:=DV.tup_of e2;cases e
     obtain ⟨l8,l9,m0,rfl,m1,i8,i9⟩:=f4.three;have b:=x.2 rfl;have g8:Ak 9=.tuple [.int 9,.int 1]:=rfl;have b3:Bd 4 (9:Rat):=⟨by decide,by decide⟩
     refine ⟨_,rfl,tt,_,_,_,rfl,rfl,e3,rfl,(by show 2<=Y3;decide),λ g9 h0=>?_⟩
     have h1:=Ao h0 (.tup [.int 9,.int 1]);have j0:DV K (upd a g9 (.tup [.int 9,.int 1])) (.ref g9) (Ak 9):=by rw [g8];exact .tup (SqT.of Aq) (.cons (.int 9) (.cons (.int 1) .nil))
     refine ⟨_,_,.cons (i8.keep h1) (.cons j0 .nil),⟨lo,9,rfl,b.1.sm ⋯,b3.sm ⋯,rfl⟩,λ h2 j1 j2 j3=>?_⟩
     have h3:=h1.trans j2;refine ⟨_,rfl,_,rfl,tt,_,_,_,rfl,rfl,e3.keep h3,rfl,(by show 2<=Y3;decide),λ h4 h5=>?_⟩
     have h6:=Ao h5 (.tup [.int 9,.int 1]);have h7:=h3.trans h6;have j4:DV K (upd j1 h4 (.tup [.int 9,.int 1])) (.ref h4) (Ak 9):=by rw [g8];exact .tup (SqT.of Aq) (.cons (.int 9) (.cons (.int 1) .nil))
     refine ⟨_,_,.cons (i9.keep h7) (.cons j4 .nil),⟨hi,9,rfl,b.2.sm ⋯,b3.sm ⋯,rfl⟩,λ h8 j5 h9 j6=>?_⟩
     refine ⟨(by show 3<=Y3;decide),λ r i0=>?_⟩
     have f5:=Ao i0 (.tup [.str (Z7 "stop"),h2,h8]);have u:=(h7.trans h9).trans f5;have i1:DV K (upd j5 r (.tup [.str (Z7 "stop"),h2,h8])) (.ref r) (Bm (.stop (lo - 9) (hi+9))):=.tup (SqT.of Aq) (.cons (.str _) (.cons (j3.keep ((h6.trans h9).trans f5)) (.cons (j6.keep f5) .nil)));have k4:¬ hi < lo:=x.1.1;have i2:(Pc.stop (lo - 9) (hi+9)).ok:=show ¬ hi+9 < lo - 9 by grind
     exact ⟨_,rfl,.inl ⟨rfl,_,SqL.of (u _ _ l)⟩,_,rfl,lb,_,_,rfl,rfl,u _ _ l,b2,⟨_,_,_,rfl⟩,a6 _ _ _ (a7.keep u) (e1.trans (Lib.SD.ofSame u)) (u _ _ a8) (a9.keep u) (u _ _ l) i1 (b0.keep u) ⟨uC i2 ⟨b.1.sub b3,b.2.add b3⟩ ⋯,(b.1.sub b3).mono ⋯,(b.2.add b3).mono ⋯⟩⟩
    ·exact ⟨_,rfl,.inl ⟨rfl,_,SqL.of l⟩,_,rfl,lb,_,_,rfl,rfl,l,b2,⟨_,_,_,rfl⟩,a6 _ a _ a7 e1 a8 a9 l e2 b0 a1⟩
  ·rintro W f0 ⟨⟨X,Y,Z,rfl⟩,N,f1,G,c1,xs,ps,c2,a5,d9,c3⟩
   have R:SD g f0 (upd f0 g (.lst (bs.map V.ref++[.ref lb]))):=JN;have S:=(c1.sd G R λ b hb=>(bn b hb).2).snoc (M9 (BnA.of c2 a5) (R.t G) λ o e=>R _ _ b8 e)
   have b2:(bs.map V.ref).length < Y3:=small1000 (by rw [Y2];omega)
   refine ⟨_,rfl,.inl ⟨rfl,_,SqL.of G⟩,_,rfl,g,_,_,rfl,rfl,G,b2,⟨_,_,_,_,_,rfl⟩,N.keepD R a2.symm (Bt hd.c D),(λ b o n e=>by rw [BP (Bt e D)];exact f1 b o n e),bs++[lb],k++[ps],by rw [X9,e7];rfl,by rw [Aq,ZB];rfl,S,λ b hb=>?_,λ p x=>?_⟩
   ·rcases YT.mp hb with h | h
    ·exact bn b h
    ·rw [X8.mp h];exact ⟨b9,b8⟩
   ·rcases YT.mp x with h | h
    ·exact b6 p h
    ·rw [X8.mp h];exact ⟨by omega,c3⟩
 ·rintro W d1 ⟨⟨e5,e6,X,Y,Z,rfl⟩,a3,d2,bs,k,e7,a4,J,bn,b6⟩
  exact ⟨_,rfl,q g bs k d1 a3 d2 D bn a4 e7 J b6⟩
theorem AH4 (T:Txt K mg ad):CalB P w K mg base true 4 "_law_parts" ["_law_drawn_here"] (rW K):=by
 refine T.Wr.calN Xd (λ _ _ _ _ _ _=>by1 λ _=>rfl) (λ vs H Q E h=>?_) (λ f h7 A outer s H vs Q E R h=>?_)
 ·obtain ⟨_,_,_,rfl,_⟩:=h;rfl
 obtain ⟨d,c,g7,rfl,hd,q⟩:=h;refine ⟨_,(Ah (ZW (i:=1) Xd.nd rfl (by walk_at "o") ["_law_k","_law_drawn_here"] [none,some 0] rfl (Ld rfl T.range (Bj Ab Aa)) (λ _ _ _ _ _ _=>(Bp (i:=0) (show Uu [("_law_k":Str),("_law_drawn_here":Str)] by decide))) (λ _ _ _ _ _ _=>FQ) (λ _ _ _ _ _ _=>(Ag (Qz T) R.m Af (Ac (pv 1) (Bj Dn Aa)))) (UT (hcell:=by decide) (hf:=(show ∀y:Str×JJ,y∈_->y.2=yB->(defScope Ni).names.lookup y.1=some MB by decide))) ⋯ rfl ⋯ rfl (λ i j h=>by
   rcases i with _ | _ | i
   ·simp at h
   ·simp at h;subst h;exact ⟨_,rfl,rfl,rfl,rfl⟩
   ·simp at h)) (Ah (Dj YR rfl (AW4 rfl T.range (Bj Ab (Bj Ab (Bj Ab Aa)))) (Bp (i:=2) Xd.nd) (Aj (BJ (Bs (Ag (iD T) R.m Af (Am (Ae BK (pv 1) (Ax DW (pv 2) Ab)) (Am (Ae BK (pv 1) (pv 2)) Aa)))) (Aj (I9 (Bh (Am (Ae BK (pv 1) (Ax DW (pv 2) Ab)) (Am (Ae BK (pv 1) (pv 2)) Aa))) (JV (n:=2) rfl (Eb (La (pv 1) (pv 2) Li) (Eb (La (pv 1) (Ax DW (pv 2) Ab) Li) HD))))) BL))) (Aj (Ar (Ax Gk (Ea Gg (pv 1) FJ (Cu Ab)) (CW (DG (Bh (BX (Br K8 rfl T.abs Jd (Am (Ae Al (Ae BK (pv 1) Ab) Ab) Aa)) (Am (Ae Al (Ae BK (pv 1) Ab) Ab) Aa))) Aa))))))),?_⟩
 refine ⟨_,rfl,by decide,by decide,?_⟩
 refine lV (lo:=0) (n:=Int.toNat 5) (λ i a9 c8 S=>∃c0 M,a9=[c0,some (.ref d)]/\DrA S d c g7/\SD d H S/\DVs K S c8 (M.map Ak)/\M.length=i/\∀r∈M,Bd 12 r) ⟨_,[],rfl,hd,SD.refl _ _,.nil,rfl,λ r R=>nomatch R⟩ ?_ ?_ ?_
 ·rintro i a9 c8 S hi ⟨c0,M,rfl,b4,sd,dv,b0,F⟩
  have:=dv.len;rw [Y2,b0] at this;have i0:Int.toNat 5=5:=rfl;exact XG (small1000 ∅)
 ·rintro i a9 c8 S hi ⟨c0,M,rfl,b4,sd,dv,b0,F⟩
  refine ⟨_,rfl,d,c,g7,false,rfl,b4,λ v c9 r N X hv hb=>nx hi ⟨_,M++[r],rfl,N,sd.trans X,?_,by rw [X9,b0];rfl,λ g8 f7=>?_⟩⟩
  ·rw [ZB];exact DVs.append (Cp (b4.t X) (De (λ _=>rfl) M) dv) (.cons hv .nil)
  ·rcases YT.mp f7 with h | h
   ·exact F g8 h
   ·rw [X8.mp h];exact hb.2 rfl
 rintro h8 c8 e5 l ⟨c0,M,rfl,U,b5,dv,b0,F⟩ hl
 have b0:M.length=5:=b0;obtain ⟨x,B,C,D,p,rfl⟩:∃x B C D p,M=[x,B,C,D,p]:=by
  match M,b0 with
  | [x,B,C,D,p],_=>exact ⟨x,B,C,D,p,rfl⟩
 obtain ⟨g,h9,rfl,g9,d6⟩:=dv.cons_of;obtain ⟨a,k,b,u,rfl,h0,h1,h2,h3⟩:=d6.four;have b6:l≠d:=λ e=>by
  obtain ⟨_,_,_,d0⟩:=U.d;rw [e,d0] at hl;cases hl
 have d7:l≠c:=λ e=>by
  have:=U.c;rw [<- e,hl] at this;cases this
 have d8:H l=none:=by
  cases e:H l with
  | none=>rfl
  | some o=>have:=b5 l o b6 e;rw [hl] at this;cases this
 have d1:=Ao hl (.lst [g,a,k,b,u]);have d9:(upd e5 l (.lst [g,a,k,b,u])) l=some (.lst [g,a,k,b,u]):=Aq;have U:=U.keep d1;have b5:=b5.trans (Lib.SD.ofSame d1);have e2:DVs K (upd e5 l (.lst [g,a,k,b,u])) [g,a,k,b,u] ([x,B,C,D,p].map Ak):=dv.keep d1;generalize upd e5 l (.lst [g,a,k,b,u])=i1 at d9 U b5 e2 ⊢;clear g9 h0 h1 h2 h3 d1 hl dv d6;refine ⟨0,4,2,2,rfl,by decide,by decide,by decide,by decide,?_⟩
 refine Aa5 (lo:=0) (st:=2) (n:=2) (λ i a9 S=>∃(e6:Option V) (g a k b u:V) (x B C D p:Rat),a9=[some (.ref d),some (.ref l),e6]/\DrA S d c g7/\SD d H S/\S l=some (.lst [g,a,k,b,u])/\DVs K S [g,a,k,b,u] ([x,B,C,D,p].map Ak)/\(∀r∈[x,B,C,D,p],Bd 12 r)/\(1<=i->x<=B)/\(2<=i->C<=D)) ⟨_,g,a,k,b,u,x,B,C,D,p,rfl,U,b5,d9,e2,F,(λ h=>absurd h ⋯),λ h=>absurd h ⋯⟩ ?_ ?_
 ·rintro i a9 c9 hi ⟨e6,g,a,k,b,u,x,B,C,D,p,rfl,N,X,I,Y,F,d2,f8⟩
  have f9:i=0\/i=1:=by omega
  obtain ⟨_,_,e,b7,b8⟩:=Y.cons_of;obtain ⟨_,_,_,_,b1,b9,c2,c3,e3⟩:=b8.four;cases e
  cases b1
  rcases f9 with rfl | rfl
  ·have e0:=b7;have e1:=b9;refine ⟨_,rfl,_,rfl,_,_,rfl,rfl,l,_,_,a,rfl,rfl,SqL.of I,rfl,_,rfl,_,rfl,l,_,_,g,rfl,rfl,SqL.of I,rfl,_,_,.cons e1 (.cons e0 .nil),⟨B,x,rfl,(F B (by simp)).sm ⋯,(F x (by simp)).sm ⋯,rfl⟩,λ h4 Z W c4=>?_⟩
   obtain rfl:=c4.bl_of;have J:=W _ _ I;have a0:=Y.keep W;have a1:=N.keep W;have a2:=X.trans (Lib.SD.ofSame W);refine ⟨_,rfl,ite2 (λ c1=>?_) (λ c1=>?_)⟩
   ·have c1:B < x:=of_decide_eq_true c1;refine ⟨_,rfl,_,rfl,_,_,rfl,rfl,l,_,_,a,rfl,rfl,SqL.of J,rfl,_,rfl,_,rfl,l,_,_,g,rfl,rfl,SqL.of J,rfl,(by show 2<=Y3;decide),λ G a3=>?_⟩
    have L:=Ao a3 (.tup [a,g]);have O:=L _ _ J;have a4:=a0.keep L;have a5:=a1.keep L;have a6:=a2.trans (Lib.SD.ofSame L);have a7:SqT K (upd Z G (.tup [a,g])) G [a,g]:=SqT.of Aq;generalize upd Z G (.tup [a,g])=d3 at O a4 a5 a6 a7 ⊢;obtain ⟨j1,e7,e8,e9,h5⟩:=Zj O b6.symm d7.symm d8 a5 a6 a4 [a,g,k,b,u];refine ⟨G,_,rfl,a7,rfl,a,_,rfl,⟨_,rfl,_,rfl,l,[g,a,k,b,u],_,0,rfl,rfl,O,rfl,?_⟩⟩;refine ⟨g,_,rfl,⟨_,rfl,_,rfl,_,_,rfl,rfl,l,[a,a,k,b,u],_,1,rfl,rfl,Aq,rfl,?_⟩⟩;rw [HY];obtain ⟨_,_,e,f0,c5⟩:=e8.cons_of;obtain ⟨_,_,_,_,b1,f1,f2,f3,f4⟩:=c5.four;cases e
    cases b1
    refine ⟨rfl,_,a,g,k,b,u,B,x,C,D,p,rfl,j1,e7,e9,(.cons f1 (.cons f0 (.cons f2 (.cons f3 (.cons f4 .nil))))),(λ r R=>F r ?_),(λ _=>Rat.le_of_lt c1),λ h=>absurd h ⋯⟩
    simp only [X1,ZN,or_false] at R ⊢;rcases R with h | h | h | h | h<;>simp only [h,true_or,or_true]
   ·have c1:x<=B:=xE.mp λ z=>c1 (ζ z)
    exact ⟨_,g,a,k,b,u,x,B,C,D,p,rfl,a1,a2,J,a0,F,(λ _=>c1),λ h=>absurd h ⋯⟩
  ·have e0:=c2;have e1:=c3;refine ⟨_,rfl,_,rfl,_,_,rfl,rfl,l,_,_,b,rfl,rfl,SqL.of I,rfl,_,rfl,_,rfl,l,_,_,k,rfl,rfl,SqL.of I,rfl,_,_,.cons e1 (.cons e0 .nil),⟨D,C,rfl,(F D (by simp)).sm ⋯,(F C (by simp)).sm ⋯,rfl⟩,λ h4 Z W c4=>?_⟩
   obtain rfl:=c4.bl_of;have J:=W _ _ I;have a0:=Y.keep W;have a1:=N.keep W;have a2:=X.trans (Lib.SD.ofSame W);refine ⟨_,rfl,ite2 (λ c1=>?_) (λ c1=>?_)⟩
   ·have c1:D < C:=of_decide_eq_true c1;refine ⟨_,rfl,_,rfl,_,_,rfl,rfl,l,_,_,b,rfl,rfl,SqL.of J,rfl,_,rfl,_,rfl,l,_,_,k,rfl,rfl,SqL.of J,rfl,(by show 2<=Y3;decide),λ G a3=>?_⟩
    have L:=Ao a3 (.tup [b,k]);have O:=L _ _ J;have a4:=a0.keep L;have a5:=a1.keep L;have a6:=a2.trans (Lib.SD.ofSame L);have a7:SqT K (upd Z G (.tup [b,k])) G [b,k]:=SqT.of Aq;generalize upd Z G (.tup [b,k])=d3 at O a4 a5 a6 a7 ⊢;obtain ⟨j1,e7,e8,e9,h5⟩:=Zj O b6.symm d7.symm d8 a5 a6 a4 [g,a,b,k,u];refine ⟨G,_,rfl,a7,rfl,b,_,rfl,⟨_,rfl,_,rfl,l,[g,a,k,b,u],_,2,rfl,rfl,O,rfl,?_⟩⟩;refine ⟨k,_,rfl,⟨_,rfl,_,rfl,_,_,rfl,rfl,l,[g,a,b,b,u],_,3,rfl,rfl,Aq,rfl,?_⟩⟩;rw [HY];obtain ⟨_,_,e,f0,c5⟩:=e8.cons_of;obtain ⟨_,_,_,_,b1,f1,f2,f3,f4⟩:=c5.four;cases e
    cases b1
    refine ⟨rfl,_,g,a,b,k,u,x,B,D,C,p,rfl,j1,e7,e9,(.cons f0 (.cons f1 (.cons f3 (.cons f2 (.cons f4 .nil))))),(λ r R=>F r ?_),(λ _=>d2 ⋯),λ _=>Rat.le_of_lt c1⟩
    simp only [X1,ZN,or_false] at R ⊢;rcases R with h | h | h | h | h<;>simp only [h,true_or,or_true]
   ·have c1:C<=D:=xE.mp λ z=>c1 (ζ z)
    exact ⟨_,g,a,k,b,u,x,B,C,D,p,rfl,a1,a2,J,a0,F,(λ _=>d2 ⋯),λ _=>c1⟩
 ·rintro a9 c9 ⟨e6,g,a,k,b,u,x,B,C,D,p,rfl,N,X,I,Y,F,d2,f8⟩
  obtain ⟨_,_,e,b7,b8⟩:=Y.cons_of;obtain ⟨_,_,_,_,b1,b9,c2,c3,e3⟩:=b8.four;cases e
  cases b1
  obtain ⟨f5,rfl,e4⟩:=e3.fr;refine ⟨_,rfl,_,rfl,l,_,rfl,SqL.of I,λ d4 g0=>?_⟩
  have a8:=Ao g0 (.lst [g,a,k,b]);have g1:(upd c9 d4 (.lst [g,a,k,b])) d4=some (.lst [g,a,k,b]):=Aq;rw [show cutV [g,a,k,b,.ref f5] none (some 4)=[g,a,k,b] from rfl]
  generalize upd c9 d4 (.lst [g,a,k,b])=Z at a8 g1 ⊢;refine ⟨_,rfl,l,_,_,_,rfl,rfl,SqL.of (a8 _ _ I),rfl,f5,_,_,_,rfl,rfl,e4.keep a8,rfl,_,rfl,_,rfl,l,_,_,_,rfl,rfl,SqL.of (a8 _ _ I),rfl,f5,_,_,_,rfl,rfl,e4.keep a8,rfl,?_⟩;refine ⟨(by show 2<=Y3;decide),λ G a3=>?_⟩
  have L:=Ao a3 (.tup [.int (if p.num < 0 then -p.num else p.num),.int (p.den:Int)])
  have g2:DV K (upd Z G (.tup [.int (if p.num < 0 then -p.num else p.num),.int (p.den:Int)])) (.ref G) (Ak (ab p)):=by
   rw [mC];exact .tup (SqT.of Aq) (.cons (.int _) (.cons (.int _) .nil))
  generalize upd Z G (.tup [.int (if p.num < 0 then -p.num else p.num),.int (p.den:Int)])=d3 at L g2 ⊢
  refine ⟨(by show 1<=Y3;decide),λ d5 g3=>?_⟩
  have f6:=Ao g3 (.lst [.ref G]);have g4:(upd d3 d5 (.lst [.ref G])) d5=some (.lst [.ref G]):=Aq;generalize upd d3 d5 (.lst [.ref G])=i2 at f6 g4 ⊢;have b2:=L.trans f6;refine ⟨d4,d5,_,_,rfl,rfl,b2 _ _ g1,g4,(by show 5<=Y3;decide),λ c6 c7=>?_⟩
  have g5:=Ao c7 (.lst ([g,a,k,b]++[.ref G]));have b3:=a8.trans (b2.trans g5);have g6:H c6=none:=by
   cases e:H c6 with
   | none=>rfl
   | some o=>
    have h6:c6≠d:=λ e=>by
     obtain ⟨_,_,_,d0⟩:=(N.keep (a8.trans b2)).d;rw [<- e,c7] at d0;cases d0
    have:=(a8.trans b2) _ _ (X c6 o h6 e);rw [c7] at this;cases this
  exact q c6 _ x B C D (ab p) _ (N.keep b3) (X.trans (Lib.SD.ofSame b3)) g6 Aq (.cons (b7.keep b3) (.cons (b9.keep b3) (.cons (c2.keep b3) (.cons (c3.keep b3) (.cons (g2.keep (f6.trans g5)) .nil))))) ⟨F _ (by simp),F _ (by simp),F _ (by simp),F _ (by simp),Lg (F _ (by simp)),d2 ⋯,f8 ⋯,rY p⟩
theorem zg (T:Txt K mg ad)(c9:w.params=ad.pr):CalB P w K mg base true 18 "_law_laid" ["_law_drawn_here","_law_number","_law_least"] (vR K ad.Desk):=by
 refine T.Xv.calN KH (λ _ _ _ _ _ _=>Mz λ _ _ _=>rfl) (λ vs H Q E h=>?_) (λ f d5 A outer s H vs Q E F h=>?_)
 ·obtain ⟨_,_,_,_,rfl,_⟩:=h;rfl
 obtain ⟨q,c,c8,z,rfl,a6,z0,a7,k⟩:=h;have d6:(Z7 "bench ").length=6:=by decide+kernel
 have e0:(Z7 " ").length=1:=by decide+kernel
 refine ⟨_,(Ah (ZW (i:=3) KH.nd rfl (by walk_at "o") ["_law_k","_law_number"] [none,some 1] rfl (Ld rfl T.range (Bj Ab Aa)) (λ _ _ _ _ _ _=>(Bp (i:=0) (show Uu [("_law_k":Str),("_law_number":Str)] by decide))) (λ _ _ _ _ _ _=>FQ) (λ _ _ _ _ _ _=>(Ag (rC T) F.m Af (Ac (pv 1) (Ac (pv 0) Aa)))) (UT (hcell:=by decide) (hf:=(show ∀y:Str×JJ,y∈_->y.2=yB->(defScope Qc).names.lookup y.1=some MB by decide))) ⋯ rfl ⋯ rfl (λ i j h=>by
   rcases i with _ | _ | i
   ·simp at h
   ·simp at h;subst h;exact ⟨_,rfl,rfl,rfl,rfl⟩
   ·simp at h)) (Ah (Aw (i:=4) KH.nd (Ag (eF T) F.m Af (Ac (pv 0) (CJ (Ax DW Ab (Ag (Q0 T) F.m Af (Ac (pv 0) (Bj Ab Aa)))) (Ac (pv 2) Aa))))) (Ah (Aw (i:=5) KH.nd (AH8 (qN T) F.m)) (Ah (Dj YR rfl (Ld rfl T.range (BX (Br Do rfl T.len Dc (Ac (pv 4) Aa)) Aa)) (Bp (i:=6) KH.nd) (Aj (BJ (BR FZ (CZ (k:=16) (pv 5) F.m (CJ (Ax Ce (Ax Ce (Ax Ce Ba (Ae BK (pv 3) (pv 6))) Ba) (Ag (PQ T) F.m Af (Am (Ae BK (pv 4) (pv 6)) Aa))) Aa)) Ba) (Aj (Ar (CW (Bj Ec (Ac (pv 3) (Ac (pv 4) Aa)))))) BL))) (Aj (Ar (CW (Ac (pv 5) (Ac (pv 3) (Ac (pv 4) Aa)))))))))),?_⟩
 refine ⟨4,rfl,by decide,by decide,?_⟩
 refine AT4 (lo:=0) (n:=(4:Int).toNat) (λ i t S l=>(∃c0,t=[c0,some (.int z)])/\S=((WC i).map λ j:Nat=>V.str (called z (j:Nat)))/\l=H) ⟨⟨_,rfl⟩,rfl,rfl⟩ ?_ ?_ ?_
 ·rintro i t S l hi ⟨⟨c0,rfl⟩,rfl,rfl⟩
  rw [Y2,List.length_range];exact ZE hi ⋯
 ·rintro i t S l hi ⟨⟨c0,rfl⟩,rfl,rfl⟩
  have d7:i < 4:=hi;refine ⟨_,rfl,_,rfl,_,_,rfl,z0,a7,by omega,by omega,nx hi ⟨⟨_,rfl⟩,?_,rfl⟩⟩
  rw [List.range_succ,ZB,Int.zero_add];rfl
 rintro t S l g ⟨⟨c0,rfl⟩,rfl,rfl⟩ G
 have I:=Ao G (.lst ((WC (4:Int).toNat).map λ j:Nat=>V.str (called z (j:Nat))))
 have U:(upd l g (.lst ((WC (4:Int).toNat).map λ j:Nat=>V.str (called z (j:Nat))))) g=some (.lst ((WC 4).map λ j:Nat=>V.str (called z (j:Nat)))):=Aq
 have J:g≠q:=λ e=>by
  obtain ⟨_,_,_,h⟩:=a6.d;rw [e,h] at G;cases G
 have L:=a6.keep I;generalize upd l g (.lst ((WC (4:Int).toNat).map λ j:Nat=>V.str (called z (j:Nat))))=e3 at I U L ⊢
 refine ⟨_,rfl,_,rfl,q,c,c8,2,rfl,L,by decide,λ a8 d0 d8 d9 B a2=>?_⟩
 obtain ⟨m,d1,e4,a9⟩:∃m:Nat,2+a8=(m:Int)/\2<=m/\m<=3:=⟨(2+a8).toNat,by omega,by omega,by omega⟩
 refine ⟨_,_,rfl,rfl,_,rfl,?_⟩;dsimp only
 rw [d1];refine ⟨q,c,c8,m,rfl,a9,B,λ lb bs v d2 M b0 N bn Y bl b1 Z=>?_⟩
 have a0:∀b,d0 b=none->b≠q:=λ b hb e=>by
  obtain ⟨_,_,_,h⟩:=B.d;rw [e,h] at hb;cases hb
 have C:=a2.trans b0;have b2:=C _ _ J U;have b3:g≠lb:=λ e=>by
  have:=a2 _ _ J U;rw [e,N] at this;cases this
 have b4:lb≠c:=λ e=>by
  have:=B.c;rw [<- e,N] at this;cases this
 have a3:=a0 lb N;refine λ o p no a1 ne=>⟨o,p,rfl,Aq,λ d hd=>⟨rfl,?_⟩⟩
 obtain ⟨x,O,D,b5⟩:=Ae8 (K:=K) (q:=[q,lb]) no a1 ne hd;generalize upd (upd (upd (upd d2 p (.own o)) o (.ins ad.Desk p [])) d (.dK [])) o (.ins ad.Desk p [("benches",.ref d)])=b6 at x O ⊢;have a:Ly69 K b6 ad.Desk o p d g lb q c c8 (λ _=>none) 0 z bs v:=⟨M.keep x,O,x _ _ b2,x _ _ Y,b1.keep x,λ j ps d3=>absurd d3 ∅⟩
 have b7:SD q l b6:=(Lib.SD.ofSame I).trans (C.trans (Lib.SD.ofSame x));have b8:∀b∈bs,b≠q/\b≠lb:=λ b hb=>⟨a0 b (bn b hb).1,(bn b hb).2⟩
 have b9:l d=none:=by
  cases e:l d with
  | none=>rfl
  | some o=>
   have c1:d≠q:=λ e=>by
    obtain ⟨_,_,_,h⟩:=M.d;rw [e,h] at D;cases D
   have:=C _ _ c1 (I _ _ e);rw [D] at this;cases this
 clear x O D b5 hd no a1 ne C M B L a2 b0 U b2 I b1 Y;refine ⟨_,rfl,lb,_,rfl,.inl (SqL.of a.hl),_,rfl,by omega,by rw [Y2];omega,?_⟩
 rw [Qb,Y2,bl];refine QB (lo:=0) (n:=m) (λ i t W=>∃(a4:Option V) (c2:Ep),t=[some (.ref q),some (.int z),some (.int 0),some (.ref g),some (.ref lb),some (.ref o),a4]/\Ly69 K W ad.Desk o p d g lb q c c8 c2 i z bs v/\SD q l W) ⟨_,_,rfl,a,b7⟩ ?_ ?_
 ·rintro i t W hi ⟨a4,c2,rfl,a,sx⟩
  have hb:i < bs.length:=by omega
  have d4:i < v.length:=by rw [<- a.bl.1];exact hb
  have a5:=Yi hb;have X:=Yi d4;generalize bs[i]=b at a5;generalize v[i]=ps at X;have c3:=a.bl.2 i b ps a5 X;have ok:=Z ps (ZI X);have nm:Nm (called z i):=QS z ∅ ∅
  have e5:=MJ (ZE ok.1 ⋯) ok.sh
  have e1:((WC 4).map λ k=>V.str (called z (k:Nat)))[i]?=some (.str (called z i)):=by
   rw [Yf,js ∅]
   rfl
  have e2:(bs.map V.ref)[i]?=some (.ref b):=by rw [Yf,a5];rfl
  have a7:=nm.len;refine ⟨_,rfl,o,_,p,_,_,_,rfl,a.ds.o,rfl,dU T c9,?_⟩;rw [Int.zero_add];refine ⟨_,rfl,_,rfl,g,_,_,_,rfl,rfl,SqL.of a.nm,Bu e1,_,_,rfl,rfl,CT ∅,_,_,rfl,rfl,CT (by rw [Cm];omega),?_⟩
  refine ⟨_,rfl,_,rfl,lb,_,_,_,rfl,rfl,SqL.of a.hl,Bu e2,.ref b,ps,rfl,c3.dv,ZE ok.1 ⋯,ok.pbig,λ e6 c4=>?_⟩
  refine ⟨_,_,rfl,rfl,(by rw [Cm,Cm];exact ZE (show _<=20100 by omega) ⋯),?_⟩
  have R:=a.keep c4;refine ⟨o,p,d,[q,lb],called z i,c2,i,ps,rfl,R.ds,R.there,by omega,nm,ok,λ e7 c5 c6=>?_⟩
  refine ⟨rfl,_,rfl,BV (by decide+kernel) ?_⟩
  exact ⟨_,_,rfl,R.next X ∅ c5 c6,λ b o n e=>c5 _ _ (Bt e b9) (c4 _ _ (sx b o n e))⟩
 ·rintro t W ⟨a4,c2,rfl,a,sx⟩
  refine ⟨_,rfl,_,rfl,_,rfl,(by show 3<=Y3;decide),λ r c7=>?_⟩
  have u:=Ao c7 (.lst [.ref o,.ref g,.ref lb]);have a:=a.keep u;exact k r o p d g lb c2 m bs v _ (sx.trans (Lib.SD.ofSame u)) Aq a9 ⟨a.dr,a.ds,a.nm,a.hl,⟨J,a3,b3,b4⟩,a.bl,b8,by omega,Z,λ j ps e=>a.sx j ps (by have:=CQ e;rw [<- a.bl.1] at this;omega) e⟩
theorem ym (T:Txt K mg ad):CalB P w K mg base true 12 "_law_apart" ["_law_found","_law_bench"] (AU0 K):=by
 refine T.Y7.calN Ji (λ _ _ _ _ _ _=>Bg λ _ _=>rfl) (λ vs H Q E h=>?_) (λ f j0 A outer s H vs Q E C h=>?_)
 ·obtain ⟨_,_,rfl,_⟩:=h;rfl
 obtain ⟨v,ps,rfl,hv,ok,k⟩:=h;refine ⟨_,(Ah (Aw (i:=2) Ji.nd (CW Aa)) (Ah (Dj YR rfl (Dt (Ax gK (Ca Yr XV Wm Hw (pv 0) (Bj Ba Aa)) (Ga Ub rfl T.int JM (Tp (Dr FZ (pv 0) Ba) Aa)))) (Bp (i:=3) Ji.nd) (Ah (I9 (Ca Yr XV Wm Hw (pv 3) (Bj Ba Aa)) (bZ (n:=2) rfl (Eb (Bp (i:=4) Ji.nd) (Eb (Bp (i:=5) Ji.nd) HD)))) (Ah (Aw (i:=6) Ji.nd (Ax Gk (Ca Yr XV Wm Hw (pv 5) (Bj Ba Aa)) (CW (Bj Ba Aa)))) (Aj (Cq (Ca YY Xq Xs Fq (pv 2) (DG (Bh (Ac (pv 4) (DG (Bh (BX (Ga Yl rfl T.int JM (Am (Ae BK (pv 6) Ab) Aa)) (BX (Ga Yl rfl T.int JM (Am (Ae BK (pv 6) Ab) Aa)) Aa))) Aa))) Aa))))))) (Ah (BJ (PW.pt (pw_or (BR (Ke C.units) (G4 ["_law_piece_here"] [none] rfl (Dt (pv 2)) (λ _ _ _ _ _=>(Bp (i:=0) (show Uu [("_law_piece_here":Str)] by decide))) (λ _ _ _ _ _=>(fc (BR (tH (K:=K)) (Ae (m8 (K:=K)) (pv 0) Ab) (Bh (Bj Ba (Bj Ba Aa)))))) (λ _ _ _ _ _=>(pv 0)) (Fo ⋯ ⋯) ⋯ rfl ⋯ rfl (Fw rfl)) (CW Aa)) (pw_or1 (BR FZ (Ag (PQ T) C.m Af (Ac (pv 2) Aa)) (pv 0))))) (Aj (Ar Dn)) BL) (Aj (Ar (HX (Dr Bq (Br Do rfl T.len Dc (Ac (pv 2) Aa)) (Br Do rfl T.len Dc (BX (Ag (eN T) C.m Af (BX (Ag (Gf T) C.m Af (Ac (pv 1) Aa)) Aa)) Aa))) (Ho (Dr (Gh C.units) (Ag (Gf T) C.m Af (Ac (pv 2) Aa)) (Ag (Gf T) C.m Af (Ac (pv 1) Aa)))))))))),?_⟩
 have z:=(dZ ok.tb (Ft ps)).2;obtain ⟨d9,ns⟩:=yh (Ft ps) ok.tb ⋯
 have t4:=zM (tabOf ps);have tt:tabOf (Cv (tabOf ps))=tabOf ps:=yP (Ft ps);generalize e0:Cv (tabOf ps)=tk at z d9 ns t4 tt ⊢;have bl:=AP8 z t4;refine ⟨(by show 0<=Y3;decide),λ l e2=>?_⟩
 have u0:=Ao e2 (.lst []);have I:upd H l (.lst []) l=some (.lst []):=Aq;generalize upd H l (.lst [])=e3 at u0 I ⊢;refine ⟨_,rfl,rfl,_,_,rfl,rfl,rfl,ZE (UO bl 2) ⋯,λ a5 b5=>?_⟩
 have R:=Ao b5 (.lst ((Xt (CK tk) (Z7 "; ")).map V.str));have c5:upd e3 a5 (.lst ((Xt (CK tk) (Z7 "; ")).map V.str)) a5=some (.lst ((Xt (CK tk) (Z7 "; ")).map V.str)):=Aq;generalize upd e3 a5 (.lst ((Xt (CK tk) (Z7 "; ")).map V.str))=c6 at R c5 ⊢;refine ⟨_,rfl,rfl,.inr ⟨_,rfl,?_⟩⟩;have S:(if (!decide (V.str (CK tk)=V.str (Z7 "")))=true then (1:Int) else 0).toNat<=1:=by split<;>decide
 refine ⟨a5,_,_,rfl,rfl,c5,?_,?_,?_,λ D J=>?_⟩
 ·split<;>decide
 ·split<;>decide
 ·rw [Y2];have e1:=PyProof.Rows.split_le (CK tk) (Z7 "; ");exact ZE (qB (ZE e1 (UO bl 2)) S) ⋯
 rw [wH];have a6:=Ao J (.lst ((tk.map CV).map V.str));have a7:upd c6 D (.lst ((tk.map CV).map V.str)) D=some (.lst ((tk.map CV).map V.str)):=Aq;have U:=a6 _ _ (R _ _ I);have b6:D≠l:=λ e=>by rw [e,R _ _ I] at J;cases J
 generalize upd c6 D (.lst ((tk.map CV).map V.str))=B at a6 a7 U ⊢;have e4:=u0.trans (R.trans a6);clear u0 R a6 c5 I b5 J S;refine ⟨D,rfl,⟨_,SqL.of a7⟩,?_⟩;refine GX (K:=K) (a:=D) (xs:=(tk.map CV).map V.str) (λ i y g=>∃a8 a9 b0 b1 vs,y=[some (.str (CK tk)),some v,some (.ref l),a8,a9,b0,b1]/\Same H g/\g D=some (.lst ((tk.map CV).map V.str))/\g l=some (.lst vs)/\DVs K g vs ((tk.take i).map Bm)) ⟨_,_,_,_,[],rfl,e4,a7,U,.nil⟩ ?_ ?_ ?_
 ·rintro i y g hi ⟨a8,a9,b0,b1,vs,rfl,W,G,_⟩
  exact SqL.of G
 ·rintro i x y g hi ⟨a8,a9,b0,b1,vs,rfl,W,G,t,u⟩
  obtain ⟨p,X,rfl⟩:∃p,tk[i]?=some p/\x=.str (CV p):=by
   rw [Yf,Yf] at hi;cases e:tk[i]? with
   | none=>rw [e] at hi;cases hi
   | some p=>rw [e] at hi;cases hi;exact ⟨p,rfl,rfl⟩
  have c7:=ZI X;obtain ⟨q,e5,e6,c8⟩:=lq (ns p c7);have hb:Bd 1900 q:=(z p c7).2 q (by rw [e6];exact ZA)
  obtain ⟨a,b,r,i0,j3,i1,lb,i2,i3⟩:=pM hb;refine ⟨_,rfl,rfl,_,_,rfl,rfl,rfl,ZE (UO (oO (z p c7)) 2) ⋯,λ Y e7=>?_⟩
  rw [Af3,e5];have e8:=Ao e7 (.lst [.str (wd p),.str (Ay q)]);have e9:upd g Y (.lst [.str (wd p),.str (Ay q)]) Y=some (.lst [.str (wd p),.str (Ay q)]):=Aq;show nQ K 2 _ _ _ (upd g Y (.lst [.str (wd p),.str (Ay q)])) _;generalize upd g Y (.lst [.str (wd p),.str (Ay q)])=Z at e8 e9 ⊢;refine ⟨Y,_,rfl,SqL.of e9,rfl,?_⟩;refine ⟨_,_,rfl,_,_,rfl,rfl,?_⟩;refine ⟨_,rfl,rfl,_,_,rfl,rfl,rfl,ZE (UO (M5 hb) 2) ⋯,λ b2 f0=>?_⟩
  have f1:=Ao f0 (.lst ((Xt (Ay q) (Z7 "/")).map V.str));have f2:upd Z b2 (.lst ((Xt (Ay q) (Z7 "/")).map V.str)) b2=some (.lst ((Xt (Ay q) (Z7 "/")).map V.str)):=Aq;generalize upd Z b2 (.lst ((Xt (Ay q) (Z7 "/")).map V.str))=c9 at f1 f2 ⊢;refine ⟨(by show 1<=Y3;decide),λ b3 f3=>?_⟩
  have d0:=Ao f3 (.lst [.str (Z7 "1")]);have f4:upd c9 b3 (.lst [.str (Z7 "1")]) b3=some (.lst [.str (Z7 "1")]):=Aq;generalize upd c9 b3 (.lst [.str (Z7 "1")])=d1 at d0 f4 ⊢;have f5:(Xt (Ay q) (Z7 "/")).map V.str++[.str (Z7 "1")]=.str a::.str b::r.map V.str:=by
   rw [<- YJ,<- YJ,<- i0,ZB];rfl
  have b7:=congrArg JU f5;rw [X9,X2,X2,X2,Y2 (f:=V.str) (as:=r)] at b7;refine ⟨b2,b3,_,_,rfl,rfl,d0 _ _ f2,f4,(by have e:=b7;simp only [X2,YH] at e ⊢;exact ZE (show _<=10 by omega) ⋯),λ a0 f6=>?_⟩
  rw [f5];have f7:=Ao f6 (.lst (.str a::.str b::r.map V.str));have d2:upd d1 a0 (.lst (.str a::.str b::r.map V.str)) a0=some (.lst (.str a::.str b::r.map V.str)):=Aq;generalize upd d1 a0 (.lst (.str a::.str b::r.map V.str))=d3 at f7 d2 ⊢;have b8:=e8.trans (f1.trans (d0.trans f7));have f8:=b8 _ _ t;refine ⟨_,rfl,.inl ⟨rfl,_,SqL.of f8⟩,?_⟩;refine ⟨_,rfl,_,rfl,a0,_,_,.str a,rfl,rfl,SqL.of d2,Bu (j:=0) rfl,a,_,rfl,i1,i2,?_⟩;refine ⟨_,rfl,a0,_,_,.str b,rfl,rfl,SqL.of d2,Bu (j:=1) rfl,b,_,rfl,lb,i3,?_⟩;refine ⟨(by show 2<=Y3;decide),λ N f9=>?_⟩
  have g0:=Ao f9 (.tup [.int q.num,.int (q.den:Int)]);have g1:DV K (upd d3 N (.tup [.int q.num,.int (q.den:Int)])) (.ref N) (Ak q):=.tup (SqT.of Aq) (.cons (.int _) (.cons (.int _) .nil));generalize upd d3 N (.tup [.int q.num,.int (q.den:Int)])=d4 at g0 g1 ⊢;refine ⟨(by show 2<=Y3;decide),λ a1 g2=>?_⟩
  have a2:=Ao g2 (.tup [.str (wd p),.ref N]);have g3:DV K (upd d4 a1 (.tup [.str (wd p),.ref N])) (.ref a1) (Bm p):=by
   rw [c8];exact .tup (SqT.of Aq) (.cons (.str _) (.cons (g1.keep a2) .nil))
  generalize upd d4 a1 (.tup [.str (wd p),.ref N])=i4 at a2 g3 ⊢;have L:=b8.trans (g0.trans a2);have b9:=L _ _ t;have j4:i < 4:=Y4 (CQ X) t4;have g4:vs.length<=i:=by have:=u.len;rw [Y2,YG] at this;omega
  have i5:=Gp b9 (.lst (vs++[.ref a1]));refine ⟨l,vs,_,rfl,rfl,b9,small1000 ∅,_,_,_,_,vs++[.ref a1],rfl,?_,?_,Aq,?_⟩
  ·intro b o e;rw [BP (Bt e e2)];exact L _ _ (W _ _ e)
  ·rw [BP b6];exact L _ _ G
  ·rw [YU,X,ZB];exact Cp i5 (by rw [<- ZB];exact De JZ _) ((u.keep L).append (.cons g3 .nil))
 rintro y g ⟨a8,a9,b0,b1,vs,rfl,W,G,t,u⟩
 rw [Y2,Y2,YX] at u;clear a7 U e4 B G b6 c6;have g4:vs.length=tk.length:=by have:=u.len;rw [Y2] at this;exact this
 have dl:DV K g (.ref l) (Dg tk):=.lst (SqL.of t) u;refine ⟨_,rfl,l,rfl,⟨_,SqL.of t⟩,?_⟩;refine U9 (K:=K) (a:=l) (xs:=vs) (λ i y b4 B=>(∃c0,y=[c0])/\b4=[]/\Same g B) ⟨⟨_,rfl⟩,rfl,Same.refl _⟩ ?_ ?_ ?_
 ·rintro i y b4 B hi ⟨⟨c0,rfl⟩,rfl,O⟩
  exact ⟨by show 0<=Y3;decide,SqL.of (O _ _ t)⟩
 ·rintro i x y b4 B g5 ⟨⟨c0,rfl⟩,rfl,O⟩
  obtain ⟨d,hd,g6⟩:=u.get g5;obtain ⟨p,G,rfl⟩:∃p,tk[i]?=some p/\d=Bm p:=by
   rw [Yf] at hd;cases e:tk[i]? with
   | none=>rw [e] at hd;cases hd
   | some p=>rw [e] at hd;cases hd;exact ⟨p,rfl,rfl⟩
  have c1:=ns p (ZI G);obtain ⟨q,e5,e6,c8⟩:=lq c1;rw [c8] at g6;obtain ⟨a,xs,rfl,ha,g7⟩:=g6.tup_of;obtain ⟨j5,j6,rfl,g8,j1⟩:=g7.two;obtain rfl:=g8.str_of;refine ⟨_,rfl,a,_,_,.str (wd p),rfl,rfl,ha.keep O,Bu (j:=0) rfl,(by show 2<=Y3;decide),λ d5 a3=>?_⟩
  refine ⟨d5,_,rfl,.inr (SqT.of Aq),rfl,rfl,_,rfl,BV ?_ (nx (CQ g5) ⟨⟨_,rfl⟩,rfl,O.trans (Ao a3 _)⟩)⟩;cases p with
  | gap _=>show (!inV (V.str (Z7 "gap")) [V.str (Z7 "gap"),V.str (Z7 "glass")])=false;decide+kernel
  | glass _=>show (!inV (V.str (Z7 "glass")) [V.str (Z7 "gap"),V.str (Z7 "glass")])=false;decide+kernel
  | stop _ _=>cases c1
 rintro y b4 B d6 ⟨⟨c0,rfl⟩,rfl,O⟩ g9
 have h0:=Ao g9 (.lst []);have h1:DV K (upd B d6 (.lst [])) (.ref d6) (.list []):=.lst (SqL.of Aq) .nil;generalize upd B d6 (.lst [])=Z at h0 h1 ⊢;refine ⟨(by show 0<=Y3;decide),λ d7 h2=>?_⟩
 have d8:=Ao h2 (.lst []);have h3:DV K (upd Z d7 (.lst [])) (.ref d7) (.list []):=.lst (SqL.of Aq) .nil;generalize upd Z d7 (.lst [])=c9 at d8 h3 ⊢;have c2:=O.trans (h0.trans d8);refine ⟨_,_,h1.keep d8,h3,rfl,rfl,_,rfl,BV rfl ?_⟩;refine ⟨_,rfl,.ref l,tk,rfl,dl.keep c2,ZE t4 ⋯,z,λ d1 i6=>?_⟩
 refine ⟨_,rfl,rfl,_,rfl,BV (by rw [ζ rfl];rfl) ?_⟩
 have M:=c2.trans i6;have h4:=M _ _ t;have j7:=ZH 19 ok.1;have hsz:2+ps.length * (18+1)+18<=3900:=by omega
 have j8:=ZH (2 * 154+6+1) t4;have c3:=hv.keep (W.trans M);refine ⟨_,rfl,l,_,rfl,.inl (SqL.of h4),?_⟩;refine ⟨_,rfl,_,_,.cons c3 .nil,⟨ps,18,rfl,ok.good,hsz,rfl⟩,λ a2 d3 i7 h5=>?_⟩
 refine ⟨a2,_,154,rfl,h5,ok.tb,by decide,Ft ps,λ d5 d4 xs i8 j2 a3 h6=>?_⟩
 have i9:xs.length=tk.length:=by have:=h6.len;rw [Y2,e0] at this;exact this
 refine ⟨d5,_,rfl,.inl (SqL.of a3),rfl,_,rfl,Bk (by rw [i9,g4];exact ζ rfl) ?_⟩
 have a4:=i7.trans i8;refine ⟨_,rfl,_,_,.cons (dl.keep (M.trans a4)) .nil,⟨tk,_,rfl,d9,by omega,rfl⟩,λ j9 i4 h7 c4=>?_⟩
 refine ⟨_,rfl,_,_,.cons (c3.keep (a4.trans h7)) .nil,⟨ps,18,rfl,ok.good,hsz,rfl⟩,λ k0 k1 h8 h9=>?_⟩
 rw [tt] at c4;refine iY (c4.keep h8) h9 ?_;rw [ζ rfl];exact k _ (W.trans (M.trans (a4.trans (h7.trans h8))))
theorem AZ2 (T:Txt K mg ad)(a:w.params=ad.pr):MC P w K mg base 16 ad.Desk "say" ["self","row"] (Gr K ad.Desk (Z7 "show") 0 lO):=Hv T a ⟨_,by unfold valV Dd;rfl,λ H=>T.ex.s_ROWS_show H⟩ ⋯ (by decide+kernel) (by decide+kernel) (by decide+kernel) (by decide+kernel) (by decide+kernel) (by unfold valV Dd;rfl) T.ex.f_ANSWERS_show (AR8 T)
theorem uI (T:Txt K mg ad)(a:w.params=ad.pr):MC P w K mg base 16 ad.Desk "say" ["self","row"] (Gr K ad.Desk (Z7 "walk") 2 Tr):=Hv T a ⟨_,by unfold valV Dd;rfl,λ H=>T.ex.s_ROWS_walk H⟩ ⋯ (by decide+kernel) (by decide+kernel) (by decide+kernel) (by decide+kernel) (by decide+kernel) (by unfold valV Dd;rfl) T.ex.f_ANSWERS_walk (rP T)
theorem AP2 (T:Txt K mg ad)(a:w.params=ad.pr):MC P w K mg base 16 ad.Desk "say" ["self","row"] (Gr K ad.Desk (Z7 "table") 0 oG):=Hv T a ⟨_,by unfold valV Dd;rfl,λ H=>T.ex.s_ROWS_table H⟩ ⋯ (by decide+kernel) (by decide+kernel) (by decide+kernel) (by decide+kernel) (by decide+kernel) (by unfold valV Dd;rfl) T.ex.f_ANSWERS_table (AY0 T)
theorem sW (T:Txt K mg ad)(a:w.params=ad.pr):MC P w K mg base 16 ad.Desk "say" ["self","row"] (Gr K ad.Desk (Z7 "apart") 0 lX):=Hv T a ⟨_,by unfold valV Dd;rfl,λ H=>T.ex.s_ROWS_apart H⟩ ⋯ (by decide+kernel) (by decide+kernel) (by decide+kernel) (by decide+kernel) (by decide+kernel) (by unfold valV Dd;rfl) T.ex.f_ANSWERS_apart (Ae2 T)
theorem uA (T:Txt K mg ad)(a:w.params=ad.pr):MC P w K mg base 16 ad.Desk "say" ["self","row"] (Gr K ad.Desk (Z7 "image") 1 cg):=Hv T a ⟨_,by unfold valV Dd;rfl,λ H=>T.ex.s_ROWS_image H⟩ ⋯ (by decide+kernel) (by decide+kernel) (by decide+kernel) (by decide+kernel) (by decide+kernel) (by unfold valV Dd;rfl) T.ex.f_ANSWERS_image (pZ T)
theorem qH (T:Txt K mg ad)(a:w.params=ad.pr):MC P w K mg base 16 ad.Desk "say" ["self","row"] (Gr K ad.Desk (Z7 "field") 4 pH):=Hv T a ⟨_,by unfold valV Dd;rfl,λ H=>T.ex.s_ROWS_field H⟩ ⋯ (by decide+kernel) (by decide+kernel) (by decide+kernel) (by decide+kernel) (by decide+kernel) (by unfold valV Dd;rfl) T.ex.f_ANSWERS_field (xn T)
theorem AJ9 (T:Txt K mg ad)(a:w.params=ad.pr):MC P w K mg base 16 ad.Desk "say" ["self","row"] (Gr K ad.Desk (Z7 "sharp") 5 Up):=Hv T a ⟨_,by unfold valV Dd;rfl,λ H=>T.ex.s_ROWS_sharp H⟩ ⋯ (by decide+kernel) (by decide+kernel) (by decide+kernel) (by decide+kernel) (by decide+kernel) (by unfold valV Dd;rfl) T.ex.f_ANSWERS_sharp (Aj6 T)
theorem vZ (T:Txt K mg ad)(a:w.params=ad.pr):MC P w K mg base 16 ad.Desk "say" ["self","row"] (Gr K ad.Desk (Z7 "rounds") 0 iQ):=Hv T a ⟨_,by unfold valV Dd;rfl,λ H=>T.ex.s_ROWS_rounds H⟩ ⋯ (by decide+kernel) (by decide+kernel) (by decide+kernel) (by decide+kernel) (by decide+kernel) (by unfold valV Dd;rfl) T.ex.f_ANSWERS_rounds (zf T)
theorem vN (T:Txt K mg ad)(a0:w.params=ad.pr):CalB P w K mg base true 18 "_law_answered" ["_law_desk","_law_name","_law_bench","_law_way","_law_parts_here"] (yE K ad.Desk):=by
 refine T.XQ.calN bN (λ _ _ _ _ _ _=>rQ λ _ _ _ _ _=>rfl) (λ vs H Q E h=>?_) (λ f e9 A outer s H vs Q E y h=>?_)
 ·obtain ⟨_,_,_,_,_,_,_,_,_,_,_,_,_,_,_,_,_,rfl,_⟩:=h;rfl
 obtain ⟨o,G,d,q,x,b5,n,ps,a3,c4,l,xs,D,p,r,F,W,rfl,I,nx,sx,hb,hl,b6,c5,k⟩:=h;have ok:=I.ok sx;obtain ⟨O,f0,rfl,c6,c7⟩:=b6.cons_of;obtain ⟨v,C,R,a4,rfl,a9,b2,c8,d6⟩:=c7.four;have f1:=nx.len;refine ⟨_,(Ah (BJ (BR Bq (pv 3) Ab) (Aj (Ar (Dr Bq (CZ (k:=16) (pv 0) y.m (CJ (Ax Ce Ba (pv 1)) Aa)) (Ag (PQ T) y.m Af (Ac (pv 2) Aa))))) BL) (Ah (BJ (BR Bq (pv 3) Ab) (Aj (Ar (Dr Bq (CZ (k:=16) (pv 0) y.m (CJ (Ax Ce (Ax Ce (Ax Ce Ba (pv 1)) Ba) (Ag (LQ T) y.m Af (Am (Ea Gg (pv 4) (Cu Ab) (Cu Ab)) Aa))) Aa)) (Ag (Ac7 T) y.m Af (Ac (pv 2) (Am (Ea Gg (pv 4) (Cu Ab) (Cu Ab)) Aa)))))) BL) (Ah (BJ (BR Bq (pv 3) Ab) (Aj (Ar (Dr Bq (CZ (k:=16) (pv 0) y.m (CJ (Ax Ce Ba (pv 1)) Aa)) (Ag (LQ T) y.m Af (BX (Ag (Gf T) y.m Af (Ac (pv 2) Aa)) Aa))))) BL) (Ah (BJ (BR Bq (pv 3) Ab) (Aj (Ar (Ag (ym T) y.m Af (BX (CZ (k:=16) (pv 0) y.m (CJ (Ax Ce Ba (pv 1)) Aa)) (Ac (pv 2) Aa))))) BL) (Ah (BJ (BR Bq (pv 3) Ab) (Aj (Ar (Dr Bq (CZ (k:=16) (pv 0) y.m (CJ (Ax Ce (Ax Ce (Ax Ce Ba (pv 1)) Ba) (Ag (Y0 T) y.m Af (Am (Ae BK (pv 4) Ab) Aa))) Aa)) (Ag (AV6 T) y.m Af (Ac (pv 2) (Am (Ae BK (pv 4) Ab) Aa)))))) BL) (Ah (BJ (BR Bq (pv 3) Ab) (Aj (Ar (Dr Bq (CZ (k:=16) (pv 0) y.m (CJ (Ax Ce (Ax Ce (Ax Ce Ba (pv 1)) Ba) (Ag (LQ T) y.m Af (Am (Ea Gg (pv 4) FJ (Cu Ab)) Aa))) Aa)) (Ag (vG T) y.m Af (Ac (pv 2) (Ac (pv 4) Aa)))))) BL) (Ah (BJ (BR Bq (pv 3) Ab) (Ah (Aw (i:=5) bN.nd (CW (Am (Ae BK (pv 4) Ab) (Am (Ae BK (pv 4) Ab) (Am (Ae BK (pv 4) Ab) (Am (Ae BK (pv 4) Ab) (Am (Ae BK (pv 4) Ab) Aa))))))) (Aj (Ar (Dr Bq (CZ (k:=16) (pv 0) y.m (CJ (Ax Ce (Ax Ce (Ax Ce Ba (pv 1)) Ba) (Ag (LQ T) y.m Af (Ac (pv 5) Aa))) Aa)) (Ag (vX T) y.m Af (Ac (pv 2) (Ac (pv 5) Aa))))))) BL) (Aj (Ar (Dr Bq (CZ (k:=16) (pv 0) y.m (CJ (Ax Ce Ba (pv 1)) Aa)) (Ag (qY T) y.m Af (Ac (pv 2) Aa)))))))))))),?_⟩
 have S:∀{t u:Y1} {c9:Hp},t=u->Same H c9->rEq (.str t) (.str u) c9 Q:=λ e s=>⟨rfl,by rw [e,ζ rfl];exact k _ s⟩
 have f2:(Z7 " ").length=1:=by decide+kernel
 have U:∀{u:Y1},u≠Z7 "sharp"->∀qs:List Rat,u=Z7 "sharp"->∃q,qs[4]?=some q/\0<=q:=λ h _ e=>absurd e h
 refine ⟨_,rfl,rfl,_,rfl,ite2 (λ c0=>?_) (λ c0=>?_)⟩
 ·have ls:(Z7 "show ").length=5:=by decide+kernel
  refine ⟨_,rfl,o,_,G,_,_,_,rfl,I.o,rfl,AZ2 T a0,_,rfl,_,_,rfl,rfl,CT ∅,?_⟩
  rw [Qq (u:=Z7 "show") (by decide+kernel)]
  refine ⟨o,G,d,q,x,b5,n,ps,[],_,rfl,I,nx,sx,rfl,(λ q h=>nomatch h),U (by decide+kernel) _,rfl,λ a5 J=>?_⟩
  exact ⟨_,rfl,a3,ps,rfl,hb.keep J,ZE ok.1 ⋯,ok.pbig,λ a6 L=>S rfl (J.trans L)⟩
 refine ⟨_,rfl,rfl,_,rfl,ite2 (λ c1=>?_) (λ c1=>?_)⟩
 ·have ls:(Z7 "walk ").length=5:=by decide+kernel
  have b9:c4=1:=V.int.inj (of_decide_eq_true c1);obtain ⟨b3,b4⟩:=c5.1 b9;refine ⟨_,rfl,o,_,G,_,_,_,rfl,I.o,rfl,uI T a0,_,rfl,_,_,rfl,rfl,CT ∅,_,_,rfl,rfl,CT (by rw [Cm];omega),?_⟩
  have X:=all2 (Hk b3) (Hk b4);have d0:=Ju X (by show 2<=5;decide)
  refine ⟨_,rfl,_,rfl,_,rfl,l,_,rfl,SqL.of hl,λ N a1=>?_⟩
  rw [show cutV [O,v,C,R,a4] (some 1) (some 3)=[v,C] from rfl]
  have B:=Ao a1 (.lst [v,C]);have Z:DV K (upd H N (.lst [v,C])) (.ref N) (.list ([p,r].map Ak)):=.lst (SqL.of Aq) (.cons (a9.keep B) (.cons (b2.keep B) .nil));generalize upd H N (.lst [v,C])=a5 at B Z ⊢;refine ⟨_,[p,r],rfl,.inl Z,X,by show 2<=60;decide,λ a6 L=>?_⟩
  refine ⟨_,_,rfl,rfl,CT (by rw [Cm,Cm];omega),?_⟩
  have a2:=B.trans L;rw [Oq (u:=Z7 "walk") (by decide+kernel)]
  refine ⟨o,G,d,q,x,b5,n,ps,[p,r],_,rfl,I.keep a2,nx,sx,rfl,(λ z hz=>?_),U (by decide+kernel) _,⟨p,r,rfl,b3,b4,rfl⟩,λ b0 a7=>?_⟩
  ·rcases X1.mp hz with rfl | hz
   ·exact b3
   ·rw [X8.mp hz];exact b4
  have M:=a2.trans a7;refine ⟨_,rfl,_,rfl,_,rfl,_,rfl,l,_,rfl,SqL.of (M _ _ hl),λ c2 d1=>?_⟩
  rw [show cutV [O,v,C,R,a4] (some 1) (some 3)=[v,C] from rfl]
  have d7:=Ao d1 (.lst [v,C]);have a8:=M.trans d7;have d8:DV K (upd b0 c2 (.lst [v,C])) (.ref c2) (.list ([p,r].map Ak)):=.lst (SqL.of Aq) (.cons (a9.keep a8) (.cons (b2.keep a8) .nil));exact ⟨a3,.ref c2,ps,[p,r],_,rfl,hb.keep a8,ok,d8,⟨p,r,rfl,b3,b4,rfl⟩,λ f3 d9=>S rfl (a8.trans d9)⟩
 have g:=c5.2 λ e=>c1 (by rw [e];exact ζ rfl)
 have Y:∀{z:Rat},Bd 12 z->Bd 1900 z:=λ h=>h.mono ⋯
 have b1:∀{z:Rat},Bd 12 z->Short z:=λ h=>uN h ⋯
 have f4:=ZH 19 ok.1;refine ⟨_,rfl,rfl,_,rfl,ite2 (λ e1=>?_) (λ e1=>?_)⟩
 ·have ls:(Z7 "table ").length=6:=by decide+kernel
  refine ⟨_,rfl,o,_,G,_,_,_,rfl,I.o,rfl,AP2 T a0,_,rfl,_,_,rfl,rfl,CT ∅,?_⟩
  rw [Qq (u:=Z7 "table") (by decide+kernel)]
  refine ⟨o,G,d,q,x,b5,n,ps,[],_,rfl,I,nx,sx,rfl,(λ q h=>nomatch h),U (by decide+kernel) _,rfl,λ a5 J=>?_⟩
  refine ⟨_,rfl,_,_,.cons (hb.keep J) .nil,⟨ps,18,rfl,ok.good,by omega,rfl⟩,λ e2 a6 L d2=>?_⟩
  have tb:=ok.tb;refine ⟨e2,[(tabOf ps).a,(tabOf ps).b,(tabOf ps).c,(tabOf ps).d],rfl,.inr d2,(λ z hz=>?_),by show 4<=60;decide,λ b0 a7=>S rfl (J.trans (L.trans a7))⟩
  simp only [X1,ZN,or_false] at hz;rcases hz with rfl | rfl | rfl | rfl
  ·exact tb.a.mono ⋯
  ·exact tb.b.mono ⋯
  ·exact tb.c.mono ⋯
  ·exact tb.d.mono ⋯
 refine ⟨_,rfl,rfl,_,rfl,ite2 (λ e3=>?_) (λ e3=>?_)⟩
 ·have ls:(Z7 "apart ").length=6:=by decide+kernel
  refine ⟨_,rfl,o,_,G,_,_,_,rfl,I.o,rfl,sW T a0,_,rfl,_,_,rfl,rfl,CT ∅,?_⟩
  rw [Qq (u:=Z7 "apart") (by decide+kernel)]
  refine ⟨o,G,d,q,x,b5,n,ps,[],_,rfl,I,nx,sx,rfl,(λ q h=>nomatch h),U (by decide+kernel) _,rfl,λ a5 J=>?_⟩
  exact ⟨_,rfl,a3,ps,rfl,hb.keep J,ok,λ a6 L=>k _ (J.trans L)⟩
 refine ⟨_,rfl,rfl,_,rfl,ite2 (λ e4=>?_) (λ e4=>?_)⟩
 ·have ls:(Z7 "image ").length=6:=by decide+kernel
  have f5:=M5 (Y g.hb);refine ⟨_,rfl,o,_,G,_,_,_,rfl,I.o,rfl,uA T a0,_,rfl,_,_,rfl,rfl,CT ∅,_,_,rfl,rfl,CT (by rw [Cm];omega),?_⟩
  refine ⟨_,rfl,l,_,_,v,rfl,rfl,SqL.of hl,Bu (j:=1) rfl,v,p,rfl,a9,Y g.hb,?_⟩;refine ⟨_,_,rfl,rfl,CT (by rw [Cm,Cm];omega),?_⟩
  rw [<- Aa4 p,Oq (u:=Z7 "image") (by decide+kernel)]
  refine ⟨o,G,d,q,x,b5,n,ps,[p],_,rfl,I,nx,sx,rfl,(λ z hz=>?_),U (by decide+kernel) _,⟨p,rfl,g.hb,rfl⟩,λ a5 J=>?_⟩
  ·rw [X8.mp hz];exact b1 g.hb
  exact ⟨_,rfl,_,rfl,l,_,_,v,rfl,rfl,SqL.of (J _ _ hl),Bu (j:=1) rfl,a3,v,ps,p,rfl,hb.keep J,ok,a9.keep J,g.hb,λ a6 L=>S rfl (J.trans L)⟩
 refine ⟨_,rfl,rfl,_,rfl,ite2 (λ e5=>?_) (λ e5=>?_)⟩
 ·have ls:(Z7 "field ").length=6:=by decide+kernel
  have X:∀z∈[D,p,r,F],Bd 12 z:=λ z hz=>by
   simp only [X1,ZN,or_false] at hz;rcases hz with rfl | rfl | rfl | rfl
   ·exact g.ha
   ·exact g.hb
   ·exact g.hc
   ·exact g.hd
  have d0:=Ju (λ z hz=>Y (X z hz)) (by show 4<=5;decide)
  have d3:(Box.mk D p r F).ok:=⟨g.ab,g.cd⟩;have d4:(Box.mk D p r F).bd 12:=⟨g.ha,g.hb,g.hc,g.hd⟩;refine ⟨_,rfl,o,_,G,_,_,_,rfl,I.o,rfl,qH T a0,_,rfl,_,_,rfl,rfl,CT ∅,_,_,rfl,rfl,CT (by rw [Cm];omega),?_⟩
  refine ⟨_,rfl,_,rfl,l,_,rfl,SqL.of hl,λ N a1=>?_⟩
  rw [show cutV [O,v,C,R,a4] none (some 4)=[O,v,C,R] from rfl]
  have B:=Ao a1 (.lst [O,v,C,R]);have Z:DV K (upd H N (.lst [O,v,C,R])) (.ref N) (.list ([D,p,r,F].map Ak)):=.lst (SqL.of Aq) (.cons (c6.keep B) (.cons (a9.keep B) (.cons (b2.keep B) (.cons (c8.keep B) .nil))));generalize upd H N (.lst [O,v,C,R])=a5 at B Z ⊢;refine ⟨_,[D,p,r,F],rfl,.inl Z,(λ z hz=>Y (X z hz)),by show 4<=60;decide,λ a6 L=>?_⟩
  refine ⟨_,_,rfl,rfl,CT (by rw [Cm,Cm];omega),?_⟩
  have a2:=B.trans L;rw [Oq (u:=Z7 "field") (by decide+kernel)]
  refine ⟨o,G,d,q,x,b5,n,ps,[D,p,r,F],_,rfl,I.keep a2,nx,sx,rfl,(λ z hz=>b1 (X z hz)),U (by decide+kernel) _,⟨⟨D,p,r,F⟩,rfl,d3,d4,rfl⟩,λ b0 a7=>?_⟩
  have M:=a2.trans a7;have e6:DV K b0 (.ref l) (.list ([D,p,r,F,W].map Ak)):=.lst (SqL.of (M _ _ hl)) (b6.keep M);exact ⟨_,rfl,_,rfl,a3,.ref l,ps,⟨D,p,r,F⟩,W,rfl,hb.keep M,ok,e6,d3,d4,λ e7 c3=>S rfl (M.trans c3)⟩
 refine ⟨_,rfl,rfl,_,rfl,ite2 (λ e8=>?_) (λ e8=>?_)⟩
 ·have ls:(Z7 "sharp ").length=6:=by decide+kernel
  have X:∀z∈[p,D,r,F,W],Bd 12 z:=λ z hz=>by
   simp only [X1,ZN,or_false] at hz;rcases hz with rfl | rfl | rfl | rfl | rfl
   ·exact g.hb
   ·exact g.ha
   ·exact g.hc
   ·exact g.hd
   ·exact g.he
  have d0:=Ju (λ z hz=>Y (X z hz)) (by show 5<=5;decide)
  have d5:LpB 12 (Lamp.mk p D r F):=⟨g.hb,g.ha,g.hc,g.hd,xE.mpr g.cd⟩;refine ⟨_,rfl,l,_,_,v,rfl,rfl,SqL.of hl,Bu (j:=1) rfl,_,rfl,l,_,_,O,rfl,rfl,SqL.of hl,Bu (j:=0) rfl,_,rfl,l,_,_,C,rfl,rfl,SqL.of hl,Bu (j:=2) rfl,_,rfl,l,_,_,R,rfl,rfl,SqL.of hl,Bu (j:=3) rfl,_,rfl,l,_,_,a4,rfl,rfl,SqL.of hl,Bu (j:=4) rfl,(by show 5<=Y3;decide),λ N a1=>?_⟩
  have B:=Ao a1 (.lst [v,O,C,R,a4]);have Z:DV K (upd H N (.lst [v,O,C,R,a4])) (.ref N) (.list ([p,D,r,F,W].map Ak)):=.lst (SqL.of Aq) (.cons (a9.keep B) (.cons (c6.keep B) (.cons (b2.keep B) (.cons (c8.keep B) (.cons (d6.keep B) .nil)))));generalize upd H N (.lst [v,O,C,R,a4])=a5 at B Z ⊢;have b7:=I.keep B;refine ⟨_,rfl,o,_,G,_,_,_,rfl,b7.o,rfl,AJ9 T a0,_,rfl,_,_,rfl,rfl,CT ∅,_,_,rfl,rfl,CT (by rw [Cm];omega),?_⟩
  refine ⟨_,rfl,_,[p,D,r,F,W],rfl,.inl Z,(λ z hz=>Y (X z hz)),by show 5<=60;decide,λ a6 L=>?_⟩
  refine ⟨_,_,rfl,rfl,CT (by rw [Cm,Cm];omega),?_⟩
  rw [Oq (u:=Z7 "sharp") (by decide+kernel)]
  refine ⟨o,G,d,q,x,b5,n,ps,[p,D,r,F,W],_,rfl,b7.keep L,nx,sx,rfl,(λ z hz=>b1 (X z hz)),(λ _=>⟨W,rfl,g.e0⟩),⟨⟨p,D,r,F⟩,W,rfl,d5,g.e0,g.he,rfl⟩,λ b0 a7=>?_⟩
  have b8:=L.trans a7;have M:=B.trans b8;exact ⟨_,rfl,_,rfl,a3,.ref N,ps,[p,D,r,F,W],_,rfl,hb.keep M,ok,Z.keep b8,⟨⟨p,D,r,F⟩,W,rfl,d5,g.e0,g.he,rfl⟩,λ e7 c3=>S rfl (M.trans c3)⟩
 have ls:(Z7 "rounds ").length=7:=by decide+kernel
 refine ⟨_,rfl,o,_,G,_,_,_,rfl,I.o,rfl,vZ T a0,_,rfl,_,_,rfl,rfl,CT ∅,?_⟩
 rw [Qq (u:=Z7 "rounds") (by decide+kernel)]
 refine ⟨o,G,d,q,x,b5,n,ps,[],_,rfl,I,nx,sx,rfl,(λ q h=>nomatch h),U (by decide+kernel) _,rfl,λ a5 J=>?_⟩
 exact ⟨_,rfl,a3,ps,rfl,hb.keep J,ok,λ a6 L=>S rfl (J.trans L)⟩
theorem Ai2 (T:Txt K mg ad)(d8:w.params=ad.pr){h5:Addr}{fd:UH}(m4:Fun K "law" "law" KR h5 fd):FnB P w K mg base true 20 h5 fd ["_law_script"] (spLaw K):=by
 refine m4.okB GD (λ vs H Q E h=>?_) (λ l6 A outer s H vs Q E I h=>?_)
 ·obtain ⟨a,ns,rfl,_⟩:=h;rfl
 obtain ⟨a,ns,rfl,g3,l7,k⟩:=h;have l8:(Z7 "bench ").length=6:=by decide+kernel
 have m5:(Z7 " ").length=1:=by decide+kernel
 refine ⟨_,(Ah (Aw (i:=1) GD.nd (Ag (zq T) I.m Af (Ac (pv 0) (Bj Ab Aa)))) (Ah (Aw (i:=2) GD.nd (Ax Dq (Ag (AL7 T) I.m Af (Ac (pv 0) (Bj Ab Aa))) Ab)) (Ah (I9 (Ag (zg T d8) I.m Af (Ac (pv 1) (Ac (pv 2) (Bj Ab Aa)))) (bZ (n:=3) rfl (Eb (Bp (i:=3) GD.nd) (Eb (Bp (i:=4) GD.nd) (Eb (Bp (i:=5) GD.nd) HD))))) (Ah (BJ (BR Gi (pv 3) Ec) (Aj (Ar Dn)) BL) (Ah (Dj YR rfl (Dt (Ax Gk (Ea Gg (pv 0) (Cu Ab) (Cu Ab)) (CW (BX (Br Do rfl T.len Dc (Ac (pv 0) Aa)) Aa)))) (Bp (i:=6) GD.nd) (Ah (Aw (i:=2) GD.nd (Ax JW (Ax Dq (Ax JP (pv 6) Ab) Ab) Ab)) (Ah (Aw (i:=7) GD.nd (Ag (AH4 T) I.m Af (Ac (pv 1) Aa))) (Ah (BJ (BR Bq (Ax Dq (pv 2) Ab) Ab) (Aj (I9 (CW (BX (Ag (Qz T) I.m Af (Ac (pv 1) (Bj Dn Aa))) (BX (Ag (Qz T) I.m Af (Ac (pv 1) (Bj Dn Aa))) Aa))) (Aj7 (pv 7) (Cu Ab) (Cu Ab)))) BL) (Ah (Aw (i:=8) GD.nd (Ax Dq (Ax JW (pv 2) Ab) (Br Do rfl T.len Dc (Ac (pv 5) Aa)))) (Ah (BJ (BR Bq (Ax Dq (Ax JW (pv 2) Ab) Ab) Ab) (Ah (I9 (Ae BK (Ag (eF T) I.m Af (Ac (pv 1) (Bj Ab (Bj Ab Aa)))) Ab) (La (pv 5) (pv 8) Li)) (Aj (BJ (BR FZ (CZ (k:=16) (pv 3) I.m (CJ (Ax Ce (Ax Ce (Ax Ce Ba (Ae BK (pv 4) (pv 8))) Ba) (Ag (PQ T) I.m Af (Am (Ae BK (pv 5) (pv 8)) Aa))) Aa)) Ba) (Aj (Ar Dn)) BL))) BL) (Ah (BJ (Cd (Bs (Ag (vN T d8) I.m Af (Ac (pv 3) (Am (Ae BK (pv 4) (pv 8)) (Am (Ae BK (pv 5) (pv 8)) (CJ (Ax Dq (pv 2) Ab) (Ac (pv 7) Aa)))))))) (Aj (Ar Dn)) BL) (Ah (Aw (i:=8) GD.nd (Ax Dq (Ax DW (pv 8) Ab) (Br Do rfl T.len Dc (Ac (pv 5) Aa)))) (Aj (BJ (Cd (Bs (Ag (vN T d8) I.m Af (Ac (pv 3) (Am (Ae BK (pv 4) (pv 8)) (Am (Ae BK (pv 5) (pv 8)) (CJ (Ax Dq (pv 2) Ab) (Ac (pv 7) Aa)))))))) (Aj (Ar Dn)) BL)))))))))) (Aj (Ar Dn))))))),?_⟩
 refine ⟨_,rfl,a,ns,97,rfl,g3,λ q c f2 j9 a1 k0 D=>?_⟩
 have f3:=g3.keep a1;refine ⟨_,rfl,a,ns,0,rfl,f3,by decide,λ z=>⟨_,_,rfl,rfl,(by show (0:Int) < 2147483647;decide),?_⟩⟩
 have f4:=yv z (show (2147483647:Int)≠0 by decide)
 have f5:=QF z (show (0:Int) < 2147483647 by decide)
 dsimp only
 generalize z % 2147483647=z at f4 f5 ⊢;refine ⟨_,rfl,_,rfl,q,c,f2,z,rfl,D,f4,f5,λ r o a7 d W lb a6 n bs B a2 F f6 b7 g=>?_⟩
 refine ⟨r,_,rfl,SqL.of f6,rfl,_,_,rfl,_,_,rfl,_,_,rfl,rfl,?_⟩;have f7:Same H a2:=λ b o e=>F b o (Bt e k0) (a1 b o e)
 have c3:=g3.keep f7;clear F f6 f3 a1 D f7;refine ⟨_,rfl,rfl,_,rfl,BV rfl ?_⟩;refine ⟨_,rfl,_,rfl,_,rfl,a,_,rfl,c3,λ g4 f8=>?_⟩
 have c4:=Ao f8 (.lst (cutV (ns.map V.int) (some 1) (some 41)));have d9:=Ad1 (ns.map V.int) 1 41
 change (cutV (ns.map V.int) (some 1) (some 41)).length<=_ at d9
 have g5:=cD ns (some 1) (some 41);generalize cutV (ns.map V.int) (some 1) (some 41)=X at c4 d9 g5 ⊢;refine ⟨_,rfl,a,_,rfl,.inl (c3.keep c4),(by show 1<=Y3;decide),λ g6 f9=>?_⟩
 generalize b8:(((ns.map V.int).length:Nat):Int)=nn;have e0:=Ao f9 (.lst [.int nn]);refine ⟨g4,g6,_,_,rfl,rfl,e0 _ _ Aq,Aq,XG (small1000 (by simp only [X2,YH];omega)),λ J a3=>⟨J,rfl,⟨_,SqL.of Aq⟩,?_⟩⟩
 have h6:=Ao a3 (.lst (X++[.int nn]));have t3:=c4.trans (e0.trans h6);have c5:=g.keep (c4.trans e0);have c6:J≠q:=λ e=>by
  obtain ⟨_,_,_,h⟩:=c5.dr.d;rw [e,h] at a3;cases a3
 have h7:J≠lb:=λ e=>by
  have:=c5.hl;rw [<- e,a3] at this;cases this
 have h8:∀x∈X++[V.int nn],∃z:Int,x=.int z:=λ x c7=>by
  rcases YT.mp c7 with h | h
  ·exact g5 x h
  ·exact ⟨nn,X8.mp h⟩
 have h9:(X++[V.int nn]).length<=41:=by rw [X9];simp only [X2,YH];omega
 have a8:upd (upd (upd a2 g4 (.lst X)) g6 (.lst [.int nn])) J (.lst (X++[.int nn])) J=some (.lst (X++[.int nn])):=Aq;have g:=g.keep t3;generalize upd (upd (upd a2 g4 (.lst X)) g6 (.lst [.int nn])) J (.lst (X++[.int nn]))=c8 at a8 g ⊢;generalize X++[V.int nn]=e3 at h8 a8 h9 ⊢;clear c4 e0 h6 t3 c5 f8 f9 a3 c3 g5 d9;refine GX (K:=K) (a:=J) (xs:=e3) (λ i e4 e5=>∃e6 e7 e8 c9 a6 n bs B,e4=[some (.ref a),some (.ref q),e6,some (.ref o),some (.ref W),some (.ref lb),e7,e8,c9]/\Lw69 K e5 ad.Desk o a7 d W lb q c f2 a6 n z bs B/\n<=3+i/\e5 J=some (.lst e3)) ⟨_,_,_,_,a6,n,bs,B,rfl,g,by omega,a8⟩ ?_ ?_ ?_
 ·rintro i e4 e5 hi ⟨e6,e7,e8,c9,a6,n,bs,B,rfl,g,b7,u⟩
  exact SqL.of u
 ·rintro i v e4 e5 hi ⟨e6,e7,e8,c9,a6,n,bs,B,rfl,g,b7,u⟩
  have l9:=CQ hi;obtain ⟨y,rfl⟩:=h8 v (ZI hi);refine ⟨_,rfl,_,_,rfl,rfl,.inr ⟨by decide,by decide⟩,_,_,rfl,rfl,(by show (0:Int) < 2147483647;decide),_,_,rfl,rfl,⟨by decide,by decide⟩,?_⟩
  dsimp only
  have k1:0<=y * 48271 % 2147483647 / 8:=by omega
  generalize y * 48271 % 2147483647 / 8=m at k1 ⊢;refine ⟨_,rfl,q,c,f2,rfl,g.dr,λ l xs L Y Z M N j9 D a1 a9 hl C i0=>?_⟩
  have a0:l≠q:=λ e=>by
   obtain ⟨_,_,_,h⟩:=g.dr.d;rw [e,h] at a9;cases a9
  have i1:l≠c:=λ e=>by
   have:=g.dr.c;rw [<- e,a9] at this;cases this
  have g7:l≠lb:=λ e=>by
   have:=g.hl;rw [<- e,a9] at this;cases this
  have m0:J≠l:=λ e=>by rw [e,a9] at u;cases u
  have d0:=a1 _ _ c6 u;dsimp only
  refine jk (λ a4 G=>∃xs L Y Z M N,a4=[some (.ref a),some (.ref q),some (.int m),some (.ref o),some (.ref W),some (.ref lb),some (.int y),some (.ref l),c9]/\Lw69 K G ad.Desk o a7 d W lb q c f2 a6 n z bs B/\G J=some (.lst e3)/\G l=some (.lst xs)/\DVs K G xs ([L,Y,Z,M,N].map Ak)/\W5 (m % 8) L Y Z M N) (λ i2 b8=>?_) ?_
  ·refine ⟨_,rfl,_,_,rfl,rfl,(by show (0:Int) < 8;decide),rfl,_,rfl,ite2 (λ c1=>?_) (λ c1=>?_)⟩
   ·have c1:m % 8=1:=V.int.inj (of_decide_eq_true c1);obtain ⟨g8,m6,rfl,k2,i3⟩:=C.cons_of;obtain ⟨m7,m8,g9,h0,rfl,m9,n0,k3,k4⟩:=i3.four;refine ⟨_,rfl,q,c,f2,true,rfl,D,λ b0 a2 i4 O F d1 b1=>?_⟩
    refine ⟨_,rfl,q,c,f2,true,rfl,O,λ b3 c8 i5 i6 b9 k5 b2=>?_⟩
    refine ⟨(by show 2<=Y3;decide),λ p h1=>?_⟩
    have S:=b9 _ _ a0 (F _ _ a0 hl);have i7:DVs K c8 [g8,b0,b3,g9,h0] ([L,i4,i5,M,N].map Ak):=.cons (Er (O.t b9) rfl (Er (D.t F) rfl k2)) (.cons (Er (O.t b9) rfl d1) (.cons k5 (.cons (Er (O.t b9) rfl (Er (D.t F) rfl k3)) (.cons (Er (O.t b9) rfl (Er (D.t F) rfl k4)) .nil))));have c0:=Ao h1 (.lst [b0,b3]);have i8:upd c8 p (.lst [b0,b3]) p=some (.lst [b0,b3]):=Aq;have i9:l≠p:=λ e=>by rw [<- e,S] at h1;cases h1
    generalize upd c8 p (.lst [b0,b3])=n1 at c0 i8 ⊢;have j0:=(a1.trans (F.trans b9)).trans (Lib.SD.ofSame c0);obtain ⟨j1,b4,k6,k7,n2⟩:=Zj (c0 _ _ S) a0.symm i1.symm a9 (i6.keep c0) j0 (i7.keep c0) [g8,b0,b3,g9,h0];refine ⟨_,rfl,_,rfl,_,rfl,l,p,1,3,_,_,rfl,rfl,rfl,rfl,c0 _ _ S,i8,i9,by decide,by show 3<=5;decide,(by show 7<=Y3;decide),b8 _ _ ⟨[g8,b0,b3,g9,h0],L,i4,i5,M,N,rfl,g.draw j1 b4,b4 _ _ c6 u,k7,k6,⟨λ _=>⟨b1.1,b2.1⟩,λ h=>absurd c1 h⟩⟩⟩
   ·have c1:¬ m % 8=1:=λ e=>c1 (ζ (congrArg V.int e))
    exact b8 _ _ ⟨xs,L,Y,Z,M,N,rfl,g.draw D a1,d0,hl,C,⟨λ h=>absurd h c1,λ _=>i0⟩⟩
  clear hl C i0 d0 a1 D u g a9 xs L Y Z M N;rintro a4 G ⟨xs,L,Y,Z,M,N,rfl,g,u,hl,C,j2⟩
  have U:(0:Int) < (((bs.map V.ref).length:Nat):Int):=by rw [Y2];have:=g.m.1;omega
  refine ⟨_,rfl,_,_,rfl,rfl,⟨by decide,by decide⟩,_,rfl,lb,_,rfl,.inl (SqL.of g.hl),_,_,rfl,rfl,U,?_⟩
  dsimp only
  obtain ⟨j,e9,R⟩:∃j:Nat,m / 8 % (((bs.map V.ref).length:Nat):Int)=(j:Int)/\j < bs.length:=lF (m / 8) U;rw [e9];refine jk (λ a4 G=>∃a6 n bs B,a4=[some (.ref a),some (.ref q),some (.int m),some (.ref o),some (.ref W),some (.ref lb),some (.int y),some (.ref l),some (.int (j:Int))]/\Lw69 K G ad.Desk o a7 d W lb q c f2 a6 n z bs B/\n<=3+(i+1)/\j < bs.length/\G J=some (.lst e3)/\G l=some (.lst xs)/\DVs K G xs ([L,Y,Z,M,N].map Ak)) (λ i2 b8=>?_) ?_
  ·refine ⟨_,rfl,_,_,rfl,rfl,⟨by decide,by decide⟩,_,_,rfl,rfl,(by show (0:Int) < 3;decide),rfl,_,rfl,ite2 (λ c1=>?_) (λ c1=>?_)⟩
   ·refine ⟨_,rfl,q,c,f2,1,rfl,by decide,g.dr,λ k8 m1 k9 a2 O F m2 bn j3 bl j4 j5=>?_⟩
    obtain ⟨b,rfl⟩:=Nc.mp bl;obtain ⟨ps,rfl⟩:=Nc.mp (j4.1.symm.trans rfl);have hb:=j4.2 0 b ps rfl rfl;have ok:=j5 ps ZA;have b6:=(bn b ZA).1;have l0:b≠q/\b≠lb:=by
     refine ⟨λ e=>?_,λ e=>?_⟩
     ·obtain ⟨_,_,_,h⟩:=g.dr.d;rw [e,h] at b6;cases b6
     ·rw [e,g.hl] at b6;cases b6
    have a5:=g.draw O F;have l1:ixN (bs.map V.ref).length (j:Int)=some j:=AM8 (by rw [Y2];exact R)
    refine ⟨k8,_,_,.ref b,rfl,rfl,SqL.of j3,rfl,?_⟩;refine ⟨_,rfl,_,rfl,lb,bs.map V.ref,_,j,rfl,rfl,a5.hl,l1,?_⟩;have l2:(bs.map V.ref).set j (.ref b)=(bs.set j b).map V.ref:=(List.map_set (f:=V.ref)).symm;rw [l2];obtain ⟨d1,b1,d2,d3⟩:=a5.put hb l0 ok R;have g0:=d2 _ _ g.nn.2.2.1 a5.nm;have d4:upd a2 lb (.lst ((bs.set j b).map V.ref)) lb=some (.lst ((bs.set j b).map V.ref)):=Aq;have g1:∀x∈[q,lb],∃y,upd a2 lb (.lst ((bs.set j b).map V.ref)) x=some y:=λ x c7=>by
     by_cases e:x=lb
     ·exact ⟨_,by rw [e];exact Aq⟩
     ·obtain ⟨y,h2⟩:=a5.there x c7;exact ⟨y,d2 _ _ e h2⟩
    have S:=d2 _ _ g7 (F _ _ a0 hl);have d5:=d2 _ _ h7 (F _ _ c6 u);have d6:=Cp (d2.t a5.hl) rfl (Cp (g.dr.t F) rfl C);generalize upd a2 lb (.lst ((bs.set j b).map V.ref))=c8 at d1 b1 d3 g0 d4 g1 S d5 d6 ⊢;have l3:=g.m.2;have nm:Nm (called z j):=QS z ∅ ∅
    have n3:=MJ (ZE ok.1 ⋯) ok.sh
    have d9:=nm.len;have e1:((WC 4).map λ k=>V.str (called z (k:Nat)))[j]?=some (.str (called z j)):=by
     rw [Yf,js ∅]
     rfl
    have e2:((bs.set j b).map V.ref)[j]?=some (.ref b):=by rw [Yf,UQ R];rfl
    refine ⟨_,rfl,o,_,a7,_,_,_,rfl,d1.o,rfl,dU T d8,?_⟩;refine ⟨_,rfl,_,rfl,W,_,_,_,rfl,rfl,SqL.of g0,Bu e1,_,_,rfl,rfl,CT ∅,_,_,rfl,rfl,CT (by rw [Cm];omega),?_⟩
    refine ⟨_,rfl,_,rfl,lb,_,_,_,rfl,rfl,SqL.of d4,Bu e2,.ref b,ps,rfl,b1.dv,ZE ok.1 ⋯,ok.pbig,λ l4 c2=>?_⟩
    refine ⟨_,_,rfl,rfl,(by rw [Cm,Cm];exact ZE (show _<=20100 by omega) ⋯),?_⟩
    have j6:=d1.keep c2;refine ⟨o,a7,d,[q,lb],called z j,a6,n,ps,rfl,j6,(λ x c7=>(g1 x c7).imp λ y h2=>c2 _ _ h2),by omega,nm,ok,λ l5 f0 j7=>?_⟩
    obtain ⟨m3,h3,_,_⟩:=j6.d;have d7:=c2 _ _ S;have b5:=c2 _ _ d5;exact ⟨rfl,_,rfl,BV (by decide+kernel) (b8 _ _ ⟨_,_,_,_,rfl,d3 l4 l5 c2 f0 j7,by omega,by rw [QU];exact R,f0 _ _ (λ e=>by rw [e,h3] at b5;cases b5) b5,f0 _ _ (λ e=>by rw [e,h3] at d7;cases d7) d7,Cp (dI h3 f0) rfl (d6.keep c2)⟩)⟩
   ·exact b8 _ _ ⟨a6,n,bs,B,rfl,g,by omega,R,u,hl,C⟩
  clear C hl u g R e9 U b7 a6 n bs B;rintro a4 G ⟨a6,n,bs,B,rfl,g,b7,R,u,hl,C⟩
  have l3:=g.m.2;have e1:∀{j:Nat},j < bs.length->((WC 4).map λ k=>V.str (called z (k:Nat)))[j]?=some (.str (called z j)):=λ {j} R=>by
   rw [Yf,js ∅]
   rfl
  have e2:∀{j:Nat} {b:Addr},bs[j]?=some b->(bs.map V.ref)[j]?=some (.ref b):=λ {j b} e=>by rw [Yf,e];rfl
  have U:(0:Int) < (((bs.map V.ref).length:Nat):Int):=by rw [Y2];have:=g.m.1;omega
  obtain ⟨b,ps,h4,hb,ok,sx⟩:=g.ps R;refine ⟨_,rfl,_,rfl,_,rfl,W,_,_,_,rfl,rfl,SqL.of g.nm,Bu (e1 R),_,rfl,_,rfl,lb,_,_,_,rfl,rfl,SqL.of g.hl,Bu (e2 h4),_,rfl,_,_,rfl,rfl,(by show (0:Int) < 8;decide),_,rfl,?_⟩
  refine ⟨o,a7,d,[q,lb],called z j,a6,n,ps,.ref b,m % 8,l,xs,L,Y,Z,M,N,rfl,g.ds,QS z ∅ ∅,sx,hb.dv,hl,C,j2,λ n4 f1=>?_⟩
  have g:=g.keep f1;have u:=f1 _ _ u;have hl:=f1 _ _ hl;have C:=C.keep f1;refine ⟨_,rfl,BV rfl ?_⟩;refine ⟨_,rfl,_,_,rfl,rfl,_,rfl,lb,_,rfl,.inl (SqL.of g.hl),_,_,rfl,rfl,U,?_⟩;dsimp only
  obtain ⟨b4,e9,g2⟩:∃b4:Nat,((j:Int)+1) % (((bs.map V.ref).length:Nat):Int)=(b4:Int)/\b4 < bs.length:=lF ((j:Int)+1) U;rw [e9];obtain ⟨b,ps,h4,hb,ok,sx⟩:=g.ps g2;refine ⟨_,rfl,_,rfl,_,rfl,W,_,_,_,rfl,rfl,SqL.of g.nm,Bu (e1 g2),_,rfl,_,rfl,lb,_,_,_,rfl,rfl,SqL.of g.hl,Bu (e2 h4),_,rfl,_,_,rfl,rfl,(by show (0:Int) < 8;decide),_,rfl,?_⟩
  refine ⟨o,a7,d,[q,lb],called z b4,a6,n,ps,.ref b,m % 8,l,xs,L,Y,Z,M,N,rfl,g.ds,QS z ∅ ∅,sx,hb.dv,hl,C,j2,λ n5 j8=>?_⟩
  exact ⟨_,rfl,BV rfl ⟨_,_,_,_,a6,n,bs,B,rfl,g.keep j8,b7,j8 _ _ u⟩⟩
 ·rintro e4 G ⟨e6,e7,e8,c9,a6,n,bs,B,rfl,g,b7,u⟩
  exact k G
theorem qz {a:Addr}(d:TopFn K mg "law" KR)(b:mg "law"=some (.ref a)):∃fd,Fun K "law" "law" KR a fd/\∀(s:U2) (u:Value),Mn s fd ⟨[u],[]⟩ [("_law_script",u)]:=by
 obtain ⟨f,fd,d,e⟩:=d.ex;cases b.symm.trans e
 obtain ⟨j,k,kV,g,m,n,h,ct,i,rfl,l,c⟩:=id d.ex;exact ⟨_,d,λ s u=>.of_eq rfl⟩
end
end K69
namespace K69
open PySem L2 Lib
theorem walk {l:PySem.W.OpenLaw}{q:YA}{b:List Str}{i:(Str->Option Value)->Heap->Prop}{c:World->Heap->Prop}{d:DefRec}{K:Fk->FrG}(j:l.most=some 63)(e:d.params.defaults=[])
  (m:∀(w:World) (h:Heap),c w h->(K w.params).In h)
  (p:∀(w:World) (mg:Str->Option Value) (g:Addr) (h:Heap),(K w.params).In h->h.Ns ZL mg->mg d.name=some (.ref g)->
   ∃fd:UH,(∀(s:U2) (u:Value),Mn s fd ⟨[u],[]⟩ [("_law_script",u)])/\∀base:Heap,(K w.params).In base->base.Ns ZL mg->FnOk l.prog w (K w.params) mg base (HS l.prog w) 20 g fd ["_law_script"] (spLaw (K w.params))):
  PySem.W.WalkO q b i c l.row.toRowW d [] (λ f vs=>PySem.call f vs):=
 L2.walk_of (n:=63) (k:=20) (x:="_law_script") (CX:=λ w=>HS l.prog w) (sp:=λ w=>spLaw (K w.params)) j ⋯ e ⟨rfl,by decide,by decide⟩ m p (λ _ _ a ns hl _ o=>⟨a,ns,rfl,o,hl,λ _=>rfl⟩) λ _ _ _ _ _ z=>by
  obtain ⟨_,_,_,_,_,_,_,_,_,_,_,_,q⟩:=z;exact q
end K69
end
structure PySem.W.Fast:Prop where(tw5577442704326808409 tw9596121469689656403 tw4858410177862339401 tw11567497735566283054 tw4010383990664933528 tw14850153111925851476 tw13209068771085149520 tw7728285592462592889 tw2217943621874953454 tw6964791381924138638 tw4880466996227196137 tw15068368443723611808 tw18128598207436482501 tw14707519116153074493 tw2334185966450838542 tw2462967686260546550 tw15523426787327669142 tw13625926323462373042 tw8029097684050768219 tw3071966442815317418 tw5667934271507247648 tw4542388983796743823 tw12256041055985368607 tw9215366166206505021 tw5109617921626239735 tw3222168718788344174 tw2422705274739043119 tw11371582638121602758 tw6794163386530525905 tw3466194872022126020 tw11732897755134378362 tw15156920821242356089 tw4470784628979602339 tw4670324721892283521 tw777857631014252132 tw11867613208672169791 tw300425015160096460 tw7330523594544039735 tw13747772931778875031 tw18420513980000916998 tw17323185109508156103 tw13894522763379233781 tw5599105307504715930 tw12712197907205268408 tw1573267088794278854 tw11549992219292744476 tw12673842877343470226 tw13998640219495921979 tw11766127474688907314 tw6909926235654948387 tw11999325984700529408 tw5221727870394188389 tw8066400869924018197 tw7442554781036061818 tw14600353655079290657 tw6598918309913195323 tw14341289541033906489 tw5846513130028454179 tw12401813061785218805 tw6729521544189198631 tw3015734635778614726 tw417984599450415619 tw5097129031192811065 tw15719420921061105202 tw743242866986870263 tw4012544934237187378 tw8562293295817866463 tw10600921334120369437 tw13901852537859912096 tw11411435170479368354 tw10625609582861408307 tw1429108521108703656 tw11979749556492982187 tw17365433638408623701 tw6641049961577748263 tw16840892442962047024 tw15344110595347760746 tw4858611248399841771 tw5501957715385788182 tw967723713867858918 tw6352991335419016518 tw8228015919251790323 tw13612011566847131120 tw16501962926094100161 tw2072927203437654623 tw12544397923633124503 tw5740395704189411062 tw2531144041632845088 tw17667012495126313644 tw16503718731611831731 tw15407361721429993683 tw6488720736714550285 tw7386635493249497932 tw17522966153903147519 tw5263694959828964718 tw11717812995305222900 tw10287036085838777909 tw14604587561883905087 tw3686348258899824980 tw14823525530146746341 tw5300431074374427003 tw13253020996352333418 tw4092761683074870387 tw15158047959828216161 tw9899295150012792338 tw12584079069965142230 tw14131158475535968331 tw9105763636416089490 tw17100834617193452510 tw2103985531733965669 tw12418331278679556605 tw1465135811071566392 tw1185484712794713045 tw12318037692531811095 tw14390150061004547296 tw3349489800119192734 tw10963095598477766600 tw12470931177771608498 tw11487340277928033312 tw5373824985596812485 tw18407852673550588150 tw4675865316972882626 tw15446679389646092620 tw16617337134354274490 tw6213163782073682348 tw10181794840362710309 tw3389452560653088533 tw11112927406962332396 tw3925268630932182378 tw6779024856394593959 tw17288060919326651279 tw982808126212368601 tw1290987923686592702 tw8848775479001732167 tw4164060713484948651 tw3856165355120882800 tw7913693445429529595 tw415309141613335864 tw5199178798816473374 tw7372676164877493678 tw14898109897841734653 tw12419263156273973178 tw1415450007389510055 tw4501222555903534894 tw15842268582846574293 tw12775925683111538001 tw541128051222824072 tw6056600235630382331 tw15510273583455392835 tw13661526665712135393 tw13580336336459931857 tw15318942052245123479 tw15945642897702756215 tw13622097762591082937 tw13854509384185744781 tw14330121545893378063 tw8809091564802448887 tw6826337342100483347 tw14586114457342249263 tw3951326086275361407 tw99344590794599827 tw12022323815124760011 tw6760755691748057309 tw5216446532665705036 tw7367048054658933795 tw9159385821920565552 tw332417432282900685 tw6810501937690874670 tw1530900793790263628 tw5494757339694871948 tw4486831747192718143 tw8380298250972799326 tw3458963065018417901 tw5699567495058860795 tw4922486838034803796 tw3637157925738931610 tw6183959428213869024 tw11629112014058459029 tw17690183159834738963 tw3027524298260796437 tw3742311035807213288 tw17360512945519546292 tw9254005836626635996 tw7213025318336134469 tw1103486740827148832 tw7573607896583412221 tw12008951494336369480 tw12279062831045135293 tw17305883143830352550 tw17528968576301561944 tw6352124738060574977 tw17713456987081250069 tw7093386526874629276 tw4129121838034751354 tw26526981382944091 tw6113140331873713757 tw10322238569680765566 tw2291370457777897731 tw6527435351826679133 tw10397918741221046309 tw3284360553425561715 tw6261467343753430383 tw5827953341517623921 tw1211686487515949687 tw8977564993761478467 tw6043649349624211843 tw16674639886553324676 tw17017099996234430637 tw14150762316419237676 tw10956640988082833701 tw2488952453280001774 tw15230105069581984392 tw13069474545818626026 tw3311812712947615090 tw4553488366248496291 tw10112839534024080665 tw840905938111205647 tw17448332155948992996 tw6650936307713361134 tw13443764055658447210 tw7294200199031263377 tw14369188877947789426 tw1373124897992568580 tw15505989125069287367 tw5487897233967354652 tw14426510380241928603 tw13978592049131208020 tw3232158909306300925 tw14298852302347870222 tw5836863274265981102 tw9385474748631901868 tw7034519614740711254 tw498249760719203734 tw10401395068031424863 tw12093022936141655614 tw7822902188450870586 tw6138458535394392294 tw18027760667646176352 tw15718152451927006539 tw13111708036469990388 tw418552438826519139 tw2014817509761617317 tw17870611825472191987 tw15462794882910887884 tw535658536293336059 tw9168581833909903655 tw9007904535876387927 tw13053022764255859108 tw6221932820679356730 tw6016548304686441675 tw3178851923274668965 tw11922188650095802514 tw10634585506028506916 tw5134726639929302268 tw9802090691422133879 tw7148850153862188241 tw14441738226415658608 tw7698900581952408400 tw16851689427708001500 tw15005352645850799375 tw15562726154242092634 tw13611731370074793833 tw3569263676220813196 tw9355434591287725353 tw6648348597679246105 tw8923297346846783659 tw5366308219658249672 tw13558892576942796712 tw17926503734639521539 tw13521011713578113059 tw5629381120633738864 tw13253355568189837999 tw15995807825686174157 tw384865448651566603 tw17930914814097006553 tw1297252436390364221 tw6226706212741188301 tw2443989348067680913 tw18434223853152320897 tw6234358350071561673 tw994482962467938191 tw7638056494990111708 tw13189031775543335316 tw5319710947634299819 tw17047127457109828197 tw13312926379753266462 tw10591772943774481179 tw14344735441624097315 tw4975566070696069049 tw11736275272922733127 tw18250825286668037084 tw15396453177833051648 tw5612275460293902990 tw13532908672547785231 tw12239955542783804308 tw1038756003113470601 tw6309787419864728250 tw12957738963036399778 tw11091346136209586546 tw13557332098241663516 tw17294362661211351762 tw11018067435381448602 tw7791598773979615077 tw5109918065965799420 tw15471085956117464743 tw16603108305220703472 tw7838756679745980497 tw1316093870690199277 tw6800620668446903849 tw11965902637016493534 tw17083458974106292069 tw2435241088271763442 tw6358213645761187322 tw4523974672218844949 tw3505978162274400650 tw17942290643131101263 tw10543627250684531621 tw2951540002355173851 tw15080161161494242850 tw14713781924669837593 tw7471404826421136492 tw17017769372936336132 tw13659991469265169226 tw113436162763520181 tw5476779575058476815 tw14451759529174063755 tw2647759567599399738 tw5718939719211101838 tw4568863587177514289 tw12137091957844947246 tw15346657434692803318 tw857924694138719498 tw6503014816062681040 tw3175456287678225694 tw1486658138099987078 tw11143936410348070968 tw10666254242746651530 tw960861151387259304 tw8740555078243509890 tw7680043318027125647 tw17452155346625393967 tw15137325196966233123 tw5874028156279757167 tw5527022181625667178 tw11428440950563353034 tw977527667375006626 tw9434450812397955678 tw3811073203565621986 tw3071133108667354773 tw16850799270018633813 tw276992227771844867 tw12951020745838013775 tw2570099530503787222 tw17166021820057248667 tw11443029798118167784 tw13106710028039128105 tw2989874278675997077 tw8814600384653518906 tw10452615962269536688 tw13834248490553813557 tw11778053220739258999 tw3407686481858632807 tw5420334239915600834 tw2971064246699240531 tw16642770453549846783 tw4517793109926577021 tw11095380202885258814 tw8564337264602710501 tw957148949994564002 tw8745840178693324275 tw16769727487417422403 tw16570687002387249667 tw15440469247049285193 tw2452654671452018112 tw11905827003881890820 tw12714553193300851395 tw3360401887622948182 tw8811016285570733103 tw3612902386239010895 tw10382363775220420993 tw4110039851742651675 tw9530433222724632981 tw8963567387435942883 tw7568379368860440145 tw6476144878173838739 tw16683783547696853670 tw13072806501310596018 tw11604864170731151182 tw4014694980003413909 tw11258720952170451833 tw15374781231328453924 tw16477473928175662076 tw12679088855784025448 tw3881694330276387578 tw1554390468224667870 tw11090197454709301068 tw2070269068338735888 tw3971769169249252936 tw3647887715921185025 tw226163189087272370 tw15487301211446271150 tw14688565881398773793 tw12379846125128040643 tw15114473755566111653 tw13163569806411155656 tw7427217041102795331 tw6058144297983692898 tw350460608203569458 tw2265967248927058892 tw12876609523140865522 tw15072107520346287274 tw12098364914028279924 tw9829838973691499161 tw2896742102553860060 tw11404419433454178063 tw3718938230082544033 tw16091708113368910900 tw18101939609683706626 tw16620967470977664089 tw11855927103156144274 tw967861029247929126 tw6953612702524647641 tw1211875237143201782 tw4499059668026917606 tw3812811990924153736 tw14899499701438711117 tw1244107846935648295 tw4234127106040605198 tw17148932406554591729 tw14585701089381871874 tw6959364381253657845 tw16767017945803461034 tw10092479930361862145 tw6961671909951675882 tw6619035399233459445 tw6263565711363933031 tw17904194026048491001 tw17714768719142601172 tw14938063058083633388 tw1450893639990611131 tw12533390472309237003 tw877911629483872757 tw9755487794082131886 tw8991503507932732945 tw8031218863691925085 tw6543885724701058229 tw3695268502873675215 tw2228694679804451723 tw17000648165099962499 tw16609771074147658403 tw14489275787964904678 tw13372667912015400244 tw13072858395539038277 tw4637190064838974273 tw13886878879194868064 tw12314711069731442662 tw7988779089364079377 tw4391571694107099690 tw3360304438236935561 tw1667697615280570369 tw16071240879967275524 tw15368484343270459230 tw14235141409316800585 tw13030377922544877288 tw10292279873142791482 tw8928233745149911149 tw6727547461240583784 tw1864819541473593080 tw17916820312714388030 tw9266010118401848011 tw9730979925556491439 tw8977981126567770723 tw6378875570144597633 tw17685988285669907962 tw13701539665376698339 tw13162434768381024281 tw8317105248584816273 tw6226071625507684177 tw5131767872012667007 tw3539002184229245184 tw3228373662363546170 tw3050468155365748393 tw17473599402070104138 tw17404556185657644585 tw8141548835039007601 tw6563609902885823873 tw4336770190358160674 tw3501148929724362031 tw2836814280028439461 tw18275816840671443785 tw15770396499625776509 tw12629763625370277300 tw12184594711689847751 tw4736723753116018192 tw8649313446750401537 tw4492242534886750279 tw16502503604140739827 tw14636133803871404862 tw4721261783903234636 tw3022557007188315443 tw167141171509355726 tw12443969603925589413 tw12356410773115608647 tw10299059947861023065 tw991353102912256686 tw8585294737052988653 tw144675087225199363 tw11004140380405890565 tw14984288696578528822 tw1059812611320761581 tw15528827737677396840 tw14867966345139057201 tw10085298473312064444 tw3081273608815304338 tw14269080436280408239 tw10977933379112596398:True)
open PySem PySem.W PyProof.Rows
set_option maxRecDepth 100000 in
set_option maxHeartbeats 0 in
theorem PySem.Challenge.cw_grindbench_k69_rows_answered_holds : PySem.Challenge.rw_grindbench_k69_rows_answered.Holds := by
 w_on;o_law;k_head;(case hw=>w_witness2)
 k_fill
 refine K69.walk (l:=PySem.Challenge.rw_grindbench_k69_rows_answered) rfl rfl (λ w h Y=>PySem.W.kIn_of Y) ?F
 case F=>
  intro w mg fa h KX G hmg;have Xw:L2.TopFn (L2.KOf KX) mg "is_whole" K69.Rw:=by dsimp only [L2.KOf];refine' L2.Az KX G ?a ?l ?c ?k;case a|l|c|k=>k_is
  have Vb:L2.TopFn (L2.KOf KX) mg "common_divisor" K69.W3:=by dsimp only [L2.KOf];refine' L2.Az KX G ?a ?l ?c ?k;case a|l|c|k=>k_is
  have W8:L2.TopFn (L2.KOf KX) mg "is_ratio" K69.Wg:=by dsimp only [L2.KOf];refine' L2.Az KX G ?a ?l ?c ?k;case a|l|c|k=>k_is
  have U7:L2.TopFn (L2.KOf KX) mg "ratio_of" K69.W0:=by dsimp only [L2.KOf];refine' L2.Az KX G ?a ?l ?c ?k;case a|l|c|k=>k_is
  have Uc:L2.TopFn (L2.KOf KX) mg "sum_of" K69.aW:=by dsimp only [L2.KOf];refine' L2.Az KX G ?a ?l ?c ?k;case a|l|c|k=>k_is
  have XD:L2.TopFn (L2.KOf KX) mg "less_by" K69.ZX:=by dsimp only [L2.KOf];refine' L2.Az KX G ?a ?l ?c ?k;case a|l|c|k=>k_is
  have VP:L2.TopFn (L2.KOf KX) mg "product_of" K69.Za:=by dsimp only [L2.KOf];refine' L2.Az KX G ?a ?l ?c ?k;case a|l|c|k=>k_is
  have Xb:L2.TopFn (L2.KOf KX) mg "quotient_of" K69.Wk:=by dsimp only [L2.KOf];refine' L2.Az KX G ?a ?l ?c ?k;case a|l|c|k=>k_is
  have Wj:L2.TopFn (L2.KOf KX) mg "is_less" K69.Wz:=by dsimp only [L2.KOf];refine' L2.Az KX G ?a ?l ?c ?k;case a|l|c|k=>k_is
  have Rp:L2.TopFn (L2.KOf KX) mg "is_piece" K69.Ku:=by dsimp only [L2.KOf];refine' L2.Az KX G ?a ?l ?c ?k;case a|l|c|k=>k_is
  have Sh:L2.TopFn (L2.KOf KX) mg "piece_of" K69.Yz:=by dsimp only [L2.KOf];refine' L2.Az KX G ?a ?l ?c ?k;case a|l|c|k=>k_is
  have Ra:L2.TopFn (L2.KOf KX) mg "look_at" K69.Rg:=by dsimp only [L2.KOf];refine' L2.Az KX G ?a ?l ?c ?k;case a|l|c|k=>k_is
  have au:L2.TopFn (L2.KOf KX) mg "is_table" K69.R0:=by dsimp only [L2.KOf];refine' L2.Az KX G ?a ?l ?c ?k;case a|l|c|k=>k_is
  have Yb:L2.TopFn (L2.KOf KX) mg "look_at_table" K69.W4:=by dsimp only [L2.KOf];refine' L2.Az KX G ?a ?l ?c ?k;case a|l|c|k=>k_is
  have RC:L2.TopFn (L2.KOf KX) mg "table_of_rays" K69.Wq:=by dsimp only [L2.KOf];refine' L2.Az KX G ?a ?l ?c ?k;case a|l|c|k=>k_is
  have Ys:L2.TopFn (L2.KOf KX) mg "table_of" K69.Wv:=by dsimp only [L2.KOf];refine' L2.Az KX G ?a ?l ?c ?k;case a|l|c|k=>k_is
  have T4:L2.TopFn (L2.KOf KX) mg "made_by" K69.Tj:=by dsimp only [L2.KOf];refine' L2.Az KX G ?a ?l ?c ?k;case a|l|c|k=>k_is
  have YZ:L2.TopFn (L2.KOf KX) mg "joined" K69.Ut:=by dsimp only [L2.KOf];refine' L2.Az KX G ?a ?l ?c ?k;case a|l|c|k=>k_is
  have Xi:L2.TopFn (L2.KOf KX) mg "less" K69.UV:=by dsimp only [L2.KOf];refine' L2.Az KX G ?a ?l ?c ?k;case a|l|c|k=>k_is
  have SM:L2.TopFn (L2.KOf KX) mg "part_short_of_one" K69.WQ:=by dsimp only [L2.KOf];refine' L2.Az KX G ?a ?l ?c ?k;case a|l|c|k=>k_is
  have Zo:L2.TopFn (L2.KOf KX) mg "glass_gap_glass" K69.Sx:=by dsimp only [L2.KOf];refine' L2.Az KX G ?a ?l ?c ?k;case a|l|c|k=>k_is
  have RD:L2.TopFn (L2.KOf KX) mg "gap_glass_gap" K69.Vz:=by dsimp only [L2.KOf];refine' L2.Az KX G ?a ?l ?c ?k;case a|l|c|k=>k_is
  have X5:L2.TopFn (L2.KOf KX) mg "taken_apart" K69.Mt:=by dsimp only [L2.KOf];refine' L2.Az KX G ?a ?l ?c ?k;case a|l|c|k=>k_is
  have U0:L2.TopFn (L2.KOf KX) mg "is_stretch" K69.WL:=by dsimp only [L2.KOf];refine' L2.Az KX G ?a ?l ?c ?k;case a|l|c|k=>k_is
  have aq:L2.TopFn (L2.KOf KX) mg "look_at_stretch" K69.U5:=by dsimp only [L2.KOf];refine' L2.Az KX G ?a ?l ?c ?k;case a|l|c|k=>k_is
  have Ui:L2.TopFn (L2.KOf KX) mg "is_box" K69.Y5:=by dsimp only [L2.KOf];refine' L2.Az KX G ?a ?l ?c ?k;case a|l|c|k=>k_is
  have Zu:L2.TopFn (L2.KOf KX) mg "look_at_box" K69.ZQ:=by dsimp only [L2.KOf];refine' L2.Az KX G ?a ?l ?c ?k;case a|l|c|k=>k_is
  have Vq:L2.TopFn (L2.KOf KX) mg "limits_of" K69.Rz:=by dsimp only [L2.KOf];refine' L2.Az KX G ?a ?l ?c ?k;case a|l|c|k=>k_is
  have Wy:L2.TopFn (L2.KOf KX) mg "is_before" K69.SN:=by dsimp only [L2.KOf];refine' L2.Az KX G ?a ?l ?c ?k;case a|l|c|k=>k_is
  have aV:L2.TopFn (L2.KOf KX) mg "corners_of" K69.Ze:=by dsimp only [L2.KOf];refine' L2.Az KX G ?a ?l ?c ?k;case a|l|c|k=>k_is
  have RJ:L2.TopFn (L2.KOf KX) mg "edges_of" K69.Yv:=by dsimp only [L2.KOf];refine' L2.Az KX G ?a ?l ?c ?k;case a|l|c|k=>k_is
  have Zg:L2.TopFn (L2.KOf KX) mg "room_at" K69.Yt:=by dsimp only [L2.KOf];refine' L2.Az KX G ?a ?l ?c ?k;case a|l|c|k=>k_is
  have Wl:L2.TopFn (L2.KOf KX) mg "crossing_of" K69.Yx:=by dsimp only [L2.KOf];refine' L2.Az KX G ?a ?l ?c ?k;case a|l|c|k=>k_is
  have Tg:L2.TopFn (L2.KOf KX) mg "cut_by" K69.OJ:=by dsimp only [L2.KOf];refine' L2.Az KX G ?a ?l ?c ?k;case a|l|c|k=>k_is
  have V4:L2.TopFn (L2.KOf KX) mg "from_the_least" K69.Xr:=by dsimp only [L2.KOf];refine' L2.Az KX G ?a ?l ?c ?k;case a|l|c|k=>k_is
  have Vj:L2.TopFn (L2.KOf KX) mg "field_of" K69.VL:=by dsimp only [L2.KOf];refine' L2.Az KX G ?a ?l ?c ?k;case a|l|c|k=>k_is
  have Xo:L2.TopFn (L2.KOf KX) mg "show_ratio" K69.Z8:=by dsimp only [L2.KOf];refine' L2.Az KX G ?a ?l ?c ?k;case a|l|c|k=>k_is
  have W6:L2.TopFnA (L2.KOf KX) mg "read_part_figures" "read_part" K69.aP:=by dsimp only [L2.KOf];refine' L2.O7 KX G ?a ?l ?c ?k;case a|l|c|k=>k_is
  have X4:L2.TopFn (L2.KOf KX) mg "read_ratio" K69.Ma:=by dsimp only [L2.KOf];refine' L2.Az KX G ?a ?l ?c ?k;case a|l|c|k=>k_is
  have aG:L2.TopFn (L2.KOf KX) mg "spread_of" K69.S5:=by dsimp only [L2.KOf];refine' L2.Az KX G ?a ?l ?c ?k;case a|l|c|k=>k_is
  have Xu:L2.TopFn (L2.KOf KX) mg "image_of" K69.Yc:=by dsimp only [L2.KOf];refine' L2.Az KX G ?a ?l ?c ?k;case a|l|c|k=>k_is
  have TV:L2.TopFn (L2.KOf KX) mg "growth_of" K69.Z4:=by dsimp only [L2.KOf];refine' L2.Az KX G ?a ?l ?c ?k;case a|l|c|k=>k_is
  have Sw:L2.TopFn (L2.KOf KX) mg "in_order" K69.TQ:=by dsimp only [L2.KOf];refine' L2.Az KX G ?a ?l ?c ?k;case a|l|c|k=>k_is
  have WM:L2.TopFn (L2.KOf KX) mg "lesser_of" K69.Zi:=by dsimp only [L2.KOf];refine' L2.Az KX G ?a ?l ?c ?k;case a|l|c|k=>k_is
  have Zx:L2.TopFn (L2.KOf KX) mg "greater_of" K69.Ym:=by dsimp only [L2.KOf];refine' L2.Az KX G ?a ?l ?c ?k;case a|l|c|k=>k_is
  have WX:L2.TopFn (L2.KOf KX) mg "slants_by" K69.Yn:=by dsimp only [L2.KOf];refine' L2.Az KX G ?a ?l ?c ?k;case a|l|c|k=>k_is
  have RG:L2.TopFn (L2.KOf KX) mg "slants_of" K69.Ua:=by dsimp only [L2.KOf];refine' L2.Az KX G ?a ?l ?c ?k;case a|l|c|k=>k_is
  have Yq:L2.TopFn (L2.KOf KX) mg "height_at" K69.R3:=by dsimp only [L2.KOf];refine' L2.Az KX G ?a ?l ?c ?k;case a|l|c|k=>k_is
  have S7:L2.TopFn (L2.KOf KX) mg "spots_of" K69.Us:=by dsimp only [L2.KOf];refine' L2.Az KX G ?a ?l ?c ?k;case a|l|c|k=>k_is
  have Rq:L2.TopFn (L2.KOf KX) mg "blur_of" K69.Ye:=by dsimp only [L2.KOf];refine' L2.Az KX G ?a ?l ?c ?k;case a|l|c|k=>k_is
  have XC:L2.TopFn (L2.KOf KX) mg "is_name" K69.Xa:=by dsimp only [L2.KOf];refine' L2.Az KX G ?a ?l ?c ?k;case a|l|c|k=>k_is
  have ZK:L2.TopFn (L2.KOf KX) mg "walk_of" K69.RW:=by dsimp only [L2.KOf];refine' L2.Az KX G ?a ?l ?c ?k;case a|l|c|k=>k_is
  have Yw:L2.TopFn (L2.KOf KX) mg "rounds_of" K69.Vf:=by dsimp only [L2.KOf];refine' L2.Az KX G ?a ?l ?c ?k;case a|l|c|k=>k_is
  have ZV:L2.TopFn (L2.KOf KX) mg "sharp_places" K69.Zy:=by dsimp only [L2.KOf];refine' L2.Az KX G ?a ?l ?c ?k;case a|l|c|k=>k_is
  have Qy:L2.TopFn (L2.KOf KX) mg "words_of" K69.SX:=by dsimp only [L2.KOf];refine' L2.Az KX G ?a ?l ?c ?k;case a|l|c|k=>k_is
  have WP:L2.TopFnA (L2.KOf KX) mg "read_number_texts" "read_number" K69.RN:=by dsimp only [L2.KOf];refine' L2.O7 KX G ?a ?l ?c ?k;case a|l|c|k=>k_is
  have gk:L2.TopFn (L2.KOf KX) mg "read_times" K69.j9:=by dsimp only [L2.KOf];refine' L2.Az KX G ?a ?l ?c ?k;case a|l|c|k=>k_is
  have Vp:L2.TopFn (L2.KOf KX) mg "read_round" K69.Vw:=by dsimp only [L2.KOf];refine' L2.Az KX G ?a ?l ?c ?k;case a|l|c|k=>k_is
  have Ww:L2.TopFnA (L2.KOf KX) mg "read_part_texts" "read_part" K69.Zz:=by dsimp only [L2.KOf];refine' L2.O7 KX G ?a ?l ?c ?k;case a|l|c|k=>k_is
  have Te:L2.TopFn (L2.KOf KX) mg "read_parts" K69.Th:=by dsimp only [L2.KOf];refine' L2.Az KX G ?a ?l ?c ?k;case a|l|c|k=>k_is
  have PP:L2.TopFn (L2.KOf KX) mg "count_of" K69.Tw:=by dsimp only [L2.KOf];refine' L2.Az KX G ?a ?l ?c ?k;case a|l|c|k=>k_is
  have Oz:L2.TopFn (L2.KOf KX) mg "told_out" K69.TY:=by dsimp only [L2.KOf];refine' L2.Az KX G ?a ?l ?c ?k;case a|l|c|k=>k_is
  have Sv:L2.TopFn (L2.KOf KX) mg "read_bench" K69.Ru:=by dsimp only [L2.KOf];refine' L2.Az KX G ?a ?l ?c ?k;case a|l|c|k=>k_is
  have Wt:L2.TopFn (L2.KOf KX) mg "show_piece" K69.Xk:=by dsimp only [L2.KOf];refine' L2.Az KX G ?a ?l ?c ?k;case a|l|c|k=>k_is
  have ZD:L2.TopFn (L2.KOf KX) mg "show_bench" K69.YM:=by dsimp only [L2.KOf];refine' L2.Az KX G ?a ?l ?c ?k;case a|l|c|k=>k_is
  have aQ:L2.TopFn (L2.KOf KX) mg "turned_bench" K69.Vd:=by dsimp only [L2.KOf];refine' L2.Az KX G ?a ?l ?c ?k;case a|l|c|k=>k_is
  have Vg:L2.TopFn (L2.KOf KX) mg "shown" K69.Xe:=by dsimp only [L2.KOf];refine' L2.Az KX G ?a ?l ?c ?k;case a|l|c|k=>k_is
  have Y8:L2.TopFn (L2.KOf KX) mg "show_answer" K69.V1:=by dsimp only [L2.KOf];refine' L2.Az KX G ?a ?l ?c ?k;case a|l|c|k=>k_is
  have R5:L2.TopFn (L2.KOf KX) mg "walk_answer" K69.Wn:=by dsimp only [L2.KOf];refine' L2.Az KX G ?a ?l ?c ?k;case a|l|c|k=>k_is
  have ZC:L2.TopFn (L2.KOf KX) mg "table_answer" K69.Yp:=by dsimp only [L2.KOf];refine' L2.Az KX G ?a ?l ?c ?k;case a|l|c|k=>k_is
  have Ti:L2.TopFn (L2.KOf KX) mg "apart_answer" K69.Uq:=by dsimp only [L2.KOf];refine' L2.Az KX G ?a ?l ?c ?k;case a|l|c|k=>k_is
  have Xx:L2.TopFn (L2.KOf KX) mg "image_answer" K69.Ve:=by dsimp only [L2.KOf];refine' L2.Az KX G ?a ?l ?c ?k;case a|l|c|k=>k_is
  have Z2:L2.TopFn (L2.KOf KX) mg "field_answer" K69.WK:=by dsimp only [L2.KOf];refine' L2.Az KX G ?a ?l ?c ?k;case a|l|c|k=>k_is
  have Sq:L2.TopFn (L2.KOf KX) mg "sharp_answer" K69.R9:=by dsimp only [L2.KOf];refine' L2.Az KX G ?a ?l ?c ?k;case a|l|c|k=>k_is
  have Uz:L2.TopFn (L2.KOf KX) mg "rounds_answer" K69.b8:=by dsimp only [L2.KOf];refine' L2.Az KX G ?a ?l ?c ?k;case a|l|c|k=>k_is
  have We:L2.TopFn (L2.KOf KX) mg "look_at_name" K69.Y6:=by dsimp only [L2.KOf];refine' L2.Az KX G ?a ?l ?c ?k;case a|l|c|k=>k_is
  have YF:L2.TopFnA (L2.KOf KX) mg "read_number_desk" "read_number" K69.Wu:=by dsimp only [L2.KOf];refine' L2.O7 KX G ?a ?l ?c ?k;case a|l|c|k=>k_is
  have ZZ:L2.TopFn (L2.KOf KX) mg "read_row" K69.Ri:=by dsimp only [L2.KOf];refine' L2.Az KX G ?a ?l ?c ?k;case a|l|c|k=>k_is
  have Rh:L2.TopFn (L2.KOf KX) mg "_law_cell_at" K69.Xf:=by dsimp only [L2.KOf];refine' L2.Az KX G ?a ?l ?c ?k;case a|l|c|k=>k_is
  have aL:L2.TopFn (L2.KOf KX) mg "_law_drawn" K69.Z0:=by dsimp only [L2.KOf];refine' L2.Az KX G ?a ?l ?c ?k;case a|l|c|k=>k_is
  have Wd:L2.TopFn (L2.KOf KX) mg "_law_draw" K69.T5:=by dsimp only [L2.KOf];refine' L2.Az KX G ?a ?l ?c ?k;case a|l|c|k=>k_is
  have YW:L2.TopFn (L2.KOf KX) mg "_law_low" K69.WD:=by dsimp only [L2.KOf];refine' L2.Az KX G ?a ?l ?c ?k;case a|l|c|k=>k_is
  have XX:L2.TopFn (L2.KOf KX) mg "_law_under" K69.Wx:=by dsimp only [L2.KOf];refine' L2.Az KX G ?a ?l ?c ?k;case a|l|c|k=>k_is
  have SQ:L2.TopFn (L2.KOf KX) mg "_law_part" K69.LK:=by dsimp only [L2.KOf];refine' L2.Az KX G ?a ?l ?c ?k;case a|l|c|k=>k_is
  have Xl:L2.TopFn (L2.KOf KX) mg "_law_piece" K69.Wb:=by dsimp only [L2.KOf];refine' L2.Az KX G ?a ?l ?c ?k;case a|l|c|k=>k_is
  have Ux:L2.TopFn (L2.KOf KX) mg "_law_plus" K69.V9:=by dsimp only [L2.KOf];refine' L2.Az KX G ?a ?l ?c ?k;case a|l|c|k=>k_is
  have RL:L2.TopFn (L2.KOf KX) mg "_law_less" K69.Vm:=by dsimp only [L2.KOf];refine' L2.Az KX G ?a ?l ?c ?k;case a|l|c|k=>k_is
  have W7:L2.TopFn (L2.KOf KX) mg "_law_written" K69.Tc:=by dsimp only [L2.KOf];refine' L2.Az KX G ?a ?l ?c ?k;case a|l|c|k=>k_is
  have Vi:L2.TopFn (L2.KOf KX) mg "_law_shown" K69.Vu:=by dsimp only [L2.KOf];refine' L2.Az KX G ?a ?l ?c ?k;case a|l|c|k=>k_is
  have Vn:L2.TopFn (L2.KOf KX) mg "_law_piece_text" K69.Wf:=by dsimp only [L2.KOf];refine' L2.Az KX G ?a ?l ?c ?k;case a|l|c|k=>k_is
  have Vk:L2.TopFn (L2.KOf KX) mg "_law_text" K69.b7:=by dsimp only [L2.KOf];refine' L2.Az KX G ?a ?l ?c ?k;case a|l|c|k=>k_is
  have T6:L2.TopFn (L2.KOf KX) mg "_law_called" K69.WN:=by dsimp only [L2.KOf];refine' L2.Az KX G ?a ?l ?c ?k;case a|l|c|k=>k_is
  have YS:L2.TopFn (L2.KOf KX) mg "_law_benches" K69.YQ:=by dsimp only [L2.KOf];refine' L2.Az KX G ?a ?l ?c ?k;case a|l|c|k=>k_is
  have Xv:L2.TopFn (L2.KOf KX) mg "_law_laid" K69.Qc:=by dsimp only [L2.KOf];refine' L2.Az KX G ?a ?l ?c ?k;case a|l|c|k=>k_is
  have Vv:L2.TopFn (L2.KOf KX) mg "_law_row" K69.Wi:=by dsimp only [L2.KOf];refine' L2.Az KX G ?a ?l ?c ?k;case a|l|c|k=>k_is
  have WY:L2.TopFn (L2.KOf KX) mg "_law_walk" K69.VG:=by dsimp only [L2.KOf];refine' L2.Az KX G ?a ?l ?c ?k;case a|l|c|k=>k_is
  have S8:L2.TopFn (L2.KOf KX) mg "_law_image" K69.Vo:=by dsimp only [L2.KOf];refine' L2.Az KX G ?a ?l ?c ?k;case a|l|c|k=>k_is
  have Sy:L2.TopFn (L2.KOf KX) mg "_law_sharp" K69.ZS:=by dsimp only [L2.KOf];refine' L2.Az KX G ?a ?l ?c ?k;case a|l|c|k=>k_is
  have Td:L2.TopFn (L2.KOf KX) mg "_law_field" K69.Tt:=by dsimp only [L2.KOf];refine' L2.Az KX G ?a ?l ?c ?k;case a|l|c|k=>k_is
  have Y7:L2.TopFn (L2.KOf KX) mg "_law_apart" K69.Rv:=by dsimp only [L2.KOf];refine' L2.Az KX G ?a ?l ?c ?k;case a|l|c|k=>k_is
  have VN:L2.TopFn (L2.KOf KX) mg "_law_rounds" K69.X7:=by dsimp only [L2.KOf];refine' L2.Az KX G ?a ?l ?c ?k;case a|l|c|k=>k_is
  have Wr:L2.TopFn (L2.KOf KX) mg "_law_parts" K69.Ni:=by dsimp only [L2.KOf];refine' L2.Az KX G ?a ?l ?c ?k;case a|l|c|k=>k_is
  have XQ:L2.TopFn (L2.KOf KX) mg "_law_answered" K69.U6:=by dsimp only [L2.KOf];refine' L2.Az KX G ?a ?l ?c ?k;case a|l|c|k=>k_is
  have rB:L2.TopFn (L2.KOf KX) mg "law" K69.KR:=by dsimp only [L2.KOf];refine' L2.Az KX G ?a ?l ?c ?k;case a|l|c|k=>k_is
  have qg:mg "abs"=none:=by refine' PySem.W.mg_none_of KX G ?a;case a=>k_is
  have Ah9:mg "all"=none:=by refine' PySem.W.mg_none_of KX G ?a;case a=>k_is
  have qR:mg "bool"=none:=by refine' PySem.W.mg_none_of KX G ?a;case a=>k_is
  have Ah2:mg "enumerate"=none:=by refine' PySem.W.mg_none_of KX G ?a;case a=>k_is
  have sZ:mg "int"=none:=by refine' PySem.W.mg_none_of KX G ?a;case a=>k_is
  have Ai4:mg "isinstance"=none:=by refine' PySem.W.mg_none_of KX G ?a;case a=>k_is
  have AI3:mg "len"=none:=by refine' PySem.W.mg_none_of KX G ?a;case a=>k_is
  have vP:mg "list"=none:=by refine' PySem.W.mg_none_of KX G ?a;case a=>k_is
  have xf:mg "range"=none:=by refine' PySem.W.mg_none_of KX G ?a;case a=>k_is
  have Ak4:mg "reversed"=none:=by refine' PySem.W.mg_none_of KX G ?a;case a=>k_is
  have yG:mg "str"=none:=by refine' PySem.W.mg_none_of KX G ?a;case a=>k_is
  have AY8:mg "tuple"=none:=by refine' PySem.W.mg_none_of KX G ?a;case a=>k_is
  have X0:∃ad,K69.Exc (L2.KOf KX) mg ad/\w.params=ad.pr:=by
   dsimp only [L2.KOf]
   refine' ⟨_,K69.xT w.params KX G ?za0 ?za1 ?za2 ?za3 ?za4 ?za5 ?za6 ?za7 ?za8 ?za9 ?zb0 ?zb1 ?zb2 ?zb3 ?zb4 ?zb5 ?zb6 ?zb7 ?zb8 ?zb9 ?zc0 ?zc1 ?zc2 ?zc3 ?zc4 ?zc5 ?zc6 ?zc7 ?zc8 ?zc9 ?zd0 ?zd1 ?zd2 ?zd3 ?zd4 ?zd5 ?zd6 ?zd7 ?zd8 ?zd9 ?ze0 ?ze1 ?ze2 ?ze3 ?ze4 ?ze5 ?ze6 ?ze7 ?ze8 ?ze9 ?zf0 ?zf1 ?zf2 ?zf3 ?zf4 ?zf5 ?zf6 ?zf7 ?zf8 ?zf9 ?zg0 ?zg1 ?zg2 ?zg3 ?zg4 ?zg5 ?zg6 ?zg7 ?zg8 ?zg9 ?zh0 ?zh1 ?zh2 ?zh3 ?zh4 ?zh5 ?zh6 ?zh7 ?zh8 ?zh9 ?zi0 ?zi1 ?zi2 ?zi3 ?zi4 ?zi5 ?zi6 ?zi7 ?zi8 ?zi9 ?zj0 ?zj1 ?zj2 ?zj3 ?zj4 ?zj5 ?zj6 ?zj7 ?zj8 ?zj9 ?zk0 ?zk1 ?zk2 ?zk3 ?zk4 ?zk5 ?zk6 ?zk7 ?zk8 ?zk9 ?zl0 ?zl1 ?zl2 ?zl3 ?zl4 ?zl5 ?zl6 ?zl7 ?zl8 ?zl9 ?zm0 ?zm1 ?zm2 ?zm3 ?zm4 ?zm5 ?zm6 ?zm7 ?zm8 ?zm9 ?zn0 ?zn1 ?zn2 ?zn3 ?zn4 ?zn5 ?zn6 ?zn7 ?zn8 ?zn9 ?zo0 ?zo1 ?zo2 ?zo3 ?zo4 ?zo5 ?zo6 ?zo7 ?zo8 ?zo9 ?zp0 ?zp1 ?zp2 ?zp3 ?zp4 ?zp5 ?zp6 ?zp7 ?zp8 ?zp9 ?zq0 ?zq1 ?zq2 ?zq3 ?zq4 ?zq5 ?zq6 ?zq7 ?zq8 ?zq9 ?zr0 ?zr1 ?zr2 ?zr3 ?zr4 ?zr5 ?zr6 ?zr7 ?zr8 ?zr9 ?zs0 ?zs1 ?zs2 ?zs3 ?zs4 ?zs5 ?zs6 ?zs7 ?zs8 ?zs9 ?zt0 ?zt1 ?zt2 ?zt3 ?zt4 ?zt5 ?zt6 ?zt7 ?zt8 ?zt9 ?zu0 ?zu1 ?zu2 ?zu3 ?zu4 ?zu5 ?zu6 ?zu7 ?zu8 ?zu9 ?zv0,rfl⟩
   case za0|za1|za2|za3|za4|za5|za6|za7|za8|za9|zb0|zb1|zb2|zb3|zb4|zb5|zb6|zb7|zb8|zb9|zc0|zc1|zc2|zc3|zc4|zc5|zc6|zc7|zc8|zc9|zd0|zd1|zd2|zd3|zd4|zd5|zd6|zd7|zd8|zd9|ze0|ze1|ze2|ze3|ze4|ze5|ze6|ze7|ze8|ze9|zf0|zf1|zf2|zf3|zf4|zf5|zf6|zf7|zf8|zf9|zg0|zg1|zg2|zg3|zg4|zg5|zg6|zg7|zg8|zg9|zh0|zh1|zh2|zh3|zh4|zh5|zh6|zh7|zh8|zh9|zi0|zi1|zi2|zi3|zi4|zi5|zi6|zi7|zi8|zi9|zj0|zj1|zj2|zj3|zj4|zj5|zj6|zj7|zj8|zj9|zk0|zk1|zk2|zk3|zk4|zk5|zk6|zk7|zk8|zk9|zl0|zl1|zl2|zl3|zl4|zl5|zl6|zl7|zl8|zl9|zm0|zm1|zm2|zm3|zm4|zm5|zm6|zm7|zm8|zm9|zn0|zn1|zn2|zn3|zn4|zn5|zn6|zn7|zn8|zn9|zo0|zo1|zo2|zo3|zo4|zo5|zo6|zo7|zo8|zo9|zp0|zp1|zp2|zp3|zp4|zp5|zp6|zp7|zp8|zp9|zq0|zq1|zq2|zq3|zq4|zq5|zq6|zq7|zq8|zq9|zr0=>k_is
   case zr1|zr2|zr3|zr4|zr5|zr6|zr7|zr8|zr9|zs0=>rfl
   case zs1=>decide
   case zs2|zs3|zs4|zs5|zs6|zs7|zs8|zs9|zt0|zt1|zt2|zt3|zt4|zt5|zt6|zt7|zt8|zt9|zu0|zu1=>k_is
   case zu2|zu3|zu4|zu5|zu6|zu7|zu8|zu9=>rfl
   case zv0=>decide
  obtain ⟨ad,X0,hw⟩:=X0;obtain ⟨fd,FL,bL⟩:=K69.qz rB hmg;exact ⟨fd,bL,λ base _ _=>L2.FnB.ok (K69.Ai2 ⟨X0,qg,Ah9,qR,Ah2,sZ,Ai4,AI3,vP,xf,Ak4,yG,AY8,Xw,Vb,W8,U7,Uc,XD,VP,Xb,Wj,Rp,Sh,Ra,au,Yb,RC,Ys,T4,YZ,Xi,SM,Zo,RD,X5,U0,aq,Ui,Zu,Vq,Wy,aV,RJ,Zg,Wl,Tg,V4,Vj,Xo,W6,X4,aG,Xu,TV,Sw,WM,Zx,WX,RG,Yq,S7,Rq,XC,ZK,Yw,ZV,Qy,WP,gk,Vp,Ww,Te,PP,Oz,Sv,Wt,ZD,aQ,Vg,Y8,R5,ZC,Ti,Xx,Z2,Sq,Uz,We,YF,ZZ,Rh,aL,Wd,YW,XX,SQ,Xl,Ux,RL,W7,Vi,Vn,Vk,T6,YS,Xv,Vv,WY,S8,Sy,Td,Y7,VN,Wr,XQ⟩ hw FL)⟩
#print axioms PySem.Challenge.cw_grindbench_k69_rows_answered_holds
