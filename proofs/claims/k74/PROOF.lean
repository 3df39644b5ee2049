import PyProof.Rows.All
import KE.KIntText
import KE.KFromBytes
import KE.KIsAll
import KE.KItem
import OpenK.KLine
import OpenK.KWalk
import Wide.FinOn
import PyProof.EqAt
import PyProof.EqKinds
import PyProof.TupleCall
import Lean
import PySem.Challenge.RW_grindbench_k74_whole_seen_at_the_desk
set_option Elab.async false
set_option linter.all false
set_option maxRecDepth 100000
set_option maxHeartbeats 1000000
abbrev FrG:=PySem.W.Frag
open Array renaming length_toList→UF,mem_toList_iff→Nn
open Bool renaming and_eq_true→QM,and_eq_true_iff→WS,eq_iff_iff→yk,false_and→wc,false_eq_true→qk,false_ne_true→ZH,or_eq_false_iff→ND
open False renaming elim→UP
open ForInStep renaming yield→Qr
open Int renaming emod_lt_of_pos→WV,emod_nonneg→UO,lt_trichotomy→GA,mul_ne_zero→yl,natAbs_mul→WH,natAbs_natCast→YV,natAbs_neg→Jf,natCast_emod→Fh,sign_eq_neg_one_of_neg→qf,sign_eq_one_of_pos→FM,toNat_natCast→xa,zero_sub→FK
open List renaming Nodup→UB,Pairwise→wS,all_cons→GO,all_eq_true→GV,all_map→ML,any_cons→JI,append_assoc→Xs,append_cancel_left→Fc,append_nil→YY,cons_append→wx,dropLast_concat→NH,drop_eq_getElem_cons→UE,drop_eq_nil_of_le→wf,drop_zero→qh,eq_nil_or_concat→wt,filterMap_cons→zA,filterMap_map→xA,filter_cons→GY,find?_cons→yy,flatMap_cons→GB,flatten_cons→ze,foldl_append→wh,forIn_cons→yn,getD_eq_getElem?_getD→QO,getElem?_append_left→UD,getElem?_append_right→QN,getElem?_drop→xE,getElem?_eq_getElem→ZO,getElem?_eq_some_iff→Yn,getElem?_map→ZN,getElem?_of_mem→ui,getElem?_set_ne→Nl,getElem?_set_self→Fu,getElem?_take_of_lt→GP,getLast?_concat→UA,getLast?_eq_getElem?→QZ,getLast?_eq_none_iff→JE,getLast?_eq_some_getLast→WE,getLast_cons→xb,length→QK,length_append→X1,length_cons→X9,length_drop→JF,length_filter_le→yX,length_map→Y2,length_nil→YG,length_replicate→wq,length_set→ur,length_take→YR,lookup→xL,map_append→U4,map_congr_left→zJ,map_cons→YB,map_eq_cons_iff→uj,map_eq_nil_iff→zD,map_map→zh,map_nil→FG,mem_append→YE,mem_append_left→UQ,mem_append_right→YA,mem_cons→X2,mem_cons_of_mem→Y9,mem_cons_self→U1,mem_filter→UN,mem_flatMap→GW,mem_map→XW,mem_of_getElem?→ZB,mem_of_getLast?→uc,mem_of_mem_take→ua,mem_singleton→W1,nil_append→Qb,nodup_append→GE,nodup_cons→XO,not_mem_nil→YN,of_mem_zip→FV,pairwise_singleton→xS,range→Wc,range_succ_eq_map→FH,replicate→XE,replicate_succ→zC,replicate_succ'→NI,size_toArray→ZY,sum_cons→yT,take_add_one→Xe,take_length→YU,take_of_length_le→QD,take_zero→NG,toList_toArray→zI
open List.Pairwise renaming nil→MK
open List.cons renaming inj→XP
open Nat renaming add_comm→FF,add_le_add_right→US,add_mul→zj,add_sub_cancel→qr,digitChar→Me,gcd→Go,gcd_comm→MM,le_of_eq→ME,le_of_lt→XT,le_refl→ZK,le_succ→qV,le_trans→Zo,lt_irrefl→yB,lt_of_le_of_lt→xB,lt_of_lt_of_le→Y7,lt_succ_self→wv,lt_trans→QB,min_eq_left→xw,mod_lt→MB,mul_le_mul_right→YP,mul_lt_mul''→ww,ne_of_gt→MD,ne_of_lt→XV,pow_add→NC,pow_le_pow_right→zi,pow_pos→NA,pow_succ→jj,succ_le_succ→xl,succ_mul→FE,toDigits→FI,toDigits_of_lt_base→Fa,two_pow_pos→FX,zero_le→WO
open Ne renaming symm→UX
open Option renaming isSome_iff_exists→GN,map_eq_some_iff→QE,map_some→uu
open Option.some renaming inj→XM
open Prod renaming ext→Uv,snd→qq
open PyProof.Rows renaming AllBare→wn,assignInOrder_cons→qv,callWith_type1→QA,envOfC→wo,joinOk_of_weight→JL,signs→QP,slot_tuple_getitem→zw
open PySem renaming Around→WB,BindsTo→NU,Builtin→Ue,DictEntry→wP,FuncData→UK,IsRangeIter→NK,NameKind→UM,Operator→NJ,Paired→xr,Params→GT,PassesOwn→WC,Program→Yf,PyData→U2,Shared→W9,Str→Y1,Within→Fs,assign→FR,assignEach→zv,assignInOrder→GS,attributeBase→wZ,backTo→yY,behindInMarks→xv,binaryOp→yA,bindArgs→ul,bootBuiltins→WZ,call_meets→xI,callerA→NV,codeAny→GL,codeAny_mono→jo,compEnvC→NN,compareOp→UU,foldedSetIterable→JW,getItem→GI,intText?→JJ,keywordEach→GM,letOwnedTupleGo→xy,mainGlobals→Zq,mem_of_lookup→Uf,numbered_texts→NM,post_val_or_str→uT,recursionLimit→NL,relabel→xz,sizeLine→Y3,sliceBounds→wb,starEach→XA,subscripted→GH,swapsWith→js,sysModules→Qv,tupleKind→NS,tupleKind_room_in1→qA,typeIs_str→wE,valueAt→FS,wpAny_Call_Name_kw→QT,wpAny_bind→ZA,wpAny_execs_cons→Fk,wpAny_execs_nil→uS,wpAny_getItem_str_slice→zS,wpAny_holding→QL,wpAny_loadName_local→uk,wpAny_mono→Jn,wpAny_newObj_type→zk,wpAny_passesOwn→zd,wpAny_pure→Yq,wpAny_pyIter_list→GG,wpAny_standAt→wW,wpAny_truthy_bool→UI
open PySem.Around renaming under→MH
open PySem.Builtin.Int renaming intBits→Mb
open PySem.Builtin.List renaming listTooLong→zo
open PySem.Builtin.Range renaming rangeSize→zQ
open PySem.Builtin.Slice renaming sliceAdjust→xp,sliceApplied→qa,slicePlaces→QY
open PySem.Builtin.Str renaming occurrences→WF,partsBetween→xo,strKind→qE,strSliceIndices→QI,strSub→xt
open PySem.Builtin.Tuple renaming tupleExact→zn
open PySem.Calls renaming Name_function_global→xc,callWith_builtin→FD,evalArgs_plain→No,loadGlobal_global→GU
open PySem.Code renaming isFrame→MI
open PySem.F renaming args_str_split_2→qc,entry_str_split→Gc,plainAttrs_list→Xq,plainAttrs_str→YD,slot_dict_get→Nd,slot_dict_getitem→qB,slot_list_append→Xt,slot_str_join→QU,slot_str_split→XY,type_list_append→Xx,type_str_join→QV,type_str_split→Wx
open PySem.Heap renaming SameBut→ya,get?_none_of_le→Ni,get?_push_of_some→ZE,get?_push_size→XU,get?_update_other→FC,lt_size→ZU,size_push→jS
open PySem.Heap.IsList renaming push→MQ
open PySem.Heap.SameBut renaming refl→MO
open PySem.NameKind renaming cell→GQ,free→zt
open PySem.NumText renaming AllDigits→NW
open PySem.Obj renaming mapSeq→FB
open PySem.Paired renaming length→Mc
open PySem.PassesOwn renaming never→YI
open PySem.PyData renaming canLayAll0→WI,eqv→UZ,eqvAll→Md
open PySem.SeqAt renaming EqAt→WU,canLay_of_shaped→yi,shaped→we
open PySem.SeqAt.EqAt renaming int_str→Mf,str_int→Mn
open PySem.Str renaming empty→ut,join→ZT,mk→UC,ofString→Z3
open PySem.StrLaws renaming join_length_le→FP,join_split→MA,occBody→FT,partsBetween_eq→FY,partsFrom→NX
open PySem.Txt renaming endswith→FO,join→ue,mul→NR,slice→Wt,split→XG,startswith→qb
open PySem.Value renaming bool→Mo,float→MR,int→jp,none→Fn,ref→Wp,str→NO,type→jv
open PySem.W renaming callWith_K→yb,callWith_K0→NY,cellsFrom_some→FA,codeIn→Xm,emptyDict→UH,findIn→ZI,fnOf→YO,hasDictIn→UY,instObj→JY,isFn→XZ,keepIn→Ya,kia_one→WG,kitx_dict→MG,kitx_list→qS,kitx_tuple→My,lookIn→jI,makesIn→zb,methodCall_KW→Nc,methodObj→qO,mg_of→Za,nsIn→ZG,plainGet→UR,plainGet_of→ja,plainOver→JO,takerIn→FU
open Rat renaming divInt→XB,divInt_add_divInt→Na,divInt_eq_div→JU,divInt_mul_divInt→wr,divInt_mul_right→xh,div_lt_iff→qo,div_mul_cancel→ql,intCast_add→xx,intCast_eq_zero_iff→wa,intCast_mul→Yb,intCast_natCast→XI,intCast_neg→JA,intCast_zero→wC,le_refl→JC,lt_div_iff→qn,lt_irrefl→wT,mul_eq_zero→yv,mul_nonneg→ZR,mul_pos→WA,neg_den→Nw,neg_num→Nt,not_lt→xi,num_divInt_den→xD,num_nonneg→NF,one_mul→ub,zero_mul→wm
open Sum renaming inl→Fm,inr→xk
open True renaming intro→zl
local macro_rules | `(tactic| walk_at "s")=>`(tactic| exact ⟨rfl,rfl,rfl,by decide+kernel,rfl,by decide+kernel,by decide+kernel⟩)
local macro_rules | `(tactic| walk_at "o")=>`(tactic| first | exact Or.inl rfl | exact Or.inr rfl)
namespace L2
open PySem PySem.Spec PyProof.Rows
abbrev Key:=Sum Int Str
def keyIs:Key->Value->Bool
 | .inl k,v=>Value.isInt k v
 | .inr x,v=>Value.isStrOf x v
def keyH (w:World):Key->Int
 | .inl k=>hashInt k
 | .inr x=>hashStr w x
theorem HX:∀{k:Key} {v:Value},keyIs k v=true->(∃i t,k=Fm i/\v=jp i t)\/(∃x t,k=xk x/\v=NO x t)
 | .inl i,v,h=>by
  obtain ⟨t,e⟩:=Value.isInt_shape (k:=i) (v:=v) h;exact .inl ⟨i,t,rfl,e⟩
 | .inr x,v,h=>by
  obtain ⟨t,e⟩:=Value.isStrOf_shape (x:=x) (v:=v) h;exact .inr ⟨x,t,rfl,e⟩
theorem uI (i:Int)(t:Tok):keyIs (.inl i) (.int i t)=true:=by simp [keyIs,Value.isInt]
theorem uW (x:Str)(t:Tok):keyIs (.inr x) (.str x t)=true:=by simp [keyIs,Value.isStrOf]
theorem AX2 (a b:Int):decide ((Fm a:Key)=Fm b)=(a == b):=by
 by_cases e:a=b
 ·subst e;simp
 ·have h:¬ (Fm a:Key)=Fm b:=λ q=>e (Fm.inj q)
  rw [decide_eq_false h];exact (beq_eq_false_iff_ne.mpr e).symm
theorem uo (a b:Str):decide ((xk a:Key)=xk b)=decide (a=b):=by
 by_cases e:a=b
 ·subst e;simp
 ·have h:¬ (xk a:Key)=xk b:=λ q=>e (xk.inj q)
  rw [decide_eq_false h,decide_eq_false e]
theorem AQ9 (a:Int)(b:Str):decide ((Fm a:Key)=xk b)=false:=decide_eq_false (λ q=>nomatch q)
theorem rG (a:Str)(b:Int):decide ((xk a:Key)=Fm b)=false:=decide_eq_false (λ q=>nomatch q)
def mixKind (prog:Yf)(w:World):PySem.KeyKind prog w Key where
 is:=keyIs
 hash:=keyH w
 inj:=λ v a b d c=>by
  rcases HX d with ⟨i,t,rfl,rfl⟩ | ⟨x,t,rfl,rfl⟩
  ·rcases HX c with ⟨j,u,rfl,e⟩ | ⟨y,u,rfl,e⟩
   ·injection e with e1 _;rw [e1]
   ·exact nomatch e
  ·rcases HX c with ⟨j,u,rfl,e⟩ | ⟨y,u,rfl,e⟩
   ·exact nomatch e
   ·injection e with e1 _;rw [e1]
 byValue:=λ k v h=>by
  rcases HX h with ⟨i,t,rfl,rfl⟩ | ⟨x,t,rfl,rfl⟩<;>rfl
 pyHash:=λ hv h=>by
  rcases HX hv with ⟨i,t,rfl,rfl⟩ | ⟨x,t,rfl,rfl⟩
  ·exact wpAny_pyHash_int h
  ·exact wpAny_pyHash_str h
 eqBool:=λ f hv h=>by
  rcases HX f with ⟨i,t,rfl,rfl⟩ | ⟨x,t,rfl,rfl⟩
  ·rcases HX hv with ⟨j,u,rfl,rfl⟩ | ⟨y,u,rfl,rfl⟩
   ·rw [AX2] at h;exact wpAny_eqBool_int h
   ·rw [AQ9] at h;exact Mf i t y u _ _ _ _ h
  ·rcases HX hv with ⟨j,u,rfl,rfl⟩ | ⟨y,u,rfl,rfl⟩
   ·rw [rG] at h;exact Mn x t j u _ _ _ _ h
   ·rw [uo] at h;exact wpAny_eqBool_str h
 «strs»:=λ k x t v h=>by
  rcases HX h with ⟨i,u,rfl,e⟩ | ⟨y,u,rfl,e⟩
  ·exact nomatch e
  ·injection e with e1 _
   subst e1;cases v<;>rfl
theorem AL8 (prog:Yf)(w:World)(i:Int)(t:Tok):(mixKind prog w).is (.inl i) (.int i t)=true:=uI i t
theorem mC (prog:Yf)(w:World)(x:Str)(t:Tok):(mixKind prog w).is (.inr x) (.str x t)=true:=uW x t
inductive V where
 | non | bl (b:Bool) | int (i:Int) | str (x:Str) | byt (b:Array UInt8) | flt (b:UInt64) | ref (a:Addr) | ty (n:String)
 deriving DecidableEq
def RelV:V->Value->Prop
 | .non,u=>u=Fn
 | .bl b,u=>u=Mo b
 | .int i,u=>∃t,u=jp i t
 | .str x,u=>∃t,u=NO x t
 | .byt b,u=>∃t,u=Value.bytes b t
 | .flt b,u=>∃t,u=MR b t
 | .ref a,u=>u=Wp a
 | .ty n,u=>u=jv n
abbrev Vals:List V->List Value->Prop:=xr RelV
theorem Vals.length {xs:List V}{us:List Value}(r:Vals xs us):xs.length=us.length:=Mc r
theorem Vals.get:∀{xs:List V} {us:List Value} {i:Nat} {x:V},Vals xs us->xs[i]?=some x->∃u,us[i]?=some u/\RelV x u
 | _,_,_,_,.nil,e=>by simp at e
 | _,_,0,_,.cons r _,e=>by simp at e;subst e;exact ⟨_,rfl,r⟩
 | _,_,i+1,x,.cons _ t,e=>by
  obtain ⟨u,a,b⟩:=Vals.get (i:=i) (x:=x) t (by simpa using e)
  exact ⟨u,by simpa using a,b⟩
theorem Vals.set {x:V}{u:Value}(r:RelV x u):∀{xs:List V} {us:List Value} (i:Nat),Vals xs us->Vals (xs.set i x) (us.set i u)
 | _,_,_,.nil=>.nil
 | _,_,0,.cons _ t=>.cons r t
 | _,_,i+1,.cons q t=>.cons q (Vals.set r i t)
theorem Vals.append:∀{xs a:List V} {us b:List Value},Vals xs us->Vals a b->Vals (xs++a) (us++b)
 | _,_,_,_,.nil,s=>s
 | _,_,_,_,.cons r t,s=>.cons r (Vals.append t s)
theorem Vals.take:∀{xs:List V} {us:List Value} (n:Nat),Vals xs us->Vals (xs.take n) (us.take n)
 | _,_,0,_=>.nil
 | _,_,_+1,.nil=>.nil
 | _,_,n+1,.cons r t=>.cons r (Vals.take n t)
theorem Vals.drop:∀{xs:List V} {us:List Value} (n:Nat),Vals xs us->Vals (xs.drop n) (us.drop n)
 | _,_,0,r=>r
 | _,_,_+1,.nil=>.nil
 | _,_,n+1,.cons _ t=>Vals.drop n t
def RelO:Option V->Option Value->Prop
 | some v,some u=>RelV v u
 | none,none=>True
 | _,_=>False
def KV {a:Type}:List (a×V)->List (a×Value)->Prop:=xr λ (p:a×V) (q:a×Value)=>p.1=q.1/\RelV p.2 q.2
def kV:Key->V
 | .inl i=>.int i
 | .inr x=>.str x
inductive HO where
 | lst (xs:List V)
 | tup (xs:List V)
 | dK (kvs:List (Key×V)) | dT (kvs:List (List Key×V))
 | set (S:Int->Bool) (n:Nat)
 | ins (C dx:Addr) (fs:List (Str×V))
 | own (x:Addr)
 | xd (fs:List (Str×V))
 | met (f x:Addr)
 | rng (lo hi:Int)
 | frz (o:Obj) (u:HO)
 | tbl (ps:Array Value)
 | ext (φ:Heap->Prop)
abbrev Hp:=Addr->Option HO
def upd (H:Hp)(a:Addr)(o:HO):Hp:=λ b=>if b=a then some o else H b
theorem Ar {H:Hp}{a:Addr}{o:HO}:upd H a o a=some o:=by unfold upd;rw [if_pos rfl]
theorem BK {H:Hp}{a b:Addr}{o:HO}(h:b≠a):upd H a o b=H b:=by unfold upd;rw [if_neg h]
theorem GJ {H:Hp}{a:Addr}{o u:HO}:upd (upd H a o) a u=upd H a u:=by
 funext b;unfold upd;split<;>rfl
theorem zN {H:Hp}{a b:Addr}{o u:HO}(h:H a=some o)(h':H b=some u)(d:o≠u):a≠b:=by
 intro e;subst e;rw [h] at h';exact d (XM h')
theorem Bt {H:Hp}{a b:Addr}{o:HO}(h:H a=some o)(h':H b=none):a≠b:=by
 intro e;subst e;rw [h] at h';cases h'
section
variable (P:Yf)(w:World)
def ObjOk (H:Hp)(h:Heap)(a:Addr):HO->Prop
 | .lst xs=>xs.length<=Y3/\∃(its:List Value) (n:Nat),Vals xs its/\h.get? a=some { cls:=.type "list",data:=.seq its.toArray n }
 | .tup xs=>xs.length<=Y3/\∃its:List Value,Vals xs its/\IsTup h a its.toArray
 | .dK b=>b.length<=Y3/\(a == Qv)=false/\∃vs,KV b vs/\h.DictOf (mixKind P w) a vs
 | .dT b=>b.length<=Y3/\(a == Qv)=false/\∃xs:List (List Key×Addr×Value),
   xr (λ (p:List Key×V) (q:List Key×Addr×Value)=>p.1=q.1/\H q.2.1=some (.tup (p.1.map kV))/\RelV p.2 q.2.2) b xs/\
   ∃o es j,h.get? a=some o/\o.ExactDict/\o.data=.dict es j/\es.toList=xs.map (entryOfKey (NS (mixKind P w)))/\(xs.map (·.1)).Nodup
 | .set k n=>h.SetOf (intKind P w) a k n
 | .ins C d fs=>H d=some (.own a)/\fs.length<=1000/\d≠a/\h.get? a=some (JY C d)/\
   ∃c,h.Ns1 d c/\(∀f,RelO (fs.lookup f) (c f))/\Fs c (fs.map (·.1))
 | .own _=>∃o,h.get? a=some o
 | .xd fs=>∃c,h.Ns1 a c/\∀f,RelO (fs.lookup f) (c f)
 | .rng lo hi=>∃t u v,h.get? a=some { cls:=.type "range",data:=.fields #[.int lo t,.int hi u,.int 1 v] }
 | .frz o u=>h.get? a=some o/\ObjOk H h a u
 | .tbl ps=>h.get? a=some { cls:=.none,data:=.fields ps }
 | .met f x=>h.get? a=some (qO (.ref f) (.ref x))
 | .ext e=>e h/\(∃o,h.get? a=some o)/\∀g i:Heap,e g->(∀o,g.get? a=some o->i.get? a=some o)->e i
def HOk (H:Hp)(h:Heap):Prop:=∀a o,H a=some o->ObjOk P w H h a o
end
section
variable {P:Yf}{w:World}{H H':Hp}{h h':Heap}{a:Addr}{o:HO}
theorem ObjOk.lt (x:ObjOk P w H h a o):a < h.objs.size:=by
 cases o with
 | lst xs=>obtain ⟨_,_,_,_,e⟩:=x;exact ZU e
 | tup xs=>obtain ⟨_,_,_,p⟩:=x;exact p.lt
 | dK b=>obtain ⟨_,_,_,_,o,_,_,e,_⟩:=x;exact ZU e
 | dT b=>obtain ⟨_,_,_,_,o,_,_,e,_⟩:=x;exact ZU e
 | set i n=>obtain ⟨o,_,_,_,e,_⟩:=x;exact ZU e
 | ins C c fs=>obtain ⟨_,_,_,e,_⟩:=x;exact ZU e
 | own y=>obtain ⟨_,e⟩:=x;exact ZU e
 | xd fs=>obtain ⟨_,⟨_,_,_,e,_⟩,_⟩:=x;exact ZU e
 | rng lo hi=>obtain ⟨_,_,_,e⟩:=x;exact ZU e
 | frz d u=>obtain ⟨e,_⟩:=x;exact ZU e
 | tbl ps=>exact ZU (show h.get? a=some _ from x)
 | met f y=>exact ZU (show h.get? a=some _ from x)
 | ext g=>obtain ⟨_,⟨_,e⟩,_⟩:=x;exact ZU e
theorem xr.mapP {e g:Type}{i j:e->g->Prop}:∀{c:List e} {d:List g},xr i c d->(∀a b,i a b->j a b)->xr j c d
 | _,_,.nil,_=>.nil
 | _,_,.cons r t,f=>.cons (f _ _ r) (xr.mapP t f)
theorem ObjOk.stay (x:ObjOk P w H h a o)(k:∀b u,(b=a\/H b=some (.own a))->h.get? b=some u->h'.get? b=some u)
  (s:∀b,H b=some (.own a)->H' b=some (.own a)) (A:∀b xs,H b=some (.tup xs)->H' b=some (.tup xs)):ObjOk P w H' h' a o:=by
 induction o with
 | lst xs=>obtain ⟨z,its,n,r,e⟩:=x;exact ⟨z,its,n,r,k _ _ (.inl rfl) e⟩
 | tup xs=>obtain ⟨z,its,r,g,e,c⟩:=x;exact ⟨z,its,r,g,k _ _ (.inl rfl) e,c⟩
 | dK m=>obtain ⟨z,y,vs,r,g,es,i,e,c⟩:=x;exact ⟨z,y,vs,r,g,es,i,k _ _ (.inl rfl) e,c⟩
 | dT m=>
  obtain ⟨z,y,xs,r,g,es,i,e,c⟩:=x;exact ⟨z,y,xs,xr.mapP r λ p q z=>⟨z.1,A _ _ z.2.1,z.2.2⟩,g,es,i,k _ _ (.inl rfl) e,c⟩
 | set F n=>obtain ⟨g,es,i,t,e,c⟩:=x;exact ⟨g,es,i,t,k _ _ (.inl rfl) e,c⟩
 | ins C D fs=>
  obtain ⟨d,z,ne,e,j,⟨l,es,i,e2,c⟩,r⟩:=x;exact ⟨s _ d,z,ne,k _ _ (.inl rfl) e,j,⟨l,es,i,k _ _ (.inr d) e2,c⟩,r⟩
 | own y=>obtain ⟨g,e⟩:=x;exact ⟨g,k _ _ (.inl rfl) e⟩
 | xd fs=>obtain ⟨j,⟨l,es,i,e,c⟩,r⟩:=x;exact ⟨j,⟨l,es,i,k _ _ (.inl rfl) e,c⟩,r⟩
 | rng lo hi=>obtain ⟨t,u,v,e⟩:=x;exact ⟨t,u,v,k _ _ (.inl rfl) e⟩
 | frz g u B=>obtain ⟨e,q⟩:=x;exact ⟨k _ _ (.inl rfl) e,B q⟩
 | tbl ps=>
  have e:h.get? a=some { cls:=.none,data:=.fields ps }:=x;show h'.get? a=some { cls:=.none,data:=.fields ps };exact k a _ (.inl rfl) e
 | met f y=>
  have e:h.get? a=some (qO (.ref f) (.ref y)):=x;show h'.get? a=some (qO (.ref f) (.ref y));exact k a _ (.inl rfl) e
 | ext E=>obtain ⟨p,⟨o,e⟩,st⟩:=x;exact ⟨st _ _ p λ o q=>k _ _ (.inl rfl) q,⟨o,k _ _ (.inl rfl) e⟩,st⟩
theorem HOk.lt (x:HOk P w H h)(e:H a=some o):a < h.objs.size:=(x a o e).lt
theorem HOk.fresh (x:HOk P w H h)(e:h.objs.size<=a):H a=none:=by
 cases q:H a with
 | none=>rfl
 | some u=>exact absurd (Y7 (x.lt q) e) (yB _)
theorem HOk.kept (x:HOk P w H h)(k:∀b u,h.get? b=some u->h'.get? b=some u):HOk P w H h':=λ a o e=>
 (x a o e).stay (λ b u _ q=>k b u q) (λ _ q=>q) λ _ _ q=>q
theorem HOk.laid (x:HOk P w H h)(k:∀b u,h.get? b=some u->h'.get? b=some u)(i:h.objs.size<=a)(d:ObjOk P w (upd H a o) h' a o):HOk P w (upd H a o) h':=λ b u e=>by
 have f:=x.fresh i;by_cases g:b=a
 ·subst g;rw [Ar] at e;cases e;exact d
 ·rw [BK g] at e;exact (x b u e).stay (λ c v _ q=>k c v q) (λ c q=>by rw [BK (Bt q f)];exact q) λ c xs q=>by rw [BK (Bt q f)];exact q
end
def Rd (H:Hp)(a:Addr)(u:HO):Prop:=H a=some u\/∃o,H a=some (.frz o u)
theorem Rd.ok {P:Yf}{w:World}{H:Hp}{h:Heap}{a:Addr}{u:HO}(r:Rd H a u)(x:HOk P w H h):ObjOk P w H h a u:=by
 rcases r with r | ⟨o,r⟩
 ·exact x a u r
 ·obtain ⟨_,q⟩:=x a _ r;exact q
def Mut:Option HO->Prop
 | some (.lst _)=>True
 | some (.dK _)=>True
 | some (.dT _)=>True
 | some (.set _ _)=>True
 | some (.ins _ _ _)=>True
 | some (.ext _)=>True
 | _=>False
section
variable {P:Yf}{w:World}{H:Hp}{h h':Heap}{x e:Addr}{o':HO}
theorem HOk.write (ok:HOk P w H h)(f:Mut (H x))(l:e=x\/H e=some (.own x))(k:∀b u,b≠e->h.get? b=some u->h'.get? b=some u)(m:∃u,h'.get? e=some u)
  (n:ObjOk P w (upd H x o') h' x o'):HOk P w (upd H x o') h':=λ b u q=>by
 have d:∀c y,H c=some (.own y)->c≠x:=λ c y r z=>by subst z;rw [r] at f;exact f
 have j:∀c xs,H c=some (.tup xs)->c≠x:=λ c xs r z=>by subst z;rw [r] at f;exact f
 by_cases g:b=x
 ·subst g;rw [Ar] at q;cases q;exact n
 ·rw [BK g] at q;by_cases a:b=e
  ·have o:H b=some (.own x):=by
    rcases l with z | z
    ·exact absurd (a.trans z) g
    ·rw [a];exact z
   rw [q] at o;cases o;obtain ⟨v,hv⟩:=m;exact ⟨v,by rw [a];exact hv⟩
  ·refine (ok b u q).stay (λ c v i r=>k c v ?_ r) (λ c r=>by rw [BK (d c b r)];exact r) λ c xs r=>by rw [BK (j c xs r)];exact r
   rcases i with rfl | i
   ·exact a
   ·rintro rfl
    rcases l with z | z
    ·exact d c b i z
    ·rw [i] at z;cases z;exact g rfl
end
structure Un (fs ex:List Addr)(H H':Hp)(h h':Heap):Prop where
 keep:∀b o,h.get? b=some o->H b=none->b∉fs->b∉ex->h'.get? b=some o
 slot:∀b o,h.get? b=some o->H b=none->b∈fs->b∉ex->∃sl,h'.get? b=some { o with slots:=sl }
 free:∀b o,h.get? b=some o->H b=none->b∉ex->H' b=none
 there:∀b o,h.get? b=some o->b∉ex->∃o',h'.get? b=some o'
 tups:∀b xs,H b=some (.tup xs)->H' b=some (.tup xs)
 frzs:∀b o u,H b=some (.frz o u)->H' b=some (.frz o u)
 tbls:∀b ps,H b=some (.tbl ps)->∃more,H' b=some (.tbl (ps++more))
section
variable {fs fs' ex ex':List Addr}{H H1 H2:Hp}{h h1 h2 h':Heap}{a x e:Addr}{o:HO}
theorem Un.any (u:Un fs ex H H1 h h1){b:Addr}{c:Obj}(q:h.get? b=some c)(n:H b=none)(d:b∉ex):∃g,h1.get? b=some { c with slots:=g }:=by
 by_cases f:b∈fs
 ·exact u.slot b c q n f d
 ·exact ⟨c.slots,u.keep b c q n f d⟩
theorem Un.kept (k:∀b u,h.get? b=some u->h'.get? b=some u):Un fs ex H H h h':=
 ⟨λ b c q _ _ _=>k b c q,λ b c q _ _ _=>⟨c.slots,k b c q⟩,λ _ _ _ n _=>n,λ b c q _=>⟨c,k b c q⟩,λ _ _ q=>q,λ _ _ _ q=>q,λ _ ps q=>⟨#[],by rw [q];simp⟩⟩
theorem Un.refl:Un fs ex H H h h:=Un.kept λ _ _ q=>q
theorem Un.laid (k:∀b u,h.get? b=some u->h'.get? b=some u)(d:h.objs.size<=a)(c:H a=none):Un fs ex H (upd H a o) h h' where
 keep:=λ b u q _ _ _=>k b u q
 slot:=λ b u q _ _ _=>⟨u.slots,k b u q⟩
 free:=λ b u q n _=>by rw [BK (XV (Y7 (ZU q) d))];exact n
 there:=λ b u q _=>⟨u,k b u q⟩
 tups:=λ b xs q=>by rw [BK (Bt q c)];exact q
 frzs:=λ b u xs q=>by rw [BK (Bt q c)];exact q
 tbls:=λ b ps q=>⟨#[],by rw [BK (Bt q c),q];simp⟩
theorem Un.write (c:Mut (H x))(l:e=x\/H e=some (.own x))(k:∀b u,b≠e->h.get? b=some u->h'.get? b=some u)(g:∃u,h'.get? e=some u):Un fs ex H (upd H x o) h h':=by
 have i:∀b,H b=none->b≠x:=λ b n z=>by subst z;rw [n] at c;exact c
 have j:∀b,H b=none->b≠e:=λ b n z=>by
  subst z;rcases l with r | r
  ·exact i b n r
  ·rw [n] at r;cases r
 have f:∀b u,H b=some u->¬ Mut (some u)->b≠x:=λ b u q nm z=>by subst z;rw [q] at c;exact nm c
 refine ⟨λ b u q n _ _=>k b u (j b n) q,λ b u q n _ _=>⟨u.slots,k b u (j b n) q⟩,λ b u q n _=>by rw [BK (i b n)];exact n,λ b u q _=>?_,
  λ b xs q=>by rw [BK (f b _ q λ z=>z)];exact q,λ b u xs q=>by rw [BK (f b _ q λ z=>z)];exact q,λ b ps q=>⟨#[],by rw [BK (f b _ q λ z=>z),q];simp⟩⟩
 by_cases d:b=e
 ·subst d;exact g
 ·exact ⟨u,k b u d q⟩
end
def trk (h:Heap)(H:Hp):List Addr:=(Wc h.objs.size).filter λ a=>(H a).isSome
def hidT (h:Heap)(H:Hp):Heap:=PySem.W.hideAll h (trk h H)
theorem Ad6 (h:Heap)(H:Hp):(hidT h H).objs.size=h.objs.size:=PySem.W.hideAll_size _ _
theorem tH {h:Heap}{H:Hp}{b:Addr}{o:Obj}(e:h.get? b=some o)(n:H b=none):(hidT h H).get? b=some o:=
 PySem.W.hideAll_get _ e λ a=>by
  have q:(H b).isSome=true:=(UN.mp a).2;rw [n] at q;simp at q
theorem yr {h:Heap}{H:Hp}{b:Addr}{o:Obj}(e:(hidT h H).get? b=some o):h.get? b=some o/\H b=none:=by
 have a:h.get? b=some o:=PySem.W.of_hideAll (trk h H) e;refine ⟨a,?_⟩;cases q:H b with
 | none=>rfl
 | some x=>
  have c:b∈trk h H:=UN.mpr ⟨List.mem_range.mpr (ZU a),by simp [q]⟩
  have z:(hidT h H).get? b=none:=PySem.W.hideAll_none (trk h H) c;rw [z] at e;cases e
structure Mod (K:FrG)(mg:Str->Option Value)(base:Heap):Prop where
 kin:K.In base
 glob:base.Ns Zq mg
 blt:∃mb,base.Ns builtinsNs mb/\∀x:Str,x≠"__name__"->mb x=WZ x
 nolimit:base.NoLimit
structure Cx where
 prog:Yf
 w:World
 K:FrG
 mg:Str->Option Value
 base:Heap
 A:WB
 N:List Str
 s₀:W9
 H₀:Hp
 env:Env
 outer:List Env
 stack:List Env
 ex:List Addr
 fn:Str->Bool
 calm:Bool
 pn:List (Addr×Obj)
 xe:Value->W9->Prop
def frs (l:List Env):List Addr:=l.filterMap (·.frame)
abbrev Cx.fs (X:Cx):List Addr:=frs X.outer
def Vis (a:Scope)(x:Str):Prop:=a.names.lookup x=some .local\/a.names.lookup x=some .cell\/a.names.lookup x=some .free
def Loc (a:Scope)(x:Str):Prop:=a.names.lookup x=some .local\/a.names.lookup x=some .cell
def Look (env:Env)(h:Heap)(m:Str->Option Value)(x:Str)(u:Value):Prop:=
 (env.kindOf x=some .local/\m x=some u)\/((env.kindOf x=some .cell\/env.kindOf x=some .free)/\∃c,env.cells.lookup x=some c/\h.IsCell c (some u))
structure Cx.Ok (X:Cx):Prop where
 mod:Mod X.K X.mg X.base
 kind:X.env.scope.kind=.function
 glob:X.env.globals=Zq
 blt:X.env.builtins=builtinsNs
 above:X.s₀.heap.objs.size<=X.env.locals
 inj:∀x y c,X.env.cells.lookup x=some c->X.env.cells.lookup y=some c->x=y
 has:∀x,(X.env.kindOf x=some .cell\/X.env.kindOf x=some .free)->∃c,X.env.cells.lookup x=some c
 cab:∀x c,X.fn x=true->X.env.cells.lookup x=some c->X.s₀.heap.objs.size<=c
 hd:X.calm=true->X.A.handled=none
 frames:X.A.frames=some X.stack
 stk:X.stack=X.outer\/(X.stack=X.env::X.outer/\X.env.frame=some X.env.locals)
 exf:∀b∈X.ex,b≠X.env.locals/\∀x c,X.env.cells.lookup x=some c->c≠b
 bs:∀b o,X.base.get? b=some o->X.s₀.heap.get? b=some o/\X.H₀ b=none
 bsz:X.base.objs.size<=X.s₀.heap.objs.size
 noex:∀b o,X.base.get? b=some o->b∉X.ex
 exfs:∀b∈X.ex,b∉X.fs
 funs:X.s₀.heap.FunFrames X.base X.outer
 frf:∀b∈X.fs,X.H₀ b=none
structure Inv (X:Cx)(pins:List (Addr×Obj))(σ:List (Option V))(H:Hp)(s:W9):Prop where
 ok:X.Ok
 os:s.os=X.s₀.os
 bare:wn s.gens
 base:Un X.fs X.ex X.H₀ H X.s₀.heap s.heap
 loc:∃m,s.heap.Ns X.env.locals m/\∀(i:Nat) (x:Str) (v:V),X.N[i]?=some x->σ[i]?=some (some v)->Vis X.env.scope x->∃u,RelV v u/\Look X.env s.heap m x u
 cell:∀x c,X.env.cells.lookup x=some c->∃v,s.heap.IsCell c v
 free:H X.env.locals=none
 freeC:∀x c,X.env.cells.lookup x=some c->H c=none
 pin:∀p∈X.pn++pins,s.heap.get? p.1=some p.2/\H p.1=none/\p.1≠X.env.locals/\p.1∉X.fs/\∀v,p.2.data≠.cell v
 hok:HOk X.prog X.w H s.heap
 len:σ.length=X.N.length
section
variable {X:Cx}{pins:List (Addr×Obj)}{σ:List (Option V)}{H H':Hp}{s:W9}{h':Heap}
theorem Cx.Ok.nofr (ok:X.Ok){b:Addr}{o:Obj}(e:X.base.get? b=some o):b∉X.fs:=λ a=>by
 have:=(ok.funs.mem a).1;rw [e] at this;cases this
theorem Inv.bs (a:Inv X pins σ H s):∀b o,X.base.get? b=some o->s.heap.get? b=some o/\H b=none:=λ b o e=>
 ⟨a.base.keep b o (a.ok.bs b o e).1 (a.ok.bs b o e).2 (a.ok.nofr e) (a.ok.noex b o e),a.base.free b o (a.ok.bs b o e).1 (a.ok.bs b o e).2 (a.ok.noex b o e)⟩
theorem Inv.bk (a:Inv X pins σ H s):∀b o,X.base.get? b=some o->s.heap.get? b=some o:=λ b o e=>(a.bs b o e).1
theorem Inv.mod (a:Inv X pins σ H s):Mod X.K X.mg X.base:=a.ok.mod
theorem Inv.kIn (a:Inv X pins σ H s):X.K.In s.heap:=a.ok.mod.kin.keeps a.bk
theorem Inv.lt (b:Inv X pins σ H s):X.env.locals < s.heap.objs.size:=let ⟨_,a,_⟩:=b.loc;a.lt
theorem Inv.sz (a:Inv X pins σ H s):X.s₀.heap.objs.size<=s.heap.objs.size:=Zo a.ok.above (XT a.lt)
theorem Inv.nofs (d:Inv X pins σ H s){a:Addr}(h:s.heap.objs.size<=a):a∉X.fs:=λ b=>by
 obtain ⟨_,o,c,_⟩:=d.ok.funs.mem b;exact absurd (Y7 (ZU c) (Zo d.sz h)) (yB _)
theorem Inv.cne (f:Inv X pins σ H s):∀x c,X.env.cells.lookup x=some c->c≠X.env.locals:=λ x c e z=>by
 obtain ⟨v,o,a,hd⟩:=f.cell x c e;obtain ⟨m,⟨g,es,h,b,d,_⟩,_⟩:=f.loc;rw [z,b] at a;cases a;rw [d] at hd;cases hd
theorem Inv.funs (g:Inv X pins σ H s):s.heap.FunFrames X.base X.outer:=by
 have all:∀(l:List Env),(∀b∈frs l,b∈X.fs)->X.s₀.heap.FunFrames X.base l->s.heap.FunFrames X.base l:=by
  intro l
  induction l with
  | nil=>intro _ _;trivial
  | cons env r h=>
   intro f hl;obtain ⟨i,⟨d,o,hf,j,k,hd⟩,m⟩:=hl;have a:d∈X.fs:=f d (by unfold frs;rw [zA,hf];exact U1)
   obtain ⟨n,e⟩:=g.base.slot d o k (g.ok.frf d a) a λ z=>g.ok.exfs d z a
   exact ⟨i,⟨d,_,hf,j,e,hd⟩,h (λ b c=>f b (by unfold frs;rw [zA,hf];exact Y9 _ c)) m⟩
 exact all X.outer (λ _ c=>c) g.ok.funs
theorem Inv.stack (a:Inv X pins σ H s):s.heap.FunFrames X.base X.stack:=by
 rcases a.ok.stk with e | ⟨e,hf⟩
 ·rw [e];exact a.funs
 ·rw [e];obtain ⟨m,b,_⟩:=a.loc;refine .cons (by rw [a.ok.kind];decide) hf b ?_ a.funs
  exact Ni (Zo a.ok.bsz a.ok.above)
theorem Inv.stkSub (c:Inv X pins σ H s):∀b∈frs X.stack,b∈X.env.locals::X.fs:=λ b a=>by
 rcases c.ok.stk with e | ⟨e,hf⟩
 ·rw [e] at a;exact Y9 _ a
 ·rw [e] at a;unfold frs at a;rw [zA,hf] at a;exact a
theorem Inv.stkFree (c:Inv X pins σ H s):∀b∈frs X.stack,H b=none:=λ b a=>by
 rcases X2.mp (c.stkSub b a) with e | a
 ·rw [e];exact c.free
 ·obtain ⟨_,o,d,_⟩:=c.ok.funs.mem a;exact c.base.free b o d (c.ok.frf b a) λ z=>c.ok.exfs b z a
theorem Inv.step {g':Array GenState}{t':Nat}{d':Drawn}{ch:List Addr}(f:Inv X pins σ H s)
  (g:∀b∈ch,(b∈X.ex\/X.s₀.heap.objs.size<=b)/\b≠X.env.locals/\(∀x c,X.env.cells.lookup x=some c->c≠b)/\∀p∈X.pn++pins,p.1≠b)
  (keep:∀b o,b≠X.env.locals->b∉X.fs->b∉ch->s.heap.get? b=some o->H b=none->h'.get? b=some o)
  (slot:∀b o,b≠X.env.locals->b∈X.fs->b∉ch->s.heap.get? b=some o->H b=none->∃D,h'.get? b=some { o with slots:=D }) (free:∀b o,b∉ch->s.heap.get? b=some o->H b=none->H' b=none)
  (there:∀b o,b∉ch->s.heap.get? b=some o->∃B,h'.get? b=some B)
  (tups:∀b xs,H b=some (.tup xs)->H' b=some (.tup xs)) (frzs:∀b o u,H b=some (.frz o u)->H' b=some (.frz o u)) (tbls:∀b ps,H b=some (.tbl ps)->∃more,H' b=some (.tbl (ps++more)))
  (ns:∀m,s.heap.Ns X.env.locals m->h'.Ns X.env.locals m) (hok:HOk X.prog X.w H' h') (J:wn g'):
  Inv X pins σ H' { s with heap:=h',gens:=g',drawn:=d',toks:=t' }:=by
 have C:∀b o,X.s₀.heap.get? b=some o->b≠X.env.locals:=λ b o e=>XV (Y7 (ZU e) f.ok.above)
 have t:∀b o,X.s₀.heap.get? b=some o->b∉X.ex->b∉ch:=λ b o e a j=>by
  rcases (g b j).1 with z | z
  ·exact a z
  ·exact absurd (Y7 (ZU e) z) (yB _)
 have y:∀x c,X.env.cells.lookup x=some c->∀v,s.heap.IsCell c v->h'.IsCell c v:=λ x c e v ⟨o,A,hd⟩=>by
  have h:c∉ch:=λ z=>(g c z).2.2.1 x c e rfl
  by_cases E:c∈X.fs
  ·obtain ⟨D,q⟩:=slot c o (f.cne x c e) E h A (f.freeC x c e);exact ⟨_,q,hd⟩
  ·exact ⟨o,keep c o (f.cne x c e) E h A (f.freeC x c e),hd⟩
 refine ⟨f.ok,f.os,J,⟨λ b o e n j a=>?_,λ b o e n j a=>?_,λ b o e n a=>?_,λ b o e a=>?_,λ b xs e=>tups b xs (f.base.tups b xs e),λ b o xs e=>frzs b o xs (f.base.frzs b o xs e),λ b ps e=>?_⟩,?_,λ x c e=>?_,?_,λ x c e=>?_,λ p F=>?_,hok,f.len⟩
 ·exact keep b o (C b o e) j (t b o e a) (f.base.keep b o e n j a) (f.base.free b o e n a)
 ·obtain ⟨D,e1⟩:=f.base.slot b o e n j a;obtain ⟨G,e2⟩:=slot b _ (C b o e) j (t b o e a) e1 (f.base.free b o e n a);exact ⟨G,e2⟩
 ·obtain ⟨B,e1⟩:=f.base.there b o e a;exact free b B (t b o e a) e1 (f.base.free b o e n a)
 ·obtain ⟨B,e1⟩:=f.base.there b o e a;exact there b B (t b o e a) e1
 ·obtain ⟨K,e1⟩:=f.base.tbls b ps e;obtain ⟨L,e2⟩:=tbls b _ e1;exact ⟨K++L,by rw [e2,Array.append_assoc]⟩
 ·obtain ⟨m,M,hl⟩:=f.loc;refine ⟨m,ns m M,λ i x v e1 e2 N=>?_⟩
  obtain ⟨u,r,l⟩:=hl i x v e1 e2 N;refine ⟨u,r,?_⟩;rcases l with l | ⟨k,c,e,z⟩
  ·exact .inl l
  ·exact .inr ⟨k,c,e,y x c e _ z⟩
 ·obtain ⟨v,z⟩:=f.cell x c e;exact ⟨v,y x c e v z⟩
 ·obtain ⟨m,⟨o,_,_,A,_⟩,_⟩:=f.loc;exact free _ o (λ z=>(g _ z).2.1 rfl) A f.free
 ·obtain ⟨v,o,A,hd⟩:=f.cell x c e;exact free c o (λ z=>(g c z).2.2.1 x c e rfl) A (f.freeC x c e)
 ·obtain ⟨e,n,ne,I,d⟩:=f.pin p F;have h:p.1∉ch:=λ z=>(g p.1 z).2.2.2 p F rfl
  exact ⟨keep p.1 p.2 ne I h e n,free p.1 p.2 h e n,ne,I,d⟩
theorem Inv.un {t':Nat}(h:Inv X pins σ H s)(u:Un X.fs [] H H' s.heap h')(hok:HOk X.prog X.w H' h'):Inv X pins σ H' { s with heap:=h',toks:=t' }:=by
 obtain ⟨m,⟨o,es,l,d,r⟩,_⟩:=id h.loc;obtain ⟨p,i⟩:=u.any d h.free (by simp)
 exact h.step (g':=s.gens) (d':=s.drawn) (ch:=[]) (λ _ z=>nomatch z) (λ b o _ c _ e n=>u.keep b o e n c (by simp)) (λ b o _ c _ e n=>u.slot b o e n c (by simp)) (λ b o _ e n=>u.free b o e n (by simp)) (λ b o _ e=>u.there b o e (by simp)) u.tups u.frzs u.tbls (λ q j=>by
  obtain ⟨t,f,g,a,k⟩:=j;rw [d] at a;cases a;exact ⟨_,f,g,i,k⟩) hok h.bare
theorem Inv.call {g':Array GenState}{t':Nat}{d':Drawn}{ch:List Addr}(k:Inv X pins σ H s)(u:Un (frs X.stack) ch H H' s.heap h')(hok:HOk X.prog X.w H' h')(l:wn g')
  (d:∀b∈ch,(b∈X.ex\/X.s₀.heap.objs.size<=b)/\b≠X.env.locals/\(∀x c,X.env.cells.lookup x=some c->c≠b)/\∀p∈X.pn++pins,p.1≠b):
  Inv X pins σ H' { s with heap:=h',gens:=g',drawn:=d',toks:=t' }:=by
 obtain ⟨m,⟨o,es,y,h,r⟩,_⟩:=id k.loc;obtain ⟨A,g⟩:=u.any h k.free λ z=>(d _ z).2.1 rfl
 exact k.step (ch:=ch) d (λ b o g q a e n=>u.keep b o e n (λ z=>(X2.mp (k.stkSub b z)).elim g q) a) (λ b o _ _ a e n=>u.any e n a) (λ b o a e n=>u.free b o e n a) (λ b o a e=>u.there b o e a) u.tups u.frzs u.tbls (λ B t=>by
  obtain ⟨C,i,j,f,v⟩:=t;rw [h] at f;cases f;exact ⟨_,i,j,g,v⟩) hok l
theorem Inv.turned {t':Nat}{it:Addr}(g:Inv X pins σ H s)(k:∀b o,b≠it->s.heap.get? b=some o->h'.get? b=some o)(h:H it=none)(f:it≠X.env.locals)
  (i:it∈X.ex\/X.s₀.heap.objs.size<=it) (j:∀x c,X.env.cells.lookup x=some c->c≠it) (l:∀p∈X.pn++pins,p.1≠it):Inv X pins σ H { s with heap:=h',toks:=t' }:=by
 have d:∀b u,H b=some u->b≠it:=λ b u e z=>by rw [z,h] at e;cases e
 refine g.step (g':=s.gens) (d':=s.drawn) (ch:=[it]) (λ b t=>?_) (λ b o _ _ a e _=>k b o (λ z=>a (by simp [z])) e) (λ b o _ _ a e _=>⟨o.slots,k b o (λ z=>a (by simp [z])) e⟩) (λ _ _ _ _ n=>n)
  (λ b o a e=>⟨o,k b o (λ z=>a (by simp [z])) e⟩) (λ _ _ e=>e) (λ _ _ _ e=>e) (λ b ps e=>⟨#[],by rw [e];simp⟩) (λ m w=>?_) (λ b u e=>?_) g.bare
 ·have e:b=it:=by simpa using t
  subst e;exact ⟨i,f,j,l⟩
 ·obtain ⟨o,es,y,A,r⟩:=w;exact ⟨o,es,y,k _ o (UX f) A,r⟩
 ·refine (g.hok b u e).stay (λ c v a q=>k c v ?_ q) (λ _ q=>q) λ _ _ q=>q
  rcases a with z | z
  ·rw [z];exact d b u e
  ·exact d c _ z
theorem Inv.tok (a:Inv X pins σ H s)(t:Nat):Inv X pins σ H { s with toks:=t }:=a.un (h':=s.heap) (t':=t) Un.refl a.hok
theorem Inv.kept {t':Nat}(a:Inv X pins σ H s)(k:∀b u,s.heap.get? b=some u->h'.get? b=some u):Inv X pins σ H { s with heap:=h',toks:=t' }:=a.un (Un.kept k) (a.hok.kept k)
theorem Inv.laid {a:Addr}{o:HO}{t':Nat}(e:Inv X pins σ H s)(k:∀b u,s.heap.get? b=some u->h'.get? b=some u)(c:s.heap.objs.size<=a)(d:ObjOk X.prog X.w (upd H a o) h' a o):
  Inv X pins σ (upd H a o) { s with heap:=h',toks:=t' }:=e.un (Un.laid k c (e.hok.fresh c)) (e.hok.laid k c d)
theorem Inv.write {x e:Addr}{o:HO}{t':Nat}(g:Inv X pins σ H s)(c:Mut (H x))(d:e=x\/H e=some (.own x))(k:∀b u,b≠e->s.heap.get? b=some u->h'.get? b=some u)(a:∃u,h'.get? e=some u)
  (f:ObjOk X.prog X.w (upd H x o) h' x o):Inv X pins σ (upd H x o) { s with heap:=h',toks:=t' }:=g.un (Un.write c d k a) (g.hok.write c d k a f)
theorem Inv.pins_of {a:List (Addr×Obj)}(b:Inv X pins σ H s)(h:∀p∈a,s.heap.get? p.1=some p.2/\H p.1=none/\p.1≠X.env.locals/\p.1∉X.fs/\∀v,p.2.data≠.cell v):Inv X a σ H s:=
 ⟨b.ok,b.os,b.bare,b.base,b.loc,b.cell,b.free,b.freeC,λ p c=>(YE.mp c).elim (λ z=>b.pin p (UQ _ z)) (h p),b.hok,b.len⟩
theorem fD {N:List Str}(c:N.Nodup){i j:Nat}{x:Str}(a:N[i]?=some x)(b:N[j]?=some x):i=j:=by
 obtain ⟨d,e1⟩:=Yn.mp a;obtain ⟨e,e2⟩:=Yn.mp b;exact (List.getElem_inj c).mp (e1.trans e2.symm)
theorem AW9 {M:Model}{A:WB}{E:Value->W9->Prop}{i:Nat}{x:Str}{v:V}{u:Value}{Q:Unit->W9->Prop}(f:Inv X pins σ H s)(a5:X.N.Nodup)(hi:X.N[i]?=some x)(t:Loc X.env.scope x)(r:RelV v u)
  (h:∀s',Inv X pins (σ.set i (some v)) H s'->(∃a,ya a s.heap s'.heap/\(a=X.env.locals\/X.env.cells.lookup x=some a))->Q () s') (hf:X.fn x=true\/X.env.scope.names.lookup x=some .local:=by first | exact .inl rfl | exact .inr rfl | assumption):wpAny M A (storeName X.env x u) Q E s:=by
 obtain ⟨m,S,hl⟩:=id f.loc;have T:(X.env.scope.kind == .class || (X.env.scope.kind == .module && X.env.locals != X.env.globals))=false:=by rw [f.ok.kind];rfl
 have I:i < σ.length:=by rw [f.len];exact (Yn.mp hi).1
 have cne:=f.cne;have B:∀{a:Addr} {h':Heap},(∃o,s.heap.get? a=some o/\H a=none)->ya a s.heap h'->HOk X.prog X.w H h':=λ {a h'} a9 g b b0 e=>by
  obtain ⟨_,_,G⟩:=a9;refine (f.hok b b0 e).stay (λ c K l q=>(g.2 c ?_).trans q) (λ _ q=>q) λ _ _ q=>q
  rintro rfl
  rcases l with rfl | l
  ·rw [G] at e;cases e
  ·rw [G] at l;cases l
 rcases t with C | C
 ·refine wpAny_storeName_local C S (λ h' a6 g=>?_) T
  obtain ⟨b1,_,_,a7,_⟩:=id S;refine h _ ⟨f.ok,f.os,f.bare,⟨λ b o e n D t=>?_,λ b o e n D t=>?_,f.base.free,λ b o e t=>?_,f.base.tups,f.base.frzs,f.base.tbls⟩,⟨_,a6,λ j y U e1 e2 W=>?_⟩,λ y c e=>?_,f.free,f.freeC,λ p Y=>?_,B ⟨b1,a7,f.free⟩ g,by simpa using f.len⟩ ⟨_,g,.inl rfl⟩
  ·exact (g.2 b (XV (Y7 (ZU e) f.ok.above))).trans (f.base.keep b o e n D t)
  ·obtain ⟨Z,e1⟩:=f.base.slot b o e n D t;exact ⟨Z,(g.2 b (XV (Y7 (ZU e) f.ok.above))).trans e1⟩
  ·obtain ⟨a0,e1⟩:=f.base.there b o e t;exact ⟨a0,(g.2 b (XV (Y7 (ZU e) f.ok.above))).trans e1⟩
  ·by_cases F:j=i
   ·subst F;rw [hi] at e1;cases e1;rw [Fu I] at e2;cases e2
    exact ⟨u,r,.inl ⟨C,by simp⟩⟩
   ·rw [Nl (UX F)] at e2;obtain ⟨a1,a2,q⟩:=hl j y U e1 e2 W;refine ⟨a1,a2,?_⟩;rcases q with ⟨k,e⟩ | ⟨k,c,e,z⟩
    ·refine .inl ⟨k,?_⟩;have:y≠x:=λ e=>F (fD a5 e1 (e▸hi))
     simp [this,e]
    ·exact .inr ⟨k,c,e,z.sameBut g (cne y c e)⟩
  ·obtain ⟨K,z⟩:=f.cell y c e;exact ⟨K,z.sameBut g (cne y c e)⟩
  ·obtain ⟨e,n,ne,a3,d⟩:=f.pin p Y;exact ⟨(g.2 p.1 ne).trans e,n,ne,a3,d⟩
 ·have J:X.fn x=true:=by
   rcases hf with z | z
   ·exact z
   ·rw [z] at C;cases C
  obtain ⟨c,l⟩:=f.ok.has x (.inl C);obtain ⟨K,z⟩:=f.cell x c l;refine wpAny_storeName_cell f.ok.kind C l z (λ h' O g=>?_)
  obtain ⟨a8,P,a4⟩:=id z;refine h { s with heap:=h' } ⟨f.ok,f.os,f.bare,⟨λ b o e n D t=>?_,λ b o e n D t=>?_,f.base.free,λ b o e t=>?_,f.base.tups,f.base.frzs,f.base.tbls⟩,⟨m,S.sameBut g (UX (cne x c l)),λ j y U e1 e2 W=>?_⟩,λ y L e=>?_,f.free,f.freeC,λ p Y=>?_,B ⟨a8,P,f.freeC x c l⟩ g,by simpa using f.len⟩ ⟨c,g,.inr l⟩
  ·exact (g.2 b (XV (Y7 (ZU e) (f.ok.cab x c J l)))).trans (f.base.keep b o e n D t)
  ·obtain ⟨Z,e1⟩:=f.base.slot b o e n D t;exact ⟨Z,(g.2 b (XV (Y7 (ZU e) (f.ok.cab x c J l)))).trans e1⟩
  ·obtain ⟨a0,e1⟩:=f.base.there b o e t;exact ⟨a0,(g.2 b (XV (Y7 (ZU e) (f.ok.cab x c J l)))).trans e1⟩
  ·by_cases F:j=i
   ·subst F;rw [hi] at e1;cases e1;rw [Fu I] at e2;cases e2
    exact ⟨u,r,.inr ⟨.inl C,c,l,O⟩⟩
   ·rw [Nl (UX F)] at e2;obtain ⟨a1,a2,q⟩:=hl j y U e1 e2 W;refine ⟨a1,a2,?_⟩;rcases q with q | ⟨k,L,e,b2⟩
    ·exact .inl q
    ·refine .inr ⟨k,L,e,b2.sameBut g ?_⟩;rintro rfl
     exact F (fD a5 e1 (f.ok.inj _ _ _ e l▸hi))
  ·by_cases R:L=c
   ·subst R;exact ⟨_,O⟩
   ·obtain ⟨b3,b4⟩:=f.cell y L e;exact ⟨b3,b4.sameBut g R⟩
  ·obtain ⟨e,n,ne,a3,d⟩:=f.pin p Y;refine ⟨(g.2 p.1 ?_).trans e,n,ne,a3,d⟩;intro q;rw [q,P] at e;have b5:a8=p.2:=XM e;exact d K (by rw [<- b5];exact a4)
theorem K7 {M:Model}{A:WB}{E:Value->W9->Prop}{i:Nat}{x:Str}{v:V}{u:Value}{Q:Unit->W9->Prop}(d:Inv X pins σ H s)(a:X.N.Nodup)(hi:X.N[i]?=some x)(b:Loc X.env.scope x)(r:RelV v u)
  (h:∀s',Inv X pins (σ.set i (some v)) H s'->Q () s') (hf:X.fn x=true\/X.env.scope.names.lookup x=some .local:=by first | exact .inl rfl | exact .inr rfl | assumption):wpAny M A (storeName X.env x u) Q E s:=
 AW9 d a hi b r (λ s' c _=>h s' c) hf
theorem Inv.call' {s':W9}{ch:List Addr}(h:Inv X pins σ H s)(d:s'.os=s.os)(u:Un (frs X.stack) ch H H' s.heap s'.heap)(hok:HOk X.prog X.w H' s'.heap)(f:wn s'.gens)
  (a:∀b∈ch,(b∈X.ex\/X.s₀.heap.objs.size<=b)/\b≠X.env.locals/\(∀x c,X.env.cells.lookup x=some c->c≠b)/\∀p∈X.pn++pins,p.1≠b):Inv X pins σ H' s':=by
 obtain ⟨h',g',d',t',g⟩:=s';have e:g=s.os:=d;subst e;exact h.call (g':=g') (t':=t') (d':=d') u hok f a
end
abbrev XK:=Value->Option Addr->Hp->Prop
abbrev St:=List (Option V)
abbrev VK:=V->Hp->Prop
abbrev TE:=St->Hp->VK->Prop
abbrev TT:=St->Hp->(Bool->Hp->Prop)->Prop
abbrev TA:=St->Hp->(List V->Hp->Prop)->Prop
structure Ends where
 nx:St->Hp->Prop
 rt:VK
 bk:St->Hp->Prop:=λ _ _=>False
 ct:St->Hp->Prop:=λ _ _=>False
abbrev TS:=Ends->St->Hp->Prop
def EP (X:Cx)(a:List (Addr×Obj))(c:St)(Q:VK)(u:Value)(s':W9):Prop:=∃v b,Inv X a c b s'/\RelV v u/\Q v b
def TP (X:Cx)(a:List (Addr×Obj))(d:St)(Q:Bool->Hp->Prop)(b:Bool)(s':W9):Prop:=∃c,Inv X a d c s'/\Q b c
def AP (X:Cx)(a:List (Addr×Obj))(c:St)(Q:List V->Hp->Prop)(us:List Value)(s':W9):Prop:=∃vs b,Inv X a c b s'/\Vals vs us/\Q vs b
def SP (X:Cx)(c:List (Addr×Obj))(d:Ends)(f:Flow)(s':W9):Prop:=
 match f with
 | .next=>∃a b,Inv X c a b s'/\d.nx a b
 | .brk=>∃a b,Inv X c a b s'/\d.bk a b
 | .cont=>∃a b,Inv X c a b s'/\d.ct a b
 | .ret u=>∃v a b,Inv X c a b s'/\RelV v u/\d.rt v b
def PE (X:Cx)(e:Expr)(t:TE):Prop:=
 ∀(a:List (Addr×Obj)) (s:W9) (b:St) (H:Hp) (Q:VK),Inv X a b H s->t b H Q->wpAny (model X.prog X.w) X.A (eval e X.env) (EP X a b Q) X.xe s
def PT (X:Cx)(e:Expr)(t:TT):Prop:=
 ∀(a:List (Addr×Obj)) (s:W9) (b:St) (H:Hp) (Q:Bool->Hp->Prop),Inv X a b H s->t b H Q->wpAny (model X.prog X.w) X.A (isTrue e X.env (eval e X.env)) (TP X a b Q) X.xe s
def PW (X:Cx)(e:Expr)(t:TT):Prop:=
 ∀(b:Sem Value) (a:List (Addr×Obj)) (s:W9) (c:St) (H:Hp) (Q:Bool->Hp->Prop),Inv X a c H s->t c H Q->wpAny (model X.prog X.w) X.A (isTrue e X.env b) (TP X a c Q) X.xe s
theorem PW.pt {X:Cx}{e:Expr}{t:TT}(h:PW X e t):PT X e t:=h _
def PA (X:Cx)(es:List Expr)(t:TA):Prop:=
 ∀(pos:Pos) (a:List (Addr×Obj)) (s:W9) (b:St) (H:Hp) (Q:List V->Hp->Prop),Inv X a b H s->t b H Q->wpAny (model X.prog X.w) X.A (spliced (yY pos (XA es X.env))) (AP X a b Q) X.xe s
def PS (X:Cx)(st:Stmt)(t:TS):Prop:=
 ∀(a:List (Addr×Obj)) (s:W9) (b:St) (H:Hp) (c:Ends),Inv X a b H s->t c b H->wpAny (model X.prog X.w) X.A (exec st X.env) (SP X a c) X.xe s
def PSs (X:Cx)(st:List Stmt)(t:TS):Prop:=
 ∀(a:List (Addr×Obj)) (s:W9) (b:St) (H:Hp) (c:Ends),Inv X a b H s->t c b H->wpAny (model X.prog X.w) X.A (execs st X.env) (SP X a c) X.xe s
theorem thn {b:Type}{t:Sem b}{Q c:b->W9->Prop}{M:Model}{A:WB}{E:Value->W9->Prop}{s:W9}(h:wpAny M A t Q E s)(d:∀a s,Q a s->c a s):wpAny M A t c E s:=Jn h d λ _ _ x=>x
section
variable {X:Cx}
inductive tVar (i:Nat)(σ:St)(H:Hp)(Q:VK):Prop | mk:∀v,(σ[i]?=some (some v))->(Q v H)->tVar i σ H Q
def tC (v:V):TE:=λ _ H Q=>Q v H
theorem AP4 {i:Nat}{x:Str}{pos:Pos}(k:X.N[i]?=some x)(hv:Vis X.env.scope x)(hd:(x == ("__debug__":Str))=false:=by decide)(f:(x == ("__classdict__":Str))=false:=by decide):PE X (.Name x pos) (tVar i):=by
 intro d s n H Q g h;obtain ⟨v,e,h⟩:=h;obtain ⟨m,o,hl⟩:=g.loc;obtain ⟨u,r,l⟩:=hl i x v k e hv;have b:EP X d n Q u s:=⟨v,H,g,r,h⟩;rcases l with ⟨a,p⟩ | ⟨a,c,j,hcell⟩
 ·exact wpAny_Name (uk g.ok.kind a o p b) hd
 ·rcases a with a | a
  ·exact wpAny_Name (wpAny_loadName_cell g.ok.kind a j hcell b) hd
  ·exact wpAny_Name (wpAny_loadName_free g.ok.kind a j hcell b f) hd
theorem Ac {i j pos}:PE X (.Constant (.int i) j pos) (tC (.int i)):=λ _ _ _ H _ a h=>wpAny_Constant_int ⟨.int i,H,a.tok _,⟨_,rfl⟩,h⟩
theorem Cu {b j pos}:PE X (.Constant (.bool b) j pos) (tC (.bl b)):=λ _ _ _ H _ a h=>Constant_bool ⟨.bl b,H,a,rfl,h⟩
theorem Fl {j pos}:PE X (.Constant .none j pos) (tC .non):=λ _ _ _ H _ a h=>Constant_none ⟨.non,H,a,rfl,h⟩
theorem Ba {x j pos}:PE X (.Constant (.str x) j pos) (tC (.str x)):=λ _ _ _ H _ a h=>Calls.Constant_str ⟨.str x,H,a.tok _,⟨_,rfl⟩,h⟩
def Gl (X:Cx)(x:Str):Prop:=X.env.kindOf x=some .globalImplicit
theorem M9 {E:Value->W9->Prop}{a:List (Addr×Obj)}{s:W9}{c:St}{H:Hp}{x:Str}{u:Value}{pos:Pos}{Q:Value->W9->Prop}(b:Inv X a c H s)(d:Gl X x)(e:X.mg x=some u)(h:Q u s)
  (hd:(x == ("__debug__":Str))=false:=by decide):wpAny (model X.prog X.w) X.A (eval (.Name x pos) X.env) Q E s:=
 xc b.ok.kind d (GU (by rw [b.ok.glob];exact b.mod.glob.keeps b.bk) e h) hd
theorem Je {E:Value->W9->Prop}{a:List (Addr×Obj)}{s:W9}{c:St}{H:Hp}{x:Str}{u:Value}{pos:Pos}{Q:Value->W9->Prop}(b:Inv X a c H s)(d:Gl X x)(e:X.mg x=none)(hv:WZ x=some u)(h:Q u s)
  (f:x≠"__name__":=by decide) (hd:(x == ("__debug__":Str))=false:=by decide):wpAny (model X.prog X.w) X.A (eval (.Name x pos) X.env) Q E s:=by
 obtain ⟨j,g,i⟩:=b.mod.blt;exact xc b.ok.kind d (Calls.loadGlobal_builtin (by rw [b.ok.glob];exact b.mod.glob.keeps b.bk) e (by rw [b.ok.blt];exact g.keeps b.bk) ((i x f).trans hv) h) hd
theorem Bl {x:Str}{v:V}{u:Value}{pos:Pos}(a:Gl X x)(b:X.mg x=some u)(r:RelV v u)(hd:(x == ("__debug__":Str))=false:=by decide):PE X (.Name x pos) (tC v):=
 λ _ _ _ H _ c h=>M9 c a b ⟨v,H,c,r,h⟩ hd
theorem Fo {x:Str}{v:V}{u:Value}{pos:Pos}(a:Gl X x)(b:X.mg x=none)(hv:WZ x=some u)(r:RelV v u)(c:x≠"__name__":=by decide)(hd:(x == ("__debug__":Str))=false:=by decide):PE X (.Name x pos) (tC v):=
 λ _ _ _ H _ d h=>Je d a b hv ⟨v,H,d,r,h⟩ c hd
variable {a b:Expr}{ta tb:TE}{pos:Pos}
def PC (X:Cx)(g:CmpOp)(a b:Expr)(t:TE):Prop:=
 ∀(c:List (Addr×Obj)) (s:W9) (d:St) (H:Hp) (Q:VK),Inv X c d H s->t d H Q->
  wpAny (model X.prog X.w) X.A (eval a X.env) (λ v e=>wpAny (model X.prog X.w) X.A (eval b X.env) (λ u f=>wpAny (model X.prog X.w) X.A (UU g v u) (EP X c d Q) X.xe f) X.xe e) X.xe s
def tB (t:TE):TT:=λ d H Q=>t d H λ x e=>∃c,x=.bl c/\Q c e
theorem vz {e:CmpOp}{t:TE}(h:PC X e a b t)(f:xv e b=false:=by first | exact nobehind _ (by decide) (by decide) | rfl):PT X (.Compare a [e] [b] pos) (tB t):=by
 intro g s i H Q p j;refine wpAny_isTrue_Compare1 (thn (h g s i H _ p j) λ v r f=>thn f λ u w k=>thn k λ c y ⟨x,l,m,n,o⟩=>?_) f
 obtain ⟨d,rfl,q⟩:=o;cases n
 exact UI ⟨l,m,q⟩
theorem Bk {e:Expr}{t:TE}(h:PE X e t)(g:∀c,isTrue e X.env c=(do let v <- c;standAt e.pos;holding [v] (truthy v)):=by intro _;rfl):PT X e (tB t):=by
 intro f s i H Q o j;refine isTrue_plain (thn (h f s i H _ o j) λ v p ⟨x,k,l,m,n⟩=>?_) (g _)
 obtain ⟨d,rfl,q⟩:=n;cases m
 exact UI ⟨k,l,q⟩
variable {tA tB':TT}{rest:List Expr}
def tAnd (t u:TT):TT:=λ d H Q=>t d H λ c e=>if c=true then u d e Q else Q false e
def tOr (t u:TT):TT:=λ d H Q=>t d H λ c e=>if c=true then Q true e else u d e Q
def tNot (t:TT):TT:=λ d H Q=>t d H λ c e=>Q (!c) e
theorem pw_and1 (f:PT X a tA):PW X (.BoolOp .And [a] pos) tA:=by
 intro i d s g H Q j h;refine isTrue_and (thn (f d s g H Q j h) λ c k e=>?_)
 cases c with
 | true=>exact isTrue_and_nil e
 | false=>exact e
theorem pw_or1 (f:PT X a tA):PW X (.BoolOp .Or [a] pos) tA:=by
 intro i d s g H Q j h;refine isTrue_or (thn (f d s g H Q j h) λ c k e=>?_)
 cases c with
 | false=>exact isTrue_or_nil e
 | true=>exact e
theorem pw_and (j:PT X a tA)(k:PW X (.BoolOp .And (b::rest) pos) tB'):PW X (.BoolOp .And (a::b::rest) pos) (tAnd tA tB'):=by
 intro l d s e H Q n h;refine isTrue_and (thn (j d s e H _ n h) λ c m ⟨f,g,i⟩=>?_)
 cases c with
 | true=>exact k l d m e f Q g i
 | false=>exact ⟨f,g,i⟩
theorem pw_or (j:PT X a tA)(k:PW X (.BoolOp .Or (b::rest) pos) tB'):PW X (.BoolOp .Or (a::b::rest) pos) (tOr tA tB'):=by
 intro l d s e H Q n h;refine isTrue_or (thn (j d s e H _ n h) λ c m ⟨f,g,i⟩=>?_)
 cases c with
 | true=>exact ⟨f,g,i⟩
 | false=>exact k l d m e f Q g i
theorem CQ (e:PT X a tA):PT X (.UnaryOp .Not a pos) (tNot tA):=by
 intro d s f H Q i h;exact isTrue_not (e d s f H (λ c g=>Q (!c) g) i h)
def tAndV (ta tb:TE):TE:=λ d H Q=>ta d H λ x e=>∃c,x=.bl c/\if c=true then tb d e Q else Q (.bl false) e
def tOrV (ta tb:TE):TE:=λ d H Q=>ta d H λ x e=>∃c,x=.bl c/\if c=true then Q (.bl true) e else tb d e Q
def tNotV (ta:TE):TE:=λ d H Q=>ta d H λ x e=>∃c,x=.bl c/\Q (.bl (!c)) e
theorem Ga {op}{t:TE}(h:PE X a t):PE X (.BoolOp op [a] pos) t:=λ c s d H Q f e=>BoolOp_one (h c s d H Q f e)
theorem Gw (j:PE X a ta)(k:PE X (.BoolOp .And (b::rest) pos) tb):PE X (.BoolOp .And (a::b::rest) pos) (tAndV ta tb):=by
 intro d s f H Q n h;refine BoolOp_and (thn (j d s f H _ n h) λ v l ⟨x,g,i,m,e⟩=>?_)
 obtain ⟨c,rfl,e⟩:=e;cases m
 refine UI ?_;cases c with
 | true=>exact k d l f g Q i e
 | false=>exact ⟨.bl false,g,i,rfl,e⟩
theorem aP (j:PE X a ta)(k:PE X (.BoolOp .Or (b::rest) pos) tb):PE X (.BoolOp .Or (a::b::rest) pos) (tOrV ta tb):=by
 intro d s f H Q n h;refine BoolOp_or (thn (j d s f H _ n h) λ v l ⟨x,g,i,m,e⟩=>?_)
 obtain ⟨c,rfl,e⟩:=e;cases m
 refine UI ?_;cases c with
 | false=>exact k d l f g Q i e
 | true=>exact ⟨.bl true,g,i,rfl,e⟩
theorem Jq (f:PE X a ta):PE X (.UnaryOp .Not a pos) (tNotV ta):=by
 intro d s g H Q l h;refine UnaryOp_ (thn (f d s g H _ l h) λ v m ⟨x,i,j,k,e⟩=>?_)
 obtain ⟨c,rfl,e⟩:=e;cases k
 exact not_of (UI ⟨.bl (!c),i,j,rfl,e⟩)
def tIf (t:TT)(ta tb:TE):TE:=λ d H Q=>t d H λ c e=>if c=true then ta d e Q else tb d e Q
theorem G8 {c:Expr}(l:PT X c tA)(m:PE X a ta)(n:PE X b tb):PE X (.IfExp c a b pos) (tIf tA ta tb):=by
 intro e s f H Q o h;refine wpAny_IfExp (thn (l e s f H _ o h) λ d g ⟨i,j,k⟩=>?_)
 cases d with
 | true=>exact m e g f i Q j k
 | false=>exact n e g f i Q j k
end
def SqL (K:FrG)(H:Hp)(a:Addr)(xs:List V):Prop:=
 Rd H a (.lst xs)\/
  ∃(o:Obj) (its:Array Value) (n:Nat),K.lookup a=some o/\o.cls=.type "list"/\o.dict=none/\o.data=.seq its n/\its.size<=Y3/\Vals xs its.toList
def SqT (K:FrG)(H:Hp)(a:Addr)(xs:List V):Prop:=
 Rd H a (.tup xs)\/
  ∃(o:Obj) (its:Array Value) (n:Nat),K.lookup a=some o/\o.cls=.type "tuple"/\o.data=.seq its n/\its.size<=Y3/\Vals xs its.toList
def absV:Value->Option V
 | .none=>some .non
 | .bool b=>some (.bl b)
 | .int i _=>some (.int i)
 | .str x _=>some (.str x)
 | .bytes b _=>some (.byt b)
 | .float b _=>some (.flt b)
 | .ref a=>some (.ref a)
 | .type n=>some (.ty n)
 | _=>none
theorem RelV.abs {x:V}{u:Value}(r:RelV x u):absV u=some x:=by
 cases x with
 | non=>cases r;rfl
 | bl _=>cases r;rfl
 | int _=>obtain ⟨t,rfl⟩:=r;rfl
 | str _=>obtain ⟨t,rfl⟩:=r;rfl
 | byt _=>obtain ⟨t,rfl⟩:=r;rfl
 | flt _=>obtain ⟨t,rfl⟩:=r;rfl
 | ref _=>cases r;rfl
 | ty _=>cases r;rfl
theorem RelV.inj {x y:V}{u:Value}(r:RelV x u)(q:RelV y u):x=y:=XM (r.abs.symm.trans q.abs)
theorem Vals.inj:∀{xs a:List V} {us:List Value},Vals xs us->Vals a us->xs=a
 | _,_,_,.nil,.nil=>rfl
 | _,_,_,.cons r t,.cons b t'=>by rw [r.inj b,Vals.inj t t']
section
variable {X:Cx}{pins:List (Addr×Obj)}{σ:St}{H:Hp}{s:W9}{a:Addr}{xs ys:List V}
theorem SqL.of {K:FrG}(h:H a=some (.lst xs)):SqL K H a xs:=.inl (.inl h)
theorem SqT.of {K:FrG}(h:H a=some (.tup xs)):SqT K H a xs:=.inl (.inl h)
theorem Inv.list (f:Inv X pins σ H s)(h:SqL X.K H a xs):∃its:List Value,Vals xs its/\PlainL s.heap a its.toArray/\xs.length<=Y3:=by
 rcases h with h | ⟨o,its,n,b,c,hd,d,g,r⟩
 ·obtain ⟨z,its,n,r,e⟩:=h.ok f.hok;exact ⟨its,r,⟨_,n,e,rfl,rfl,rfl⟩,z⟩
 ·refine ⟨its.toList,r,⟨o,n,f.kIn a o b,c,hd,by simpa using d⟩,?_⟩
  have e:=r.length;simp only [UF] at e;omega
theorem Inv.tuple (f:Inv X pins σ H s)(h:SqT X.K H a xs):∃its:List Value,Vals xs its/\IsTup s.heap a its.toArray/\xs.length<=Y3:=by
 rcases h with h | ⟨o,its,n,b,c,d,g,r⟩
 ·obtain ⟨z,its,r,p⟩:=h.ok f.hok;exact ⟨its,r,p,z⟩
 ·refine ⟨its.toList,r,⟨o,f.kIn a o b,c,n,by simpa using d⟩,?_⟩
  have e:=r.length;simp only [UF] at e;omega
theorem Inv.list_inj (g:Inv X pins σ H s)(h:SqL X.K H a xs)(h':SqL X.K H a ys):xs=ys:=by
 obtain ⟨its,r,⟨o,n,e,_,_,d⟩,_⟩:=g.list h;obtain ⟨its',c,⟨i,j,b,_,_,d'⟩,_⟩:=g.list h';rw [e] at b;cases b;rw [d] at d'
 injection d' with f _
 have:its=its':=by simpa using congrArg Array.toList f
 subst this;exact r.inj c
theorem Inv.tuple_inj (g:Inv X pins σ H s)(h:SqT X.K H a xs)(h':SqT X.K H a ys):xs=ys:=by
 obtain ⟨its,r,⟨o,e,_,n,d⟩,_⟩:=g.tuple h;obtain ⟨its',c,⟨i,b,_,j,d'⟩,_⟩:=g.tuple h';rw [e] at b;cases b;rw [d] at d'
 injection d' with f _
 have:its=its':=by simpa using congrArg Array.toList f
 subst this;exact r.inj c
end
abbrev Cx.wish (X:Cx)(E:Value->W9->Prop):Cx:={ X with xe:=E }
abbrev Cx.nox (X:Cx):Cx:=X.wish λ _ _=>False
theorem Cx.Ok.wish {X:Cx}(ok:X.Ok)(E:Value->W9->Prop):(X.wish E).Ok:=
 ⟨ok.mod,ok.kind,ok.glob,ok.blt,ok.above,ok.inj,ok.has,ok.cab,ok.hd,ok.frames,ok.stk,ok.exf,ok.bs,ok.bsz,ok.noex,ok.exfs,ok.funs,ok.frf⟩
theorem Cx.Ok.unwish {X:Cx}{E:Value->W9->Prop}(ok:(X.wish E).Ok):X.Ok:=
 ⟨ok.mod,ok.kind,ok.glob,ok.blt,ok.above,ok.inj,ok.has,ok.cab,ok.hd,ok.frames,ok.stk,ok.exf,ok.bs,ok.bsz,ok.noex,ok.exfs,ok.funs,ok.frf⟩
section
variable {X:Cx}{pins:List (Addr×Obj)}{σ:St}{H:Hp}{s:W9}{E:Value->W9->Prop}
theorem Inv.wish (a:Inv X pins σ H s)(E:Value->W9->Prop):Inv (X.wish E) pins σ H s:=⟨a.ok.wish E,a.os,a.bare,a.base,a.loc,a.cell,a.free,a.freeC,a.pin,a.hok,a.len⟩
theorem Inv.unwish (a:Inv (X.wish E) pins σ H s):Inv X pins σ H s:=⟨a.ok.unwish,a.os,a.bare,a.base,a.loc,a.cell,a.free,a.freeC,a.pin,a.hok,a.len⟩
theorem SP.unwish {d:Ends}{f:Flow}{s':W9}(h:SP (X.wish E) pins d f s'):SP X pins d f s':=by
 cases f with
 | next=>obtain ⟨a,b,c,q⟩:=h;exact ⟨a,b,c.unwish,q⟩
 | brk=>obtain ⟨a,b,c,q⟩:=h;exact ⟨a,b,c.unwish,q⟩
 | cont=>obtain ⟨a,b,c,q⟩:=h;exact ⟨a,b,c.unwish,q⟩
 | ret u=>obtain ⟨v,a,b,c,r,q⟩:=h;exact ⟨v,a,b,c.unwish,r,q⟩
theorem PSs.nox {st:List Stmt}{t:TS}(h:PSs X.nox st t):PSs X st t:=λ pins s σ H b c a=>
 Jn (h pins s σ H b (c.wish _) a) (λ _ _ q=>q.unwish) λ _ _ z=>UP z
end
section
variable {X:Cx}{st:Stmt}{rest:List Stmt}{t u:TS}{e:Expr}{te:TE}{pos:Pos}
def tNext:TS:=λ b a H=>b.nx a H
def tSeq (t u:TS):TS:=λ b a H=>t { b with nx:=u b } a H
theorem BR:PSs X [] tNext:=λ _ _ a H _ b h=>uS ⟨a,H,b,h⟩
theorem Ag (c:PS X st t)(d:PSs X rest u):PSs X (st::rest) (tSeq t u):=by
 intro a s g H i m h;refine Fk (thn (c a s g H { i with nx:=u i } m h) λ f j q=>?_)
 cases f with
 | next=>
  obtain ⟨b,k,l,q⟩:=q;exact d a j b k i l q
 | ret v=>exact q
 | brk=>exact q
 | cont=>exact q
theorem Ak (b:PS X st t):PSs X [st] t:=by
 intro a s c H d g h;refine Fk (thn (b a s c H d g h) λ f i q=>?_)
 cases f with
 | next=>exact uS q
 | ret v=>exact q
 | brk=>exact q
 | cont=>exact q
theorem Inv.quiet {a:List (Addr×Obj)}{b:St}{H:Hp}{s:W9}(c:Inv X a b H s):interactive X.env=false:=by simp [interactive,c.ok.kind]
def tDrop (te:TE):TS:=λ c a H=>te a H λ _ b=>c.nx a b
theorem DQ (c:PE X e te)(d:js e none pos.line X.env=pure false:=by rfl):PS X (.Expr e pos) (tDrop te):=by
 intro a s b H m j h;exact wpAny_Expr_any (thn (c a s b H _ j h) λ v k ⟨x,f,g,l,i⟩=>⟨b,f,g,i⟩) j.quiet d
def tRet (te:TE):TS:=λ b a H=>te a H b.rt
theorem Av (c:PE X e te):PS X (.Return (some e) pos) (tRet te):=by
 intro a s b H l j h;exact wpAny_Return_some (thn (c a s b H _ j h) λ v k ⟨x,d,f,g,i⟩=>⟨x,b,d,f,g,i⟩)
def tIfS (c:TT)(t u:TS):TS:=λ f a H=>c a H λ b d=>if b=true then t f a d else u f a d
theorem BP {c:Expr}{a b:List Stmt}{i:TT}(n:PT X c i)(o:PSs X a t)(p:PSs X b u):PS X (.If c a b pos) (tIfS i t u):=by
 intro f s g H q r h;refine wpAny_If (thn (n f s g H _ r h) λ d j ⟨k,l,m⟩=>?_)
 cases d with
 | true=>exact o f j g k q l m
 | false=>exact p f j g k q l m
def tNever:TS:=λ _ _ _=>False
theorem DR:PS X st tNever:=λ _ _ _ _ _ _ h=>h.elim
end
abbrev TG:=V->St->Hp->(St->Hp->Prop)->Prop
abbrev TGs:=List V->St->Hp->(St->Hp->Prop)->Prop
def PG (X:Cx)(a:Expr)(t:TG):Prop:=
 ∀(b:List (Addr×Obj)) (s:W9) (d:St) (H:Hp) (v:V) (u:Value) (Q:St->Hp->Prop),Inv X b d H s->RelV v u->t v d H Q->
  wpAny (model X.prog X.w) X.A (FR a X.env u) (λ _ s'=>∃c e,Inv X b c e s'/\Q c e) X.xe s
def PGs (X:Cx)(e:List Expr)(t:TGs):Prop:=
 ∀(a:List (Addr×Obj)) (s:W9) (c:St) (H:Hp) (vs:List V) (us:List Value) (Q:St->Hp->Prop),Inv X a c H s->Vals vs us->t vs c H Q->
  wpAny (model X.prog X.w) X.A (GS ((zv e X.env).map (·.2)) us) (λ _ s'=>∃b d,Inv X a b d s'/\Q b d) X.xe s
abbrev TSet:=V->V->V->Hp->(Hp->Prop)->Prop
def PSet (X:Cx)(t:TSet):Prop:=
 ∀(a:List (Addr×Obj)) (s:W9) (b:St) (H:Hp) (o i v:V) (c d u:Value) (Q:Hp->Prop),Inv X a b H s->RelV o c->RelV i d->RelV v u->t o i v H Q->
  wpAny (model X.prog X.w) X.A (setItem c d u) (λ _ s'=>∃e,Inv X a b e s'/\Q e) X.xe s
abbrev TIp:=V->V->Hp->VK->Prop
def PIp (X:Cx)(c:NJ)(t:TIp):Prop:=
 ∀(a:List (Addr×Obj)) (s:W9) (b:St) (H:Hp) (x y:V) (v u:Value) (Q:VK),Inv X a b H s->RelV x v->RelV y u->t x y H Q->
  wpAny (model X.prog X.w) X.A (inplaceOp c v u) (EP X a b Q) X.xe s
section
variable {X:Cx}{pos:Pos}
def gName (i:Nat):TG:=λ v a H Q=>Q (a.set i (some v)) H
theorem Bq {i:Nat}{x:Str}(a:X.N.Nodup)(hi:X.N[i]?=some x:=by rfl)(b:Loc X.env.scope x:=by first | exact Or.inl rfl | exact Or.inr rfl)(hf:X.fn x=true\/X.env.scope.names.lookup x=some .local:=by first | exact .inl rfl | exact .inr rfl | assumption):PG X (.Name x pos) (gName i):=by
 intro c s e H v u Q f r h;exact wpAny_assign_Name (K7 f a hi b r (λ s' d=>⟨_,H,d,h⟩) hf)
def gNil:TGs:=λ vs a H Q=>vs=[]/\Q a H
def gCons (t:TG)(u:TGs):TGs:=λ vs b H Q=>∃v r,vs=v::r/\t v b H λ a c=>u r a c Q
theorem Gp:PGs X [] gNil:=by
 intro a s b H vs us Q c r h;obtain ⟨e,h⟩:=h;subst e;cases r
 exact assignInOrder_nil ⟨b,H,c,h⟩
theorem Du {e:Expr}{es:List Expr}{t:TG}{u:TGs}(c:PG X e t)(d:PGs X es u)
  (f:(zv (e::es) X.env).map (·.2)=FR e X.env::(zv es X.env).map (·.2):=by rfl):PGs X (e::es) (gCons t u):=by
 intro a s g H vs us Q n r h;obtain ⟨v,o,e1,h⟩:=h;subst e1;cases r with
 | cons r i=>
  rw [f];refine qv (thn (c a s g H _ _ _ n r h) λ _ j ⟨b,k,l,m⟩=>?_)
  exact d a j b k _ _ Q l i m
inductive gTup (K:FrG)(n:Nat)(t:TGs)(v:V)(σ:St)(H:Hp)(Q:St->Hp->Prop):Prop | mk:∀a xs,(v=.ref a)->(SqT K H a xs)->(xs.length=n)->(t xs σ H Q)->gTup K n t v σ H Q
theorem K4 {es:List Expr}{k:Nat}{t:TGs}{n:Nat}(j:X.calm=true)(h:PGs X es t)
  (l:(zv es X.env).length=n:=by rfl) (f:(zv es X.env).findIdx? (·.1)=none:=by rfl):PG X (.Tuple es k pos) (gTup X.K n t):=by
 intro c s g H v u Q m r d;obtain ⟨a,xs,e1,p,hl,d⟩:=d;subst e1;cases r
 obtain ⟨its,i,q,y⟩:=m.tuple p;refine assign_Tuple_tuple (m.ok.hd j) q (by simp [l,<- hl,i.length]) f λ h' w=>?_
 have x:Inv X c g H { s with heap:=h' }:=m.kept (t':=s.toks) λ b o e=>w b o (XV (ZU e)) e
 exact h c _ g H xs _ Q x (by simpa using i) d
def gSub (b c:TE)(t:TSet):TG:=λ v a H Q=>b a H λ o d=>c a d λ i e=>t o i v e λ f=>Q a f
theorem JG {o i:Expr}{e f:TE}{t:TSet}(g:PE X o e)(hi:PE X i f)(j:PSet X t)
  (k:∀v,FR (.Subscript o i pos) X.env v=(do
   let b <- holding [v] (eval o X.env)
   let c <- holding [v,b] (eval i X.env)
   standAt pos
   holding [v,b,c] (setItem b c v)
   release [v,b,c] []):=by intro _;rfl):PG X (.Subscript o i pos) (gSub e f t):=by
 intro a s d H v u Q G r h;rw [k];refine ZA (QL (thn (g a s d H _ G h) λ b l ⟨x,m,n,p,q⟩=>?_))
 refine ZA (QL (thn (hi a l d m _ n q) λ c w ⟨y,z,A,B,C⟩=>?_))
 refine ZA (wW (ZA (QL (thn (j a w d z x y v b c u _ A p B r C) λ _ I ⟨D,E,F⟩=>?_))))
 exact wpAny_release ⟨d,D,E,F⟩
def tAsg (b:TE)(d:TG):TS:=λ e a H=>b a H λ x c=>d x a c e.nx
theorem Gz {tg e:Expr}{b:TE}{p:TG}(d:PE X e b)(f:PG X tg p)(g:swapsWithSole [tg] e pos.line X.env=pure false:=by rfl)(i:swappedStores [tg] e X.env=pure none:=by rfl)
  (j:(zv [tg] X.env).map (·.2)=[FR tg X.env]:=by rfl):PS X (.Assign [tg] e pos) (tAsg b p):=by
 intro a s c H u r h;refine wpAny_Assign_stores (thn (d a s c H _ r h) λ v k ⟨x,l,m,n,o⟩=>?_) g i
 rw [j];exact thn (f a k c l x v _ m n o) λ _ t q=>q
theorem Ax {i:Nat}{x:Str}{e:Expr}{c:TE}{a:Pos}(d:X.N.Nodup)(f:PE X e c)(hi:X.N[i]?=some x:=by rfl)(g:Loc X.env.scope x:=by first | exact Or.inl rfl | exact Or.inr rfl)(j:js e (some (.Name x a)) pos.line X.env=pure false:=by rfl)(hf:X.fn x=true\/X.env.scope.names.lookup x=some .local:=by first | exact .inl rfl | exact .inr rfl | assumption):
  PS X (.Assign [.Name x a] e pos) (tAsg c (gName i)):=by
 intro b s k H u q h;refine wpAny_Assign_Name (thn (f b s k H _ q h) λ v r ⟨y,l,m,n,o⟩=>?_) j
 exact K7 m d hi g n (λ t p=>⟨_,l,p,o⟩) hf
def tPar (i j:Nat)(b:TA):TS:=λ d a H=>b a H λ vs c=>∃v w,vs=[v,w]/\d.nx ((a.set i (some v)).set j (some w)) c
theorem dq {i j:Nat}{x y:Str}{a b:Expr}{n:TA}{k l pt:Pos}{kt k2 pt2}(G:X.calm=true)(r:X.N.Nodup)(hi:X.N[i]?=some x)(I:X.N[j]?=some y)(t:i≠j)
  (u:X.env.scope.names.lookup x=some .local) (z:X.env.scope.names.lookup y=some .local) (J:PA X [a,b] n)
  (K:swappedStores [.Tuple [.Name x k,.Name y l] kt pt] (.Tuple [a,b] k2 pt2) X.env=pure (some [x,y]))
  (L:swapsWithSole [.Tuple [.Name x k,.Name y l] kt pt] (.Tuple [a,b] k2 pt2) pos.line X.env=pure false:=by rfl):
  PS X (.Assign [.Tuple [.Name x k,.Name y l] kt pt] (.Tuple [a,b] k2 pt2) pos) (tPar i j n):=by
 intro g s B H Z V h;rw [exec_Assign_arm];refine ZA (wW ?_);rw [L];refine ZA (Yq ?_);rw [if_neg (by decide)]
 refine ZA (Tuple_ (thn (J _ g s B H _ V h) λ us c ⟨vs,C,M,O,m⟩=>?_))
 obtain ⟨v,w,e1,m⟩:=m;subst e1;obtain ⟨d,f,rfl,P,D⟩:∃d f,us=[d,f]/\RelV v d/\RelV w f:=by
  cases O with
  | cons p q=>
   cases q with
   | cons Q R=>
    cases R
    exact ⟨_,_,rfl,p,Q⟩
 refine zk ?_ (by show 2<=Y3;decide)
 have S:Inv X g B C { c with heap:=c.heap.push { cls:=.type "tuple",data:=.seq [d,f].toArray } }:=M.kept (t':=c.toks) λ b o e=>ZE _ e
 rw [K];refine ZA (Yq ?_);show wpAny (model X.prog X.w) X.A (do rule "assign.swapped-stores";let items <- unpackItems (.ref c.heap.objs.size) 2 none;GS [λ v=>bindName X.env y v,λ v=>bindName X.env x v] items.reverse;pure Flow.next) _ _ _
 refine ZA (wpAny_rule (ZA (unpackItems_tuple (items:=#[d,f]) (V.ok.hd G) (IsTup.new c.heap _) λ h' E=>?_)))
 have T:=S.kept (h':=h') (t':=c.toks) λ b o e=>E b o (XV (ZU e)) e
 show wpAny _ _ (GS [λ v=>bindName X.env y v,λ v=>bindName X.env x v] [f,d] >>= λ _=>pure Flow.next) _ _ _
 refine ZA (qv (wpAny_bindName (K7 T r I (.inl z) D (λ W U=>?_) (.inr z))))
 refine qv (wpAny_bindName (K7 U r hi (.inl u) P (λ Y F=>assignInOrder_nil (Yq ?_)) (.inr u)))
 rw [List.set_comm _ _ (UX t)] at F;exact ⟨_,C,F,m⟩
def tAug (i:Nat)(b:TE)(c:TIp):TS:=λ f a H=>∃x,a[i]?=some (some x)/\b a H λ y d=>c x y d λ z e=>f.nx (a.set i (some z)) e
theorem AR5 {i:Nat}{x:Str}{e:Expr}{o:TE}{d:NJ}{p:TIp}{f:Pos}(C:X.N.Nodup)(hi:X.N[i]?=some x)(g:Loc X.env.scope x)(D:PE X e o)(E:PIp X d p)(hf:X.fn x=true\/X.env.scope.names.lookup x=some .local:=by first | exact .inl rfl | exact .inr rfl | assumption):
  PS X (.AugAssign (.Name x f) d e pos) (tAug i o p):=by
 intro b s q H U B h;obtain ⟨v,e1,h⟩:=h;obtain ⟨m,F,hl⟩:=B.loc;have t:Vis X.env.scope x:=by rcases g with k | k;exact .inl k;exact .inr (.inl k)
 obtain ⟨u,r,l⟩:=hl i x v hi e1 t;refine wpAny_AugAssign_Name ?_;have go:wpAny (model X.prog X.w) X.A (eval e X.env) (λ w j=>wpAny (model X.prog X.w) X.A (inplaceOp d u w) (λ r n=>wpAny (model X.prog X.w) X.A (storeName X.env x r) (λ _=>SP X b U .next) X.xe n) X.xe j) X.xe s:=by
  refine thn (D b s q H _ B h) λ w G ⟨y,I,J,K,L⟩=>?_
  refine thn (E b G q I v y u w _ J r K L) λ z V ⟨W,M,O,P,Q⟩=>?_
  exact K7 O C hi g P (λ Y R=>⟨_,M,R,Q⟩) hf
 rcases l with ⟨a,S⟩ | ⟨a,c,T,hcell⟩
 ·exact uk B.ok.kind a F S go
 ·rcases a with a | a
  ·exact wpAny_loadName_cell B.ok.kind a T hcell go
  ·rcases g with k | k
   ·have:X.env.scope.names.lookup x=some .free:=a;rw [k] at this;cases this
   ·have:X.env.scope.names.lookup x=some .free:=a;rw [k] at this;cases this
def ipI (f:Int->Int->Int):TIp:=λ x y H Q=>∃i j,x=.int i/\y=.int j/\Q (.int (f i j)) H
theorem zc:PIp X .Add (ipI λ i j=>i+j):=by
 intro a s d H x y v u Q e b c h;obtain ⟨i,j,e1,e2,q⟩:=h;subst e1;subst e2;obtain ⟨t,rfl⟩:=b;obtain ⟨t',rfl⟩:=c;exact iadd_int ⟨.int _,H,e.tok _,⟨_,rfl⟩,q⟩
end
section
variable {X:Cx}{pos:Pos}
def tWhile (c:TT)(tb:TS):TS:=λ h a H=>∃i:Nat->St->Hp->Prop,(∃m,i m a H)/\∀m a H,i m a H->
 c a H λ b e=>if b=true then ∃N:St->Hp->Prop,(∀d f,N d f->∃g,g < m/\i g d f)/\tb { h with nx:=N,ct:=N,bk:=h.nx } a e else h.nx a e
theorem Mm {c:Expr}{g:List Stmt}{t:TT}{tb:TS}(u:WC (model X.prog X.w) X.A X.env X.xe)(D:PT X c t)(E:PSs X g tb):PS X (.While c g [] pos) (tWhile t tb):=by
 intro d s F H R O h;obtain ⟨P,⟨G,I⟩,turn⟩:=h;refine wpAny_While (codeAny_whileLoop (λ n s'=>∃l x,Inv X d l x s'/\P n l x) ?_ G ⟨F,H,O,I⟩)
 rintro n J ⟨e,y,K,L⟩
 refine zd u (thn (D d J e y _ K (turn n e y L)) λ b M ⟨z,B,j⟩=>?_)
 cases b with
 | true=>
  obtain ⟨N,C,j⟩:=j;rw [if_pos rfl];refine zd u (thn (E d M e z _ B j) λ f Q k=>?_)
  cases f with
  | next=>
   obtain ⟨a,i,m,o⟩:=k;obtain ⟨p,q,r⟩:=C a i o;exact ⟨p,q,a,i,m,r⟩
  | cont=>
   obtain ⟨a,i,m,o⟩:=k;obtain ⟨p,q,r⟩:=C a i o;exact ⟨p,q,a,i,m,r⟩
  | brk=>exact k
  | ret v=>exact k
 | false=>
  rw [if_neg ZH];exact uS ⟨e,z,B,j⟩
end
structure It where
 go:Nat->Hp->Prop
 yld:Nat->Hp->V->Hp->Prop
 stop:Nat->Hp->Prop
def FpOk (X:Cx)(a:List (Addr×Obj))(H:Hp)(b:Addr):Prop:=
 H b=none/\b≠X.env.locals/\b∉X.fs/\(b∈X.ex\/X.s₀.heap.objs.size<=b)/\(∀x c,X.env.cells.lookup x=some c->c≠b)/\∀p∈X.pn++a,p.1≠b
theorem Inv.fpOk {X:Cx}{a:List (Addr×Obj)}{h:St}{H f:Hp}{s:W9}{b:Addr}(g:Inv X a h H s)(d:s.heap.objs.size<=b)(i:f b=none):FpOk X a f b:=by
 refine ⟨i,MD (Y7 g.lt d),g.nofs d,.inr (Zo g.sz d),λ x c e z=>?_,λ p j z=>?_⟩
 ·obtain ⟨v,q⟩:=g.cell x c e;exact absurd (Y7 q.lt (by rw [z];exact d)) (yB _)
 ·exact absurd (Y7 (ZU (g.pin p j).1) (by rw [z];exact d)) (yB _)
structure Turn (P:Yf)(w:World)(K:FrG)(tg:Expr)(J:It)(fp:List Addr)(it:Addr)(tn:Nat->Heap->Prop):Prop where
 mem:it∈fp
 obj:∀i h,tn i h->∀b∈fp,∃o,h.get? b=some o/\∀v,o.data≠.cell v
 keep:∀i h h',tn i h->(∀b∈fp,∀o,h.get? b=some o->h'.get? b=some o)->tn i h'
 item:∀(X:Cx),X.prog=P->X.w=w->X.K=K->X.calm=true->∀(i:Nat) (pins:List (Addr×Obj)) (s:W9) (σ:St) (H:Hp) (E:Value->W9->Prop),Inv X pins σ H s->(∀b∈fp,FpOk X pins H b)->tn i s.heap->J.go i H->
  wpAny (model P w) X.A (pyNext (.ref it)) (λ r s1=>∃u,r=some u/\
   wpAny (model P w) X.A (xy tg (.ref it) u) (λ _ s2=>∃x H',Inv X pins σ H' s2/\RelV x u/\J.yld i H x H'/\tn (i+1) s2.heap/\∀b∈fp,H' b=none) E s1) E s
 done:∀(X:Cx),X.prog=P->X.w=w->X.K=K->X.calm=true->∀(i:Nat) (pins:List (Addr×Obj)) (s:W9) (σ:St) (H:Hp) (E:Value->W9->Prop),Inv X pins σ H s->(∀b∈fp,FpOk X pins H b)->tn i s.heap->J.stop i H->
  wpAny (model P w) X.A (pyNext (.ref it)) (λ r s1=>r=none/\Inv X pins σ H s1) E s
 self:∀(A:WB) (i:Nat) (s:W9) (Q:Value->W9->Prop) (E:Value->W9->Prop),tn i s.heap->Q (.ref it) s->wpAny (model P w) A (pyIter (.ref it)) Q E s
abbrev TI:=St->Hp->(It->Hp->Prop)->Prop
def PIE (X:Cx)(a:List (Addr×Obj))(h:St)(tg:Expr)(j:It->Hp->Prop)(d:Value)(e:W9):Prop:=
 ∃(it:Addr) (f:List Addr) (g:Nat->Heap->Prop) (i:It) (c:Hp),d=.ref it/\Inv X a h c e/\Turn X.prog X.w X.K tg i f it g/\g 0 e.heap/\(∀b∈f,FpOk X a c b)/\j i c
def PI (X:Cx)(tg iter:Expr)(c:TI):Prop:=
 ∀(a:List (Addr×Obj)) (s:W9) (b:St) (H:Hp) (e:It->Hp->Prop),Inv X a b H s->c b H e->
  wpAny (model X.prog X.w) X.A (eval iter X.env) (λ v d=>wpAny (model X.prog X.w) X.A (pyIter v) (PIE X a b tg e) X.xe d) X.xe s
theorem Nq {M:Model}{A:WB}{E:Value->W9->Prop}{s:W9}{tg:Expr}{it:Addr}{u:Value}{o:Obj}{n:String}{vs:Array Value}{Q:Unit->W9->Prop}(b:s.heap.get? it=some o)(c:o.cls=.type n)(hd:o.data=.fields vs)
  (d:["enumerate","zip","dict_itemiterator","dict_reverseitemiterator","odict_iterator","itertools.zip_longest","itertools.pairwise"].contains n=false) (a:Q () s):wpAny M A (xy tg (.ref it) u) Q E s:=by
 unfold xy;cases tg<;>first
  | exact Yq a
  | (cases u<;>first
    | exact Yq a
    | (refine ZA (wpAny_load b ?_);rw [c,hd];show wpAny M A (if (["enumerate","zip","dict_itemiterator","dict_reverseitemiterator","odict_iterator","itertools.zip_longest","itertools.pairwise"].contains n && vs[0]? == some (rawInt _))=true then _ else _) Q E s;rw [if_neg (by intro h;rw [d,wc] at h;cases h)];exact Yq a))
def Itl (K:FrG)(a:Addr):It:=
 ⟨λ i H=>∃xs x,SqL K H a xs/\xs[i]?=some x,λ i H x b=>b=H/\∀xs,SqL K H a xs->xs[i]?=some x,λ i H=>∃xs,SqL K H a xs/\xs.length<=i⟩
def Itt (K:FrG)(a:Addr):It:=
 ⟨λ i H=>∃xs x,SqT K H a xs/\xs[i]?=some x,λ i H x b=>b=H/\∀xs,SqT K H a xs->xs[i]?=some x,λ i H=>∃xs,SqT K H a xs/\xs.length<=i⟩
def Itr (lo:Int)(n:Nat):It:=⟨λ i _=>i < n,λ i H x a=>a=H/\x=.int (lo+i),λ i _=>n<=i⟩
theorem rO {P:Yf}{w:World}{K:FrG}{tg:Expr}(a it:Addr):Turn P w K tg (Itl K a) [it] it (λ i h=>h.IsListIter it a i) where
 mem:=by simp
 obj:=λ i h st b f=>by
  have e:b=it:=by simpa using f
  subst e;obtain ⟨o,e,c,d⟩:=st;exact ⟨o,e,λ v z=>by rw [d] at z;cases z⟩
 keep:=λ i h h' st k=>st.at λ o e=>k it (by simp) o e
 item:=by
  intro X m n q I i g s J H E r hf st t;subst m n q;obtain ⟨xs,x,j,y⟩:=t;obtain ⟨its,A,p,L⟩:=r.list j;obtain ⟨u,M,N⟩:=A.get y;obtain ⟨B,C,O,D,F,G⟩:=hf it (by simp)
  refine wpAny_pyNext_list_item st p.isList (x:=u) (by simpa using M) λ h' l Q=>?_
  have R:Inv X g J H { s with heap:=h' }:=r.turned (t':=s.toks) (λ b o f e=>(Q.2 b f).trans e) B C D F G
  obtain ⟨o,e,c,d⟩:=id l;exact ⟨u,rfl,Nq (s:={ s with heap:=h' }) e c d (by decide) ⟨x,H,R,N,⟨rfl,λ U S=>by rw [r.list_inj S j];exact y⟩,l,λ b f=>(hf b f).1⟩⟩
 done:=by
  intro X m n q I i g s J H E r hf st t;subst m n q;obtain ⟨xs,j,y⟩:=t;obtain ⟨its,A,p,L⟩:=r.list j;obtain ⟨B,C,O,D,F,G⟩:=hf it (by simp)
  have hl:=A.length;exact wpAny_pyNext_list_end (r.ok.hd I) st p.isList (by simp;omega) λ h' T=>⟨rfl,r.turned (t':=s.toks) (λ b o f e=>T b o f e) B C D F G⟩
 self:=λ _ _ _ _ _ st h=>wpAny_pyIter_listiter st h
theorem AK9 {P:Yf}{w:World}{K:FrG}{tg:Expr}(a it:Addr):Turn P w K tg (Itt K a) [it] it (λ i h=>h.IsTupleIter it a i) where
 mem:=by simp
 obj:=λ i h st b f=>by
  have e:b=it:=by simpa using f
  subst e;obtain ⟨o,e,c,d⟩:=st;exact ⟨o,e,λ v z=>by rw [d] at z;cases z⟩
 keep:=λ i h h' st k=>st.at λ o e=>k it (by simp) o e
 item:=by
  intro X m n q I i g s J H E r hf st t;subst m n q;obtain ⟨xs,x,j,y⟩:=t;obtain ⟨its,A,p,L⟩:=r.tuple j;obtain ⟨u,M,N⟩:=A.get y;obtain ⟨B,C,O,D,F,G⟩:=hf it (by simp)
  refine wpAny_pyNext_tuple_item st (show s.heap.IsTuple a its.toArray from p) (x:=u) (by simpa using M) λ h' l Q=>?_
  have R:Inv X g J H { s with heap:=h' }:=r.turned (t':=s.toks) (λ b o f e=>(Q.2 b f).trans e) B C D F G
  obtain ⟨o,e,c,d⟩:=id l;exact ⟨u,rfl,Nq (s:={ s with heap:=h' }) e c d (by decide) ⟨x,H,R,N,⟨rfl,λ U S=>by rw [r.tuple_inj S j];exact y⟩,l,λ b f=>(hf b f).1⟩⟩
 done:=by
  intro X m n q I i g s J H E r hf st t;subst m n q;obtain ⟨xs,j,y⟩:=t;obtain ⟨its,A,p,L⟩:=r.tuple j;obtain ⟨B,C,O,D,F,G⟩:=hf it (by simp)
  have hl:=A.length;exact wpAny_pyNext_tuple_end (r.ok.hd I) st (show s.heap.IsTuple a its.toArray from p) (by simp;omega) λ h' T=>⟨rfl,r.turned (t':=s.toks) (λ b o f e=>T b o f e) B C D F G⟩
 self:=λ _ _ _ _ _ st h=>wpAny_pyIter_tupleiter st h
theorem vf {P:Yf}{w:World}{K:FrG}{tg:Expr}(it:Addr)(lo:Int)(n:Nat):Turn P w K tg (Itr lo n) [it] it (λ i h=>NK h it (lo+(i:Nat) * 1) ((n:Int) - (i:Nat)) 1) where
 mem:=by simp
 obj:=λ i h st b a=>by
  have e:b=it:=by simpa using a
  subst e;exact ⟨_,st,λ v z=>by
   have B:Data.fields _=Data.cell v:=z;cases B⟩
 keep:=λ i h h' st k=>k it (by simp) _ st
 item:=by
  intro X f g j l i c s y H E A hf st m;subst f g j;obtain ⟨p,q,C,r,u,x⟩:=hf it (by simp)
  have I:=Walks.range (prog:=X.prog) (w:=X.w) (A.ok.hd l) it lo 1 n;refine I.item i s _ _ m st λ v h' tk hv d D=>?_
  obtain ⟨t,rfl⟩:=hv;have F:Inv X c y H { s with heap:=h',toks:=tk }:=A.turned (λ b o a e=>D b o (by simpa using a) e) p q r u x
  refine ⟨_,rfl,Nq (s:={ s with heap:=h',toks:=tk }) (n:="range_iterator") d rfl rfl (by decide) ⟨.int (lo+i),H,F,⟨t,?_⟩,⟨rfl,rfl⟩,d,λ b a=>(hf b a).1⟩⟩
  rw [Int.mul_one]
 done:=by
  intro X f g j l i c s y H E A hf st m;subst f g j;obtain ⟨p,q,C,r,u,x⟩:=hf it (by simp)
  exact wpAny_pyNext_range_end (A.ok.hd l) st (by have:n<=i:=m;omega) λ h' G=>⟨rfl,A.turned (t':=s.toks) (λ b o a e=>G b o a e) p q r u x⟩
 self:=λ _ _ _ _ _ st h=>wpAny_pyIter_rangeiter st h
section
variable {X:Cx}{tg:Expr}
def iList (K:FrG)(c:TE):TI:=λ d H e=>c d H λ x b=>∃a,x=.ref a/\(∃xs,SqL K b a xs)/\e (Itl K a) b
def iTup (K:FrG)(c:TE):TI:=λ d H e=>c d H λ x b=>∃a,x=.ref a/\(∃xs,SqT K b a xs)/\e (Itt K a) b
theorem Dc {l:Expr}{g:TE}(hl:PE X l g):PI X tg l (iList X.K g):=by
 intro f s i H y t h;refine thn (hl f s i H _ t h) λ v c ⟨x,j,d,k,m⟩=>?_
 obtain ⟨a,e,⟨xs,n⟩,q⟩:=m;subst e;cases k
 obtain ⟨its,u,p,w⟩:=d.list n;refine GG p.isList ?_;refine ⟨c.heap.objs.size,[c.heap.objs.size],_,_,j,rfl,d.kept (t':=c.toks) λ b o e=>ZE _ e,rO a _,⟨_,XU _ rfl,rfl,rfl⟩,λ b r=>?_,q⟩
 have e:b=c.heap.objs.size:=by simpa using r
 subst e;exact d.fpOk (ZK _) (d.hok.fresh (ZK _))
theorem Qx {l:Expr}{g:TE}(hl:PE X l g):PI X tg l (iTup X.K g):=by
 intro f s i H y t h;refine thn (hl f s i H _ t h) λ v c ⟨x,j,d,k,m⟩=>?_
 obtain ⟨a,e,⟨xs,n⟩,q⟩:=m;subst e;cases k
 obtain ⟨its,u,p,w⟩:=d.tuple n;refine wpAny_pyIter_tuple (show c.heap.IsTuple a its.toArray from p) ?_
 refine ⟨c.heap.objs.size,[c.heap.objs.size],_,_,j,rfl,d.kept (t':=c.toks) λ b o e=>ZE _ e,AK9 a _,⟨_,XU _ rfl,rfl,rfl⟩,λ b r=>?_,q⟩
 have e:b=c.heap.objs.size:=by simpa using r
 subst e;exact d.fpOk (ZK _) (d.hok.fresh (ZK _))
theorem yJ {a:List (Addr×Obj)}{c:St}{H:Hp}{s:W9}{k:It->Hp->Prop}{E:Value->W9->Prop}{lo hi:Int}{t u v:Tok}{tk:Nat}(l:Inv X a c H s)(f:-(2 ^ 62)<=lo)(g:lo < 2 ^ 62)(h:-(2 ^ 62)<=hi)(i:hi < 2 ^ 62)
  (q:k (Itr lo (hi - lo).toNat) H):wpAny (model X.prog X.w) X.A (pyIter (.ref s.heap.objs.size)) (PIE X a c tg k) E { s with heap:=s.heap.push { cls:=.type "range",data:=.fields #[.int lo t,.int hi u,.int 1 v] },toks:=tk }:=by
 refine wpAny_pyIter_range (IsRange.new ..) (small_one f g h i) ?_;have d:Inv X a c H { s with heap:=s.heap.push { cls:=.type "range",data:=.fields #[.int lo t,.int hi u,.int 1 v] },toks:=tk }:=l.kept λ b o e=>ZE _ e
 refine ⟨(s.heap.push { cls:=.type "range",data:=.fields #[.int lo t,.int hi u,.int 1 v] }).objs.size,[(s.heap.push { cls:=.type "range",data:=.fields #[.int lo t,.int hi u,.int 1 v] }).objs.size],_,_,H,rfl,
  d.kept (t':=tk) λ b o e=>ZE _ e,vf _ lo (hi - lo).toNat,?_,λ b j=>?_,q⟩
 ·have e1:lo+((0:Nat):Int) * 1=lo:=by simp
  have e2:(((hi - lo).toNat:Nat):Int) - ((0:Nat):Int)=zQ lo hi 1:=by rw [rangeSize_one];split<;>omega
  show NK _ _ (lo+((0:Nat):Int) * 1) ((((hi - lo).toNat:Nat):Int) - ((0:Nat):Int)) 1;rw [e1,e2];exact XU _ rfl
 ·have e:b=(s.heap.push { cls:=.type "range",data:=.fields #[.int lo t,.int hi u,.int 1 v] }).objs.size:=by simpa using j
  subst e;exact d.fpOk (ZK _) (d.hok.fresh (ZK _))
def iRng1 (a:TA):TI:=λ b H d=>a b H λ vs c=>∃j:Int,vs=[.int j]/\-(2 ^ 62)<=j/\j < 2 ^ 62/\d (Itr 0 j.toNat) c
theorem K6 {a:Expr}{d:TA}{p pos:Pos}(f:Gl X "range")(g:X.mg "range"=none)(i:PA X [a] d)(k:XA [a] X.env=[(false,eval a X.env)]:=by rfl):PI X tg (.Call (.Name "range" p) [a] [] pos) (iRng1 d):=by
 intro b s l H y v h;refine Call_ (Je v f g boot_range (QA (thn (i pos b s l H _ v h) λ us w ⟨vs,x,m,n,c⟩=>?_) k rfl))
 obtain ⟨j,e,c,o,q⟩:=c;subst e;cases n with
 | cons r u=>
  cases u
  obtain ⟨t,rfl⟩:=r;exact call_range_1 (yJ m (by omega) (by omega) c o (by simpa using q))
def tFor (f:TI)(n:TG)(tb:TS):TS:=λ g a H=>f a H λ h j=>∃k:Nat->Nat->St->Hp->Prop,(∃m,k 0 m a j)/\∀i m a H,k i m a H->
 (h.stop i H/\g.nx a H)\/(h.go i H/\∃N:St->Hp->Prop,(∀c b,N c b->∃d,d < m/\k (i+1) d c b)/\∀x b,h.yld i H x b->n x a b λ e l=>tb { g with nx:=N,ct:=N,bk:=g.nx } e l)
def pinsAt (a:List Addr)(h:Heap):List (Addr×Obj):=a.filterMap λ b=>(h.get? b).map λ o=>(b,o)
theorem Qh {a:List Addr}{h:Heap}{b:Addr}{o:Obj}(c:b∈a)(e:h.get? b=some o):(b,o)∈pinsAt a h:=List.mem_filterMap.mpr ⟨b,c,by rw [e];rfl⟩
theorem xj {a:List Addr}{h:Heap}{p:Addr×Obj}(c:p∈pinsAt a h):p.1∈a/\h.get? p.1=some p.2:=by
 obtain ⟨b,d,e⟩:=List.mem_filterMap.mp c;cases q:h.get? b with
 | none=>rw [q] at e;cases e
 | some o=>
  rw [q] at e;have f:(b,o)=p:=XM e;subst f;exact ⟨d,q⟩
theorem Inv.pinned {a:List (Addr×Obj)}{f:St}{H:Hp}{s:W9}{c:List Addr}(n:Inv X a f H s)(hf:∀b∈c,FpOk X a H b)(i:∀b∈c,∃o,s.heap.get? b=some o/\∀v,o.data≠.cell v):Inv X (a++pinsAt c s.heap) f H s:=
 n.pins_of λ p j=>(YE.mp j).elim (λ z=>n.pin p (YA _ z)) λ z=>by
  obtain ⟨g,e⟩:=xj z;obtain ⟨k,l,m,_⟩:=hf p.1 g;obtain ⟨o,h,d⟩:=i p.1 g;rw [e] at h;cases h;exact ⟨e,k,l,m,d⟩
theorem Inv.unpinned {a pl:List (Addr×Obj)}{b:St}{H:Hp}{s:W9}(d:Inv X (a++pl) b H s):Inv X a b H s:=d.pins_of λ p c=>d.pin p (YA _ (UQ _ c))
theorem Df {iter:Expr}{z:List Stmt}{L:TI}{c8:TG}{tb:TS}{pos:Pos}(B:WC (model X.prog X.w) X.A X.env X.xe)(M:X.calm=true)(hi:PI X tg iter L)(a1:PG X tg c8)(g:PSs X z tb)
  (a2:∀x,JW iter X.env x=pure x:=by intro _;rfl):PS X (.For tg iter z [] pos) (tFor L c8 tb):=by
 intro c s O H d4 d1 h;refine wpAny_For (thn (hi c s O H _ d1 h) λ v d2 a3=>thn a3 λ c9 d3 a4=>?_) a2
 obtain ⟨it,C,P,d5,a5,e,a6,T,Q,R,d0,⟨a7,a8⟩,turn⟩:=a4;subst e;have y:∀{l:Hp},(∀b∈C,l b=none)->∀b∈C,FpOk X c l b:=λ a9 b g=>⟨a9 b g,(R b g).2⟩
 refine codeAny_forLoop_any (λ n s'=>∃i p l,Inv X c p l s'/\P i s'.heap/\(∀b∈C,l b=none)/\d0 i n p l) ?_ a7 ⟨0,O,a5,a6,Q,λ b g=>(R b g).1,a8⟩
 rintro n S ⟨i,q,F,U,G,I,b0⟩
 rcases turn i n q F b0 with ⟨stop,b1⟩ | ⟨go,N,b2,step⟩
 ·refine zd B (thn (T.done X rfl rfl rfl M i c S q F X.xe U (y I) G stop) λ r b3 ⟨J,b4⟩=>?_)
  subst J;exact uS ⟨q,F,b4,b1⟩
 ·refine zd B (thn (T.item X rfl rfl rfl M i c S q F X.xe U (y I) G go) λ r b3 ⟨u,J,b5⟩=>?_)
  subst J;refine zd B (thn b5 λ _ V ⟨x,W,b6,b7,b8,D,Y⟩=>?_)
  have Z:=b6.pinned (y Y) (T.obj _ _ D);refine zd B (thn (a1 _ V q W x u _ Z b7 (step x W b8)) λ _ b9 ⟨a0,c0,c1,c2⟩=>?_)
  refine zd B (thn (g _ b9 a0 c0 _ c1 c2) λ f K t=>?_)
  have again:∀{a:St} {j:Hp},Inv X (c++pinsAt C V.heap) a j K->N a j->∃m,m < n/\∃i p l,Inv X c p l K/\P i K.heap/\(∀b∈C,l b=none)/\d0 i m p l:=λ {a j} k E=>by
   obtain ⟨c3,c4,c5⟩:=b2 a j E;refine ⟨c3,c4,i+1,a,j,k.unpinned,T.keep _ _ _ D λ b g o e=>(k.pin (b,o) (YA _ (YA _ (Qh g e)))).1,λ b g=>?_,c5⟩
   obtain ⟨o,e,d⟩:=T.obj _ _ D b g;exact (k.pin (b,o) (YA _ (YA _ (Qh g e)))).2.1
  cases f with
  | next=>obtain ⟨a,j,k,E⟩:=t;exact again k E
  | cont=>obtain ⟨a,j,k,E⟩:=t;exact again k E
  | brk=>obtain ⟨a,j,k,t⟩:=t;exact ⟨a,j,k.unpinned,t⟩
  | ret v=>obtain ⟨c6,a,j,k,c7,t⟩:=t;exact ⟨c6,a,j,k.unpinned,c7,t⟩
end
theorem G6 {K:FrG}{a:Addr}{xs:List V}{t:TG}{tb:TS}{k:Ends}{b:St}{H:Hp}(c:Nat->St->Hp->Prop)(n:c 0 b H)(hl:∀i b H,i<=xs.length->c i b H->SqL K H a xs)
  (o:∀i x b H,xs[i]?=some x->c i b H->t x b H λ f j=>tb { k with nx:=c (i+1),ct:=c (i+1),bk:=k.nx } f j) (hd:∀b H,c xs.length b H->k.nx b H):
  ∃r:Nat->Nat->St->Hp->Prop,(∃m,r 0 m b H)/\∀i m b H,r i m b H->
   ((Itl K a).stop i H/\k.nx b H)\/((Itl K a).go i H/\∃N:St->Hp->Prop,(∀g d,N g d->∃l,l < m/\r (i+1) l g d)/\∀x d,(Itl K a).yld i H x d->t x b d λ f j=>tb { k with nx:=N,ct:=N,bk:=k.nx } f j):=by
 refine ⟨λ i m b H=>m=xs.length - i/\i<=xs.length/\c i b H,⟨xs.length,by simp,WO _,n⟩,?_⟩
 rintro i m b H ⟨rfl,hi,p⟩
 have q:=hl i b H hi p;by_cases h:i < xs.length
 ·refine .inr ⟨⟨xs,xs[i],q,by simp [h]⟩,c (i+1),λ g d s=>⟨xs.length - (i+1),by omega,rfl,h,s⟩,λ x d y=>?_⟩
  obtain ⟨e,y⟩:=y;subst e;exact o i x b _ (y xs q) p
 ·have e:i=xs.length:=by omega
  subst e;exact .inl ⟨⟨xs,q,ZK _⟩,hd b H p⟩
theorem Od {lo:Int}{n:Nat}{s:TG}{tb:TS}{j:Ends}{a:St}{H:Hp}(b:Nat->St->Hp->Prop)(l:b 0 a H)
  (o:∀i a H,i < n->b i a H->s (.int (lo+i)) a H λ d h=>tb { j with nx:=b (i+1),ct:=b (i+1),bk:=j.nx } d h) (hd:∀a H,b n a H->j.nx a H):
  ∃q:Nat->Nat->St->Hp->Prop,(∃m,q 0 m a H)/\∀i m a H,q i m a H->
   ((Itr lo n).stop i H/\j.nx a H)\/((Itr lo n).go i H/\∃N:St->Hp->Prop,(∀f c,N f c->∃k,k < m/\q (i+1) k f c)/\∀x c,(Itr lo n).yld i H x c->s x a c λ d h=>tb { j with nx:=N,ct:=N,bk:=j.nx } d h):=by
 refine ⟨λ i m a H=>m=n - i/\i<=n/\b i a H,⟨n,by simp,WO _,l⟩,?_⟩
 rintro i m a H ⟨rfl,hi,p⟩
 by_cases g:i < n
 ·refine .inr ⟨g,b (i+1),λ f c r=>⟨n - (i+1),by omega,rfl,g,r⟩,λ x c y=>?_⟩
  obtain ⟨e,y⟩:=y;subst e y;exact o i a _ g p
 ·have e:i=n:=by omega
  subst e;exact .inl ⟨ZK _,hd a H p⟩
abbrev R2:=V->V->Hp->VK->Prop
def OpR (X:Cx)(f:Value->Value->Sem Value)(r:R2):Prop:=
 ∀(a:List (Addr×Obj)) (s:W9) (b:St) (H:Hp) (x y:V) (v u:Value) (Q:VK),Inv X a b H s->RelV x v->RelV y u->r x y H Q->
  wpAny (model X.prog X.w) X.A (f v u) (EP X a b Q) X.xe s
def UnR (X:Cx)(f:Value->Sem Value)(r:V->Hp->VK->Prop):Prop:=
 ∀(a:List (Addr×Obj)) (s:W9) (b:St) (H:Hp) (x:V) (v:Value) (Q:VK),Inv X a b H s->RelV x v->r x H Q->
  wpAny (model X.prog X.w) X.A (f v) (EP X a b Q) X.xe s
def CallR (X:Cx)(f:Value)(r:List V->Hp->VK->Prop):Prop:=
 ∀(a:List (Addr×Obj)) (s:W9) (b:St) (H:Hp) (xs:List V) (us:List Value) (Q:VK),Inv X a b H s->Vals xs us->r xs H Q->
  wpAny (model X.prog X.w) X.A (call f us) (EP X a b Q) X.xe s
def tOp (r:R2)(b tb:TE):TE:=λ a H Q=>b a H λ x c=>tb a c λ y d=>r x y d Q
def tUn (r:V->Hp->VK->Prop)(a:TE):TE:=λ b H Q=>a b H λ x c=>r x c Q
inductive rI (C:Int->Int->Prop)(g:Int->Int->V)(x:V)(y:V)(H:Hp)(Q:VK):Prop | mk:∀i j,(x=.int i)->(y=.int j)->(C i j)->(Q (g i j) H)->rI C g x y H Q
inductive rI0 (g:Int->Int->V)(x:V)(y:V)(H:Hp)(Q:VK):Prop | mk:∀i j,(x=.int i)->(y=.int j)->(Q (g i j) H)->rI0 g x y H Q
inductive rU (g:Int->V)(x:V)(H:Hp)(Q:VK):Prop | mk:∀i,(x=.int i)->(Q (g i) H)->rU g x H Q
section
variable {X:Cx}{a b c:Expr}{ta tb tc:TE}{pos:Pos}
theorem binT (m:PE X a ta)(n:PE X b tb){d:List (Addr×Obj)}{s:W9}{e:St}{H:Hp}{C:V->V->Hp->Prop}(D:Inv X d e H s)
  (h:ta e H λ x j=>tb e j λ y g=>C x y g) {Q:Value->W9->Prop} {f:Value->Value->Sem Value}
  (hf:∀v u i x y g,Inv X d e g i->RelV x v->RelV y u->C x y g->wpAny (model X.prog X.w) X.A (f v u) Q X.xe i):
  wpAny (model X.prog X.w) X.A (eval a X.env) (λ v k=>wpAny (model X.prog X.w) X.A (eval b X.env) (λ u l=>wpAny (model X.prog X.w) X.A (f v u) Q X.xe l) X.xe k) X.xe s:=by
 refine thn (m d s e H _ D h) λ v o ⟨x,j,p,q,r⟩=>?_
 refine thn (n d o e j _ p r) λ u i ⟨y,g,t,z,B⟩=>?_
 exact hf v u i x y g t q z B
theorem Aw {e:NJ}{r:R2}(f:OpR X (yA e) r)(g:PE X a ta)(i:PE X b tb):PE X (.BinOp a e b pos) (tOp r ta tb):=by
 intro d s j H Q o h;exact wpAny_BinOp (binT g i o h λ v u k x y l m n ry q=>f d k j l x y v u Q m n ry q)
theorem gA {e:UnaryOp}{r:V->Hp->VK->Prop}(g:UnR X (unaryOp e) r)(i:PE X a ta):PE X (.UnaryOp e a pos) (tUn r ta):=by
 intro d s f H Q o h;exact UnaryOp_ (thn (i d s f H _ o h) λ v j ⟨x,k,l,m,n⟩=>g d j f k x v Q l m n)
theorem opI {f:Value->Value->Sem Value}{C:Int->Int->Prop}{d:Int->Int->Int}
  (rule:∀(i j:Int) (t u:Tok) (s:W9) (Q:Value->W9->Prop) (E:Value->W9->Prop),C i j->Q (.int (d i j) s.toks) { s with toks:=s.toks+1 }->wpAny (model X.prog X.w) X.A (f (.int i t) (.int j u)) Q E s):
  OpR X f (rI C λ i j=>.int (d i j)):=by
 intro e s l H x y v u Q m g ry h;obtain ⟨i,j,rfl,rfl,k,q⟩:=h;obtain ⟨t,rfl⟩:=g;obtain ⟨t',rfl⟩:=ry;exact rule i j t t' s _ _ k ⟨.int (d i j),H,m.tok _,⟨_,rfl⟩,q⟩
theorem opI0 {f:Value->Value->Sem Value}{d:Int->Int->Int}
  (rule:∀(i j:Int) (t u:Tok) (s:W9) (Q:Value->W9->Prop) (E:Value->W9->Prop),Q (.int (d i j) s.toks) { s with toks:=s.toks+1 }->wpAny (model X.prog X.w) X.A (f (.int i t) (.int j u)) Q E s):
  OpR X f (rI0 λ i j=>.int (d i j)):=by
 intro e s k H x y v u Q l g ry h;obtain ⟨i,j,rfl,rfl,q⟩:=h;obtain ⟨t,rfl⟩:=g;obtain ⟨t',rfl⟩:=ry;exact rule i j t t' s _ _ ⟨.int (d i j),H,l.tok _,⟨_,rfl⟩,q⟩
theorem opB0 {f:Value->Value->Sem Value}{d:Int->Int->Bool}
  (rule:∀(i j:Int) (t u:Tok) (s:W9) (Q:Value->W9->Prop) (E:Value->W9->Prop),Q (.bool (d i j)) s->wpAny (model X.prog X.w) X.A (f (.int i t) (.int j u)) Q E s):
  OpR X f (rI0 λ i j=>.bl (d i j)):=by
 intro e s k H x y v u Q l g ry h;obtain ⟨i,j,rfl,rfl,q⟩:=h;obtain ⟨t,rfl⟩:=g;obtain ⟨t',rfl⟩:=ry;exact rule i j t t' s _ _ ⟨.bl (d i j),H,l,rfl,q⟩
def CDiv (i j:Int):Prop:=0 < j/\j < 1073741824
def CPow (i j:Int):Prop:=0<=j/\j<=1000000/\i.natAbs < 2 ^ 64
def CMul (i j:Int):Prop:=(-(2 ^ 64) < i/\i < 2 ^ 64)\/(-(2 ^ 64) < j/\j < 2 ^ 64)
theorem CMul.ok {i j:Int}(h:CMul i j):IntMulOk i j:=by
 rcases h with ⟨d,e⟩ | ⟨d,e⟩
 ·exact .of_left (intBits_le_64 d e)
 ·exact .of_right (intBits_le_64 d e)
theorem Cp:OpR X (yA .Add) (rI0 λ i j=>.int (i+j)):=opI0 λ _ _ _ _ _ _ _ q=>add_int q
theorem GR:OpR X (yA .Sub) (rI0 λ i j=>.int (i - j)):=opI0 λ _ _ _ _ _ _ _ q=>sub_int q
theorem Fp:OpR X (yA .Mult) (rI CMul λ i j=>.int (i * j)):=opI λ _ _ _ _ _ _ _ d q=>mul_int q d.ok
theorem Jr:OpR X (yA .FloorDiv) (rI CDiv λ i j=>.int (i / j)):=opI λ i j _ _ _ _ _ d q=>by
 have e:(0:Int) < j:=d.1;have f:j < 1073741824:=d.2;exact floordiv_int (by omega) (by rw [Int.fdiv_eq_ediv_of_nonneg i (by omega)];exact q) (.inl (PyProof.noPylong_small (by omega)))
theorem Eb:OpR X (yA .Mod) (rI (λ _ j=>0 < j) λ i j=>.int (i % j)):=opI λ i j _ _ _ _ _ d q=>by
 have e:(0:Int) < j:=d;exact mod_int' (by omega) (by rw [Int.fmod_eq_emod_of_nonneg i (by omega)];exact q)
theorem Q6:OpR X (yA .Pow) (rI CPow λ i j=>.int (i ^ j.toNat)):=opI λ _ _ _ _ _ _ _ d q=>pow_int_small d.1 d.2.1 d.2.2 q
theorem unI {f:Value->Sem Value}{d:Int->Int}
  (rule:∀(i:Int) (t:Tok) (s:W9) (Q:Value->W9->Prop) (E:Value->W9->Prop),Q (.int (d i) s.toks) { s with toks:=s.toks+1 }->wpAny (model X.prog X.w) X.A (f (.int i t)) Q E s):
  UnR X f (rU λ i=>.int (d i)):=by
 intro e s j H x v Q k g h;obtain ⟨i,rfl,q⟩:=h;obtain ⟨t,rfl⟩:=g;exact rule i t s _ _ ⟨.int (d i),H,k.tok _,⟨_,rfl⟩,q⟩
theorem mQ:UnR X (unaryOp .USub) (rU λ i=>.int (-i)):=unI λ _ _ _ _ _ q=>neg_int q
end
def scal:V->V->Bool
 | .non,.non=>true | .non,.int _=>true | .int _,.non=>true | .non,.bl _=>true | .bl _,.non=>true | .non,.str _=>true | .str _,.non=>true
 | .int _,.int _=>true | .bl _,.bl _=>true | .str _,.str _=>true | .byt _,.byt _=>true
 | .int _,.str _=>true | .str _,.int _=>true | .bl _,.str _=>true | .str _,.bl _=>true
 | _,_=>false
def rEq:R2:=λ x y H Q=>scal x y=true/\Q (.bl (decide (x=y))) H
def rNe:R2:=λ x y H Q=>scal x y=true/\Q (.bl (!decide (x=y))) H
theorem mU {i j:Int}:decide (V.int i=V.int j)=(i == j):=by
 rw [yk];simp
theorem fC {i j:Bool}:decide (V.bl i=V.bl j)=(i == j):=by
 rw [yk];simp
theorem n8 {i j:Str}:decide (V.str i=V.str j)=(i == j):=by
 rw [yk];simp
theorem cI {i j:Array UInt8}:decide (V.byt i=V.byt j)=(i.toList == j.toList):=by
 rw [yk];cases i
 cases j
 simp
section
variable {X:Cx}{a b c:Expr}{ta tb tc:TE}{pos:Pos}
theorem Ca {d:List (Addr×Obj)}{f:St}{H:Hp}{s:W9}{Q:VK}{k g:Bool}(h:Inv X d f H s)(q:Q (.bl k) H)(e:k=g):EP X d f Q (.bool g) s:=by
 subst e;exact ⟨.bl k,H,h,rfl,q⟩
theorem By:OpR X (UU .Eq) rEq:=by
 intro g s k H x y v u Q d f ry h;obtain ⟨e,q⟩:=h;cases x with
 | non=>
  cases f
  cases y with
  | non=>cases ry;exact PySem.EqNone.eq_none_none (Ca d q (by simp))
  | bl j=>cases ry;exact PySem.EqNone.eq_none_bool (Ca d q (by simp))
  | int j=>obtain ⟨t',rfl⟩:=ry;exact PySem.EqNone.eq_none_int (Ca d q (by simp))
  | str j=>obtain ⟨t',rfl⟩:=ry;exact PySem.EqNone.eq_none_str (Ca d q (by simp))
  | _=>exact absurd (show false=true from e) ZH
 | bl i=>
  cases f
  cases y with
  | non=>cases ry;exact PySem.EqNone.eq_bool_none (Ca d q (by simp))
  | bl j=>cases ry;exact eq_bool (Ca d q fC)
  | str j=>obtain ⟨t',rfl⟩:=ry;exact PySem.EqMixed.eq_bool_str (Ca d q (by simp))
  | _=>exact absurd (show false=true from e) ZH
 | int i=>
  obtain ⟨t,rfl⟩:=f;cases y with
  | non=>cases ry;exact PySem.EqNone.eq_int_none (Ca d q (by simp))
  | int j=>obtain ⟨t',rfl⟩:=ry;exact eq_int (Ca d q mU)
  | str j=>obtain ⟨t',rfl⟩:=ry;exact PySem.EqMixed.eq_int_str (Ca d q (by simp))
  | _=>exact absurd (show false=true from e) ZH
 | str i=>
  obtain ⟨t,rfl⟩:=f;cases y with
  | non=>cases ry;exact PySem.EqNone.eq_str_none (Ca d q (by simp))
  | bl j=>cases ry;exact PySem.EqMixed.eq_str_bool (Ca d q (by simp))
  | int j=>obtain ⟨t',rfl⟩:=ry;exact PySem.EqMixed.eq_str_int (Ca d q (by simp))
  | str j=>obtain ⟨t',rfl⟩:=ry;exact eq_str (Ca d q n8)
  | _=>exact absurd (show false=true from e) ZH
 | byt i=>
  obtain ⟨t,rfl⟩:=f;cases y with
  | byt j=>obtain ⟨t',rfl⟩:=ry;exact PySem.W.eq_bytes (Ca d q cI)
  | _=>exact absurd (show false=true from e) ZH
 | _=>cases y<;>exact absurd (show false=true from e) ZH
theorem Ey:OpR X (UU .NotEq) rNe:=by
 intro g s k H x y v u Q d f ry h;obtain ⟨e,q⟩:=h;cases x with
 | non=>
  cases f
  cases y with
  | non=>cases ry;exact PySem.EqNone.ne_none_none (Ca d q (by simp))
  | bl j=>cases ry;exact PySem.EqNone.ne_none_bool (Ca d q (by simp))
  | int j=>obtain ⟨t',rfl⟩:=ry;exact PySem.EqNone.ne_none_int (Ca d q (by simp))
  | str j=>obtain ⟨t',rfl⟩:=ry;exact PySem.EqNone.ne_none_str (Ca d q (by simp))
  | _=>exact absurd (show false=true from e) ZH
 | bl i=>
  cases f
  cases y with
  | non=>cases ry;exact PySem.EqNone.ne_bool_none (Ca d q (by simp))
  | bl j=>cases ry;exact ne_bool (Ca d q (congrArg not fC))
  | str j=>obtain ⟨t',rfl⟩:=ry;exact PySem.EqMixed.ne_bool_str (Ca d q (by simp))
  | _=>exact absurd (show false=true from e) ZH
 | int i=>
  obtain ⟨t,rfl⟩:=f;cases y with
  | non=>cases ry;exact PySem.EqNone.ne_int_none (Ca d q (by simp))
  | int j=>obtain ⟨t',rfl⟩:=ry;exact ne_int (Ca d q (congrArg not mU))
  | str j=>obtain ⟨t',rfl⟩:=ry;exact PySem.EqMixed.ne_int_str (Ca d q (by simp))
  | _=>exact absurd (show false=true from e) ZH
 | str i=>
  obtain ⟨t,rfl⟩:=f;cases y with
  | non=>cases ry;exact PySem.EqNone.ne_str_none (Ca d q (by simp))
  | bl j=>cases ry;exact PySem.EqMixed.ne_str_bool (Ca d q (by simp))
  | int j=>obtain ⟨t',rfl⟩:=ry;exact PySem.EqMixed.ne_str_int (Ca d q (by simp))
  | str j=>obtain ⟨t',rfl⟩:=ry;exact ne_str (Ca d q (congrArg not n8))
  | _=>exact absurd (show false=true from e) ZH
 | byt i=>
  obtain ⟨t,rfl⟩:=f;cases y with
  | byt j=>obtain ⟨t',rfl⟩:=ry;exact PySem.W.ne_bytes (Ca d q (congrArg not cI))
  | _=>exact absurd (show false=true from e) ZH
 | _=>cases y<;>exact absurd (show false=true from e) ZH
theorem GX:OpR X (UU .Lt) (rI0 λ i j=>.bl (decide (i < j))):=opB0 λ _ _ _ _ _ _ _ q=>lt_int q
theorem Qo:OpR X (UU .LtE) (rI0 λ i j=>.bl (decide (i<=j))):=opB0 λ _ _ _ _ _ _ _ q=>le_int q
theorem Hq:OpR X (UU .Gt) (rI0 λ i j=>.bl (decide (j < i))):=opB0 λ _ _ _ _ _ _ _ q=>gt_int q
theorem X8:OpR X (UU .GtE) (rI0 λ i j=>.bl (decide (j<=i))):=opB0 λ _ _ _ _ _ _ _ q=>ge_int q
theorem Mx:OpR X (UU .Is) (λ x y H Q=>y=.non/\Q (.bl (decide (x=.non))) H):=by
 intro e s f H x y v u Q g d ry h;obtain ⟨rfl,q⟩:=h;cases ry
 refine is_none_gen (Ca g q ?_);cases x<;>first
  | (cases d;rfl)
  | (obtain ⟨t,rfl⟩:=d;rfl)
theorem AZ3:OpR X (UU .IsNot) (λ x y H Q=>y=.non/\Q (.bl (!decide (x=.non))) H):=by
 intro e s f H x y v u Q g d ry h;obtain ⟨rfl,q⟩:=h;cases ry
 refine isnot_none_gen (Ca g q ?_);cases x<;>first
  | (cases d;rfl)
  | (obtain ⟨t,rfl⟩:=d;rfl)
theorem nomark (b:Expr){d:CmpOp}(h:d≠.In:=by decide)(e:d≠.NotIn:=by decide):xv d b=false:=by
 have e1:(d == CmpOp.In)=false:=by cases d<;>first | rfl | exact absurd rfl h
 have e2:(d == CmpOp.NotIn)=false:=by cases d<;>first | rfl | exact absurd rfl e
 cases b<;>simp [xv,e1,e2]
theorem Dr {d:CmpOp}{r:R2}(f:OpR X (UU d) r)(g:PE X a ta)(i:PE X b tb)(j:xv d b=false:=by first | exact nomark _ | rfl):PE X (.Compare a [d] [b] pos) (tOp r ta tb):=by
 intro e s k H Q p h;exact wpAny_Compare1 (binT g i p h λ v u l x y m n o ry q=>f e l k m x y v u Q n o ry q) j
def tTest (t:TE):TT:=λ d H Q=>t d H λ x e=>∃k,x=.bl k/\Q k e
theorem BW {f:CmpOp}{r:R2}(i:OpR X (UU f) r)(j:PE X a ta)(l:PE X b tb)(m:xv f b=false:=by first | exact nomark _ | rfl):PT X (.Compare a [f] [b] pos) (tTest (tOp r ta tb)):=by
 intro d s g H Q J h;refine wpAny_isTrue_Compare1 (thn (j d s g H _ J h) λ v n ⟨x,o,p,q,t⟩=>thn (l d n g o _ p t) λ u w ⟨y,A,B,C,D⟩=>
  thn (i d w g A x y v u _ B q C D) λ c K ⟨z,E,F,G,k,e,I⟩=>?_) m
 subst e;cases G
 exact UI ⟨E,F,I⟩
def tChain (r f:R2)(ta tb tc:TE):TE:=λ d H Q=>ta d H λ x g=>tb d g λ y h=>r x y h λ z e=>∃k,z=.bl k/\
 (if k=true then tc d e λ i j=>f y i j Q else Q (.bl false) e)
theorem pW {j g:CmpOp}{r l:R2}(t:OpR X (UU j) r)(m:OpR X (UU g) l)(w:PE X a ta)(A:PE X b tb)(B:PE X c tc)
  (C:lastMarks [j,g] [b,c]=false:=by with_unfolding_all rfl):PT X (.Compare a [j,g] [b,c] pos) (tTest (tChain r l ta tb tc)):=by
 intro f s i H Q a4 h;refine isTrue_chain (thn (w f s i H _ a4 h) λ v D ⟨x,E,F,G,I⟩=>test_link (thn (A f D i E _ F I) λ u J ⟨y,K,L,n,M⟩=>
  thn (t f J i K x y v u _ L G n M) λ d N ⟨z,o,p,O,k,e,q⟩=>?_)) C
 subst e;cases O
 refine UI ?_;cases k with
 | false=>
  obtain ⟨a5,P,R⟩:=q;cases P
  exact ite_ff ⟨o,p,R⟩
 | true=>
  refine ite_tt (test_last (thn (B f N i o _ p q) λ S T ⟨U,V,W,Y,Z⟩=>thn (m f T i V y U u S _ W n Y Z) λ d' a6 ⟨a7,a0,a1,a2,a8,e2,a3⟩=>?_))
  subst e2;cases a2
  exact UI ⟨a0,a1,a3⟩
theorem line63:(Y3:Nat) < 2 ^ 63:=by rw [sizeLine_eq];decide
theorem Cm:OpR X (yA .Add) (λ x y H Q=>∃i j,x=.str i/\y=.str j/\i.length+j.length<=Y3/\Q (.str (i++j)) H):=by
 intro d s g H x y v u Q k e ry h;obtain ⟨i,j,rfl,rfl,f,q⟩:=h;obtain ⟨t,rfl⟩:=e;obtain ⟨t',rfl⟩:=ry;exact add_str (λ t' tk=>⟨.str (i++j),H,k.tok _,⟨_,rfl⟩,q⟩) f
def PlainIxT (b:Expr):Prop:=∀o i,GH b false o i=operate [o,i] (GI o i)
theorem lF (d:PE X a ta)(f:PE X b tb)(g:PlainIxT b):
  PE X (.Subscript a b pos) (tOp (λ x y H Q=>∃z i c,x=.str z/\y=.int i/\0<=i/\i < 2 ^ 63/\i < z.length/\z.cps[i.toNat]?=some c/\Q (.str ⟨#[c]⟩) H) ta tb):=by
 intro j s A H Q B h;refine Subscript_ (binT d f B h λ v u k x y l m n ry q=>?_)
 obtain ⟨z,i,c,rfl,rfl,o,w,p,r,q⟩:=q;obtain ⟨t,rfl⟩:=n;obtain ⟨t',rfl⟩:=ry;have e:seqIndex? i z.length=some i.toNat:=PySem.StrLaws.seqIndex_nonneg o p;exact tail_any (wE k z t) slot_str_getitem.lookup (getItem_str (c:=c) (by
  have e1:decide (i < -(2 ^ 63:Int))=false:=decide_eq_false (by omega)
  have e2:decide (i≥2 ^ 63)=false:=decide_eq_false (by omega)
  rw [e1,e2]<;>rfl) (by rw [e];exact r) ⟨.str ⟨#[c]⟩,l,m.tok _,⟨_,rfl⟩,q⟩) (g _ _)
theorem vals1 {x:V}{us:List Value}(r:Vals [x] us):∃u,us=[u]/\RelV x u:=by
 cases r with
 | cons d e=>cases e;exact ⟨_,rfl,d⟩
theorem vals2 {x y:V}{us:List Value}(r:Vals [x,y] us):∃u d,us=[u,d]/\RelV x u/\RelV y d:=by
 cases r with
 | cons e f=>
  cases f with
  | cons g h=>cases h;exact ⟨_,_,rfl,e,g⟩
theorem Ip:CallR X (.builtin "abs") (λ xs H Q=>∃i,xs=[.int i]/\Q (.int (if i < 0 then -i else i)) H):=by
 intro d s e H xs us Q f r h;obtain ⟨i,rfl,q⟩:=h;obtain ⟨u,rfl,t,rfl⟩:=vals1 r;exact call_abs_int λ u tk=>⟨.int (if i < 0 then -i else i),H,f.tok _,⟨_,rfl⟩,q⟩
theorem AP8 (e:X.calm=true):CallR X (.builtin "max") (λ xs H Q=>∃i j,xs=[.int i,.int j]/\Q (.int (if j > i then j else i)) H):=by
 intro f s l H xs us Q g r h;obtain ⟨i,j,rfl,q⟩:=h;obtain ⟨u,m,rfl,⟨t,rfl⟩,⟨t',rfl⟩⟩:=vals2 r;refine max_two_ints (g.ok.hd e) λ h' tk k=>⟨_,H,g.kept k,?_,q⟩
 by_cases d:j > i
 ·rw [if_pos d,if_pos d];exact ⟨_,rfl⟩
 ·rw [if_neg d,if_neg d];exact ⟨_,rfl⟩
theorem mY:CallR X (.type "int") (λ xs H Q=>(∃i,xs=[.int i]/\Q (.int i) H)\/∃k,xs=[.bl k]/\Q (.int (if k then 1 else 0)) H):=by
 intro d s g H xs us Q f r h;rcases h with ⟨i,rfl,q⟩ | ⟨k,rfl,q⟩
 ·obtain ⟨u,rfl,t,rfl⟩:=vals1 r;exact call_int_int ⟨.int i,H,f,⟨_,rfl⟩,q⟩
 ·obtain ⟨u,rfl,e⟩:=vals1 r;cases e
  exact call_int_bool ⟨.int (if k then 1 else 0),H,f.tok _,⟨_,rfl⟩,q⟩
theorem aZ:CallR X (.type "str") (λ xs H Q=>∃i,xs=[.int i]/\i.natAbs.log2 < 1920/\Q (.str (toString i)) H):=by
 intro d s f H xs us Q g r h;obtain ⟨i,rfl,e,q⟩:=h;obtain ⟨u,rfl,t,rfl⟩:=vals1 r;exact PySem.P.str_of_int e ⟨.str _,H,g.tok _,⟨_,rfl⟩,q⟩
end
structure ObjM (h:Heap)(x dx C:Addr)(mA:Str->Option Value):Prop where
 obj:h.get? x=some (JY C dx)
 ns:h.Ns1 dx mA
 ne:dx≠x
theorem Ab6 {h:Heap}{c:Addr}{d:Str->Option Value}(n:h.Ns1 c d):∃f,h.get? c=some f/\∀name,jI name f=some (d name):=by
 obtain ⟨o,es,m,g,hd,i,_,j⟩:=n;refine ⟨o,g,λ name=>?_⟩
 have e:=j name;unfold nsFind findBy at e;rw [<- Array.find?_toList] at e;unfold jI;rw [hd];dsimp only
 split
 ·rename_i y q
  rw [q] at e;exact congrArg some e
 ·rename_i q
  rw [q] at e;have a:es.toList.any (·.refKey)=false:=by
   rw [List.any_eq_false];intro y k;obtain ⟨z,t,b⟩:=i y (Nn.mp k);simp [wP.refKey,b]
  have l:¬ es.toList.any (·.refKey)=true:=by rw [a];exact ZH
  rw [if_neg l];exact congrArg some e
theorem ObjM.look {h:Heap}{x b C:Addr}{c:Str->Option Value}(e:ObjM h x b C c):∃a,PySem.W.InstAt h x (JY C b) C (some a)/\∀name,jI name a=some (c name):=
 let ⟨a,d,hl⟩:=Ab6 e.ns
 ⟨a,⟨e.obj,rfl,rfl,d⟩,hl⟩
section
variable {prog:Yf}{w:World}{A:WB}{E:Value->W9->Prop}{s:W9}{K:FrG}{x dx C f:Addr}{mA:Str->Option Value}{name:Str}{v:Value}
theorem AY7 {a:Bool}{Q:Value->W9->Prop}(X:K.In s.heap)(g:ObjM s.heap x dx C mA)(c:UR K C name=true)(d:UY K C=true)
  (e:ZI K (.ref C) name=some none) (hv:mA name=some v) (b:PySem.W.handedIn v=true) (h:Q v { s with toks:=s.toks+1 }):
  wpAny (model prog w) A (getAttr (.ref x) name a) Q E s:=by
 obtain ⟨i,j,hl⟩:=g.look;exact PySem.W.get_value X j (ja c).1 (PySem.W.findObj_own d e rfl (by rw [hl,hv])) b h
theorem vW {pl:Sem Bool}{Q:Value×List Value->W9->Prop}(X:K.In s.heap)(d:ObjM s.heap x dx C mA)(a:UR K C name=true)
  (hf:ZI K (.ref C) name=some (some (.ref f))) (b:XZ K (.ref f)=true) (hv:mA name=none) (h:Q (.ref f,[.ref x]) s):
  wpAny (model prog w) A (getMethod (.ref x) name pl) Q E s:=by
 obtain ⟨c,e,hl⟩:=d.look;exact PySem.W.method_fn X e (ja a).1 (ja a).2 hf (beq_iff_eq.mp b) (by show (jI name c).map (·.isSome)=some false;rw [hl,hv];rfl) h
theorem Ab7 {ns:List Str}{Q:Unit->W9->Prop}(X:K.In s.heap)(e:ObjM s.heap x dx C mA)
  (l:ZI K (.ref C) "__setattr__"=some (some (.builtin "object.__setattr__"))) (m:JO K C=true) (n:FU K C name=some none) (o:UY K C=true)
  (p:Fs mA ns) (hsz:ns.length<=Y3)
  (h:∀h',ObjM h' x dx C (λ y=>if y=name then some v else mA y)->ya dx s.heap h'->Q () { s with heap:=h',toks:=s.toks+2 }):
  wpAny (model prog w) A (setAttr (.ref x) name v) Q E s:=by
 obtain ⟨D,u,hl⟩:=e.look;refine PySem.W.set_plain X u l (PySem.W.osa_open (s:={ s with toks:=s.toks+1 }) (r:=none) X u m n λ b=>?_)
 obtain ⟨F,q,g⟩:=PySem.W.any_some o;have t:s.heap.get? x=some ⟨.ref C,some dx,.plain,#[]⟩:=e.obj;refine ZA (Yq (ZA (ZA (wpAny_loadPart t (ZA (PySem.W.Looks.here (s:={ s with toks:=s.toks+1 }) (PySem.W.looks_clsIn X q) ?_))))))
 rw [g];refine Yq (a:=some dx) (ZA (Yq (ZA ?_)));refine wpAny_nsSet1 (s:={ s with toks:=s.toks+1 }) e.ns λ h' c d=>?_
 obtain ⟨G,z,B,i,j,k⟩:=c.count (Fs.cons name v p);refine ZA (wpAny_lookBehind i (by rw [j];exact pastItsLine_dict (Zo k (by rw [X9];omega))) ?_)
 exact Yq (h _ ⟨(d.2 _ (UX e.ne)).trans e.obj,c,e.ne⟩ d)
theorem AT6 {c:Result->W9->Prop}{vs:List Value}{a:List (Str×Value)}(X:K.In s.heap)(b:zb K C=true)
  (hi:ZI K (.ref C) "__init__"=some (some (.ref f))) (hf:PySem.W.typeIn K (.ref f)=some (.type "function"))
  (h:GL (model prog w) (A.under (.builtin "type.__call__" ⟨.ref C::vs,a⟩)) (.call (.ref f) ⟨.ref (s.heap.objs.size+1)::vs,a⟩) (PySem.W.InitBack (s.heap.objs.size+1) c)
   { s with heap:=(s.heap.push UH).push (JY C s.heap.objs.size) }):
  GL (model prog w) A (.call (.ref C) ⟨vs,a⟩) c s:=by
 obtain ⟨e,g,d,t,os⟩:=s;exact PySem.W.make_core (PySem.W.makes_of X b) (PySem.W.looks_findIn X hi) (λ self=>PySem.W.bind_fn X self hf) (.inl rfl) h
end
def putF (f:Str)(v:V):List (Str×V)->List (Str×V)
 | []=>[(f,v)]
 | (a,x)::r=>if a=f then (a,v)::r else (a,x)::putF f v r
theorem mj (f b:Str)(v:V):∀fs:List (Str×V),(putF f v fs).lookup b=if b=f then some v else fs.lookup b
 | []=>by
  show xL b [(f,v)]=_;by_cases h:b=f
  ·have a:(b == f)=true:=beq_iff_eq.mpr h;simp only [xL,a,if_pos h]
  ·have a:(b == f)=false:=beq_eq_false_iff_ne.mpr h;simp only [xL,a,if_neg h]
 | (k,x)::r=>by
  have d:=mj f b v r;rw [show putF f v ((k,x)::r)=(if k=f then (k,v)::r else (k,x)::putF f v r) from rfl]
  by_cases c:k=f
  ·rw [if_pos c];by_cases h:b=k
   ·have a:(b == k)=true:=beq_iff_eq.mpr h;simp only [xL,a,if_pos (h.trans c)]
   ·have a:(b == k)=false:=beq_eq_false_iff_ne.mpr h;simp only [xL,a,if_neg (λ e:b=f=>h (e.trans c.symm))]
  ·rw [if_neg c];by_cases h:b=k
   ·have a:(b == k)=true:=beq_iff_eq.mpr h;simp only [xL,a,if_neg (λ e:b=f=>c (h.symm.trans e))]
   ·have a:(b == k)=false:=beq_eq_false_iff_ne.mpr h;simp only [xL,a];exact d
theorem Yo (f:Str)(v:V):∀fs:List (Str×V),f∈(putF f v fs).map (·.1)/\∀b,b∈fs.map (·.1)->b∈(putF f v fs).map (·.1)
 | []=>⟨by simp [putF],λ b h=>by simp at h⟩
 | (k,x)::r=>by
  obtain ⟨c,d⟩:=Yo f v r;rw [show putF f v ((k,x)::r)=(if k=f then (k,v)::r else (k,x)::putF f v r) from rfl]
  by_cases a:k=f
  ·rw [if_pos a];subst a;exact ⟨by simp,λ b h=>by simpa using h⟩
  ·rw [if_neg a];refine ⟨?_,λ b h=>?_⟩
   ·rw [YB];exact Y9 _ c
   ·rw [YB] at h ⊢;rcases X2.mp h with e | e
    ·exact X2.mpr (.inl e)
    ·exact Y9 _ (d b e)
theorem gU (f:Str)(v:V):∀fs:List (Str×V),(putF f v fs).length<=fs.length+1
 | []=>by simp [putF]
 | (k,x)::r=>by
  have b:=gU f v r;rw [show putF f v ((k,x)::r)=(if k=f then (k,v)::r else (k,x)::putF f v r) from rfl]
  by_cases a:k=f
  ·rw [if_pos a,X9,X9];omega
  ·rw [if_neg a,X9,X9];omega
theorem RelO.some_of {v:V}{o:Option Value}(r:RelO (some v) o):∃u,o=some u/\RelV v u:=by
 cases o with
 | none=>exact (show False from r).elim
 | some u=>exact ⟨u,rfl,r⟩
theorem RelO.none_of {o:Option Value}(r:RelO none o):o=none:=by
 cases o with
 | none=>rfl
 | some u=>exact (show False from r).elim
theorem tQ {v:V}{u:Value}(r:RelV v u):PySem.W.handedIn u=true:=by
 cases v with
 | non=>cases (show u=Fn from r);rfl
 | bl b=>cases (show u=Mo b from r);rfl
 | int i=>obtain ⟨t,e⟩:=(show ∃t,u=jp i t from r);cases e;rfl
 | str x=>obtain ⟨t,e⟩:=(show ∃t,u=NO x t from r);cases e;rfl
 | byt b=>obtain ⟨t,e⟩:=(show ∃t,u=Value.bytes b t from r);cases e;rfl
 | flt b=>obtain ⟨t,e⟩:=(show ∃t,u=MR b t from r);cases e;rfl
 | ref a=>cases (show u=Wp a from r);rfl
 | ty n=>cases (show u=jv n from r);rfl
section
variable {P:Yf}{w:World}{H H':Hp}{h h':Heap}{a C dx:Addr}{fs fs':List (Str×V)}
theorem Og (hok:HOk P w H h)(e:H a=some (.ins C dx fs)):∃b,ObjM h a dx C b/\(∀f,RelO (fs.lookup f) (b f))/\Fs b (fs.map (·.1))/\fs.length<=1000/\H dx=some (.own a):=by
 obtain ⟨d,z,ne,c,b,n,r,q⟩:=(show ObjOk P w H h a (.ins C dx fs) from hok a _ e)
 exact ⟨b,⟨c,n,ne⟩,r,q,z,d⟩
end
structure Cls (K:FrG)(C:Addr):Prop where
 pg:UR K C ut=true
 hd:UY K C=true
 po:JO K C=true
 sa:ZI K (.ref C) "__setattr__"=some (some (.builtin "object.__setattr__"))
theorem Cls.get {K:FrG}{C:Addr}(c:Cls K C)(f:Str):UR K C f=true:=c.pg
def NoAttr (K:FrG)(C:Addr)(f:Str):Prop:=ZI K (.ref C) f=some none
theorem NoAttr.taker {K:FrG}{C:Addr}{f:Str}(n:NoAttr K C f):FU K C f=some none:=by
 unfold FU;rw [show ZI K (.ref C) f=some none from n]
 rfl
structure Meth (K:FrG)(C:Addr)(m:Str)(f:Addr):Prop where
 at_:ZI K (.ref C) m=some (some (.ref f))
 fn:XZ K (.ref f)=true
 kp:Ya K (.ref f)=true
section
variable {X:Cx}{pins:List (Addr×Obj)}{σ:St}{H:Hp}{s:W9}{a C dx:Addr}{fs:List (Str×V)}{f:Str}{v:V}{A:WB}{E:Value->W9->Prop}
theorem jn {b:Bool}{Q:Value->W9->Prop}(g:Inv X pins σ H s)(e:H a=some (.ins C dx fs))(c:Cls X.K C)(n:NoAttr X.K C f)(l:fs.lookup f=some v)
  (h:∀u s',Inv X pins σ H s'->RelV v u->Q u s'):wpAny (model X.prog X.w) A (getAttr (.ref a) f b) Q E s:=by
 obtain ⟨i,k,r,_,_,_⟩:=Og g.hok e;obtain ⟨u,j,d⟩:=RelO.some_of (v:=v) (o:=i f) (by rw [<- l];exact r f)
 exact AY7 g.kIn k (c.get f) c.hd n j (tQ d) (h u _ (g.tok _) d)
theorem o8 {m:Str}{g:Addr}{pl:Sem Bool}{Q:Value×List Value->W9->Prop}(i:Inv X pins σ H s)(e:H a=some (.ins C dx fs))(c:Cls X.K C)(k:Meth X.K C m g)(l:fs.lookup m=none)
  (h:Q (.ref g,[.ref a]) s):wpAny (model X.prog X.w) A (getMethod (.ref a) m pl) Q E s:=by
 obtain ⟨b,j,r,_,_,_⟩:=Og i.hok e;have d:b m=none:=RelO.none_of (by rw [<- l];exact r m)
 exact vW i.kIn j (c.get m) k.at_ k.fn d h
theorem qD {y:V}{u:Value}{Q:Unit->W9->Prop}(l:Inv X pins σ H s)(e:H a=some (.ins C dx fs))(c:Cls X.K C)(n:NoAttr X.K C f)(hl:fs.length < 1000)(ry:RelV y u)
  (h:∀s',Inv X pins σ (upd H a (.ins C dx (putF f y fs))) s'->Q () s'):wpAny (model X.prog X.w) A (setAttr (.ref a) f u) Q E s:=by
 obtain ⟨i,m,r,j,_,k⟩:=Og l.hok e;have p:(fs.map (·.1)).length<=Y3:=by rw [Y2,sizeLine_eq];omega
 refine Ab7 l.kIn m c.sa c.po n.taker c.hd j p λ h' g t=>h _ ?_
 have hd:∃o,h'.get? dx=some o:=let ⟨o,_,_,B,_⟩:=g.ns;⟨o,B⟩
 refine l.write (x:=a) (e:=dx) (by rw [e];exact zl) (.inr k) (λ b q D z=>(t.2 b D).trans z) hd ?_
 refine ⟨by rw [BK m.ne];exact k,?_,m.ne,g.obj,_,g.ns,λ d=>?_,λ d F=>?_⟩
 ·have:=gU f y fs;omega
 ·show RelO ((putF f y fs).lookup d) (if d=f then some u else i d)
  rw [mj];by_cases q:d=f
  ·rw [if_pos q,if_pos q];exact ry
  ·rw [if_neg q,if_neg q];exact r d
 ·by_cases q:d=f
  ·rw [q];exact (Yo f y fs).1
  ·refine (Yo f y fs).2 d (j d λ z=>F ?_)
   show (if d=f then some u else i d)=none
   rw [if_neg q];exact z
theorem Inv.made (i:Inv X pins σ H s):Inv X pins σ (upd (upd H s.heap.objs.size (.own (s.heap.objs.size+1))) (s.heap.objs.size+1) (.ins C s.heap.objs.size []))
  { s with heap:=(s.heap.push UH).push (JY C s.heap.objs.size) }:=by
 have e1:(s.heap.push UH).get? s.heap.objs.size=some UH:=XU s.heap rfl;have e2:((s.heap.push UH).push (JY C s.heap.objs.size)).get? (s.heap.objs.size+1)=some (JY C s.heap.objs.size):=by
  have:=XU (s.heap.push UH) (o:=JY C s.heap.objs.size) rfl
  rwa [jS] at this
 have c:(s.heap.push UH).Ns s.heap.objs.size (λ _=>none):=⟨UH,#[],_,e1,rfl,(λ e d=>absurd d (by simp)),λ _=>rfl⟩
 have g:=i.laid (a:=s.heap.objs.size) (o:=.own (s.heap.objs.size+1)) (h':=s.heap.push UH) (t':=s.toks) (λ b u q=>ZE _ q) (ZK _) ⟨_,e1⟩
 refine g.laid (a:=s.heap.objs.size+1) (o:=.ins C s.heap.objs.size []) (t':=s.toks) (λ b u q=>ZE _ q) (ME (jS _ _)) ?_
 have ne:s.heap.objs.size≠s.heap.objs.size+1:=XV (wv _);refine ⟨by rw [BK ne,Ar],WO _,ne,e2,λ _=>none,(Heap.Ns1.of_empty c).at λ o q=>ZE _ q,λ _=>zl,λ y h=>absurd rfl h⟩
theorem uP {prog:Yf}{w:World}{env:Env}{e:Expr}{f:Str}{pos:Pos}{s:W9}{Q:Value->W9->Prop}(c:wZ e f env (eval e env)=eval e env)
  (h:wpAny (model prog w) A (eval e env) (λ o b=>wpAny (model prog w) A (getAttr o f true) Q E b) E s):wpAny (model prog w) A (eval (.Attribute e f pos) env) Q E s:=
 Attribute_any_ h (by rw [arm_eval_Attribute,c])
end
def tFld (K:FrG)(c:TE)(f:Str):TE:=λ d H Q=>c d H λ x b=>∃a C e fs v,x=.ref a/\b a=some (.ins C e fs)/\Cls K C/\NoAttr K C f/\fs.lookup f=some v/\Q v b
def sFld (K:FrG)(e g:TE)(f:Str):TS:=λ i b H=>g b H λ y h=>e b h λ x c=>∃a C d fs,x=.ref a/\c a=some (.ins C d fs)/\Cls K C/\NoAttr K C f/\fs.length < 1000/\
 i.nx b (upd c a (.ins C d (putF f y fs)))
def InOp (X:Cx)(c:NJ)(d:V->V->Hp->VK->Prop):Prop:=
 ∀(a:List (Addr×Obj)) (s:W9) (b:St) (H:Hp) (x y:V) (u v:Value) (Q:VK),Inv X a b H s->RelV x u->RelV y v->d x y H Q->wpAny (model X.prog X.w) X.A (inplaceOp c u v) (EP X a b Q) X.xe s
def sFldAug (K:FrG)(h i:TE)(j:V->V->Hp->VK->Prop)(f:Str):TS:=λ m d H=>h d H λ x e=>∃a C k fs v,x=.ref a/\e a=some (.ins C k fs)/\Cls K C/\NoAttr K C f/\fs.lookup f=some v/\
 i d e λ y l=>j v y l λ z g=>∃c b,g a=some (.ins C c b)/\b.length < 1000/\m.nx d (upd g a (.ins C c (putF f z b)))
section
variable {X:Cx}{o e value:Expr}{f:Str}{pos pos' tpos:Pos}{ta tv:TE}
theorem uZ (d:PE X e ta)(g:wZ e f X.env (eval e X.env)=eval e X.env):PE X (.Attribute e f pos) (tFld X.K ta f):=by
 intro b s i H Q w h;refine uP g (thn (d b s i H _ w h) λ u y ⟨x,j,k,m,a,C,z,fs,v,ex,p,c,n,l,q⟩=>?_)
 subst ex;obtain rfl:u=Wp a:=m;exact jn k p c n l λ A B r t=>⟨v,j,r,t,q⟩
theorem zy (g:PE X o ta)(hv:PE X value tv)(i:js value (some (.Attribute o f pos')) pos.line X.env=pure false):PS X (.Assign [.Attribute o f pos'] value pos) (sFld X.K ta tv f):=by
 intro b s d H G A h;refine plainObj_wpAny_Assign_Attribute (thn (hv b s d H _ A h) λ u j ⟨y,k,m,ry,q⟩=>thn (g b j d k _ m q) λ p B ⟨x,D,r,t,a,C,E,fs,ex,v,c,n,l,w⟩=>?_) i
 subst ex;obtain rfl:p=Wp a:=t;exact qD r v c n l ry λ F z=>⟨d,_,z,w⟩
theorem aX {g:NJ}{i:V->V->Hp->VK->Prop}(m:PE X o ta)(hv:PE X value tv)(j:InOp X g i):PS X (.AugAssign (.Attribute o f tpos) g value pos) (sFldAug X.K ta tv i f):=by
 intro b s d H a2 T h;refine wpAny_AugAssign_AttributeAny (thn (m b s d H _ T h) λ p U ⟨x,r,t,w,a,C,W,fs,v,ex,A,c,n,l,q⟩=>?_)
 subst ex;obtain rfl:p=Wp a:=w;refine jn t A c n l λ u B D E=>thn (hv b B d r _ D q) λ F G ⟨y,I,J,ry,L⟩=>thn (j b G d I v y u F _ J E ry L) λ Y Z ⟨z,a0,M,N,R,S,k,O,P⟩=>?_
 exact qD M k c n O N λ a1 Q=>⟨d,_,Q,P⟩
inductive rAdd (x:V)(y:V)(H:Hp)(Q:VK):Prop | mk:∀i j,(x=.int i)->(y=.int j)->(Q (.int (i+j)) H)->rAdd x y H Q
theorem qw:InOp X .Add rAdd:=by
 rintro a s c H x y u v Q d b ry ⟨i,j,rfl,rfl,q⟩
 obtain ⟨t,rfl⟩:=(show ∃t,u=jp i t from b)
 obtain ⟨t',rfl⟩:=(show ∃t',v=jp j t' from ry)
 exact PyProof.Rows.iadd_int ⟨.int (i+j),H,d.tok _,⟨_,rfl⟩,q⟩
end
section
variable {X:Cx}{pins:List (Addr×Obj)}{σ:St}{H:Hp}{s:W9}{A:WB}{E:Value->W9->Prop}{Q:Value->W9->Prop}{c:Value}{b:Bool}
inductive TyOf (K:FrG)(H:Hp):V->Value->Prop where
 | non:TyOf K H .non (.type "NoneType")
 | bl (x:Bool):TyOf K H (.bl x) (.type "bool")
 | int (i:Int):TyOf K H (.int i) (.type "int")
 | str (x:Str):TyOf K H (.str x) (.type "str")
 | flt (x:UInt64):TyOf K H (.flt x) (.type "float")
 | lst {a:Addr} {xs:List V} (e:H a=some (.lst xs)):TyOf K H (.ref a) (.type "list")
 | frz {a:Addr} {o:Obj} {xs:List V} (e:H a=some (.frz o (.lst xs))):TyOf K H (.ref a) (.type "list")
 | tup {a:Addr} {xs:List V} (e:H a=some (.tup xs)):TyOf K H (.ref a) (.type "tuple")
 | dK {a:Addr} {kvs:List (Key×V)} (e:H a=some (.dK kvs)):TyOf K H (.ref a) (.type "dict")
 | dT {a:Addr} {kvs:List (List Key×V)} (e:H a=some (.dT kvs)):TyOf K H (.ref a) (.type "dict")
 | ins {a C dx:Addr} {fs:List (Str×V)} (e:H a=some (.ins C dx fs)) (cl:Cls K C) (ha:ZI K (.ref C) "__class__"=some (some (.builtin "object.__class__")))
   (hn:PySem.W.specialIn K (.builtin "object.__class__") "__get__"=some (some (.builtin "getset_descriptor.__get__"))) (htk:PySem.W.takesIn K (.builtin "object.__class__")=some true)
   (hm:PySem.W.mroIn K C (.type "object")=some true):TyOf K H (.ref a) (.ref C)
theorem M7 {x:V}{u t:Value}(j:Inv X pins σ H s)(d:RelV x u)(r:TyOf X.K H x t)(e:PySem.W.kitOne X.K t c=some b)(h:∀tk,Q (.bool b) { s with toks:=tk }):
  wpAny (model X.prog X.w) A (call (.builtin "isinstance") [u,c]) Q E s:=by
 cases r with
 | non=>cases (show u=Fn from d);exact WG PySem.W.kitx_none j.kIn zl e (λ z=>nomatch z) h
 | bl y=>cases (show u=Mo y from d);exact WG PySem.W.kitx_bool j.kIn zl e (λ z=>nomatch z) h
 | int i=>obtain ⟨t,q⟩:=(show ∃t,u=jp i t from d);cases q;exact WG PySem.W.kitx_int j.kIn zl e (λ z=>nomatch z) h
 | str y=>obtain ⟨t,q⟩:=(show ∃t,u=NO y t from d);cases q;exact WG PySem.W.kitx_str j.kIn zl e (λ z=>nomatch z) h
 | flt y=>obtain ⟨t,q⟩:=(show ∃t,u=MR y t from d);cases q;exact WG PySem.W.kitx_float j.kIn zl e (λ z=>nomatch z) h
 | @lst a xs f=>
  cases (show u=Wp a from d)
  obtain ⟨_,_,n,_,g⟩:=(show ObjOk X.prog X.w H s.heap a (.lst xs) from j.hok a _ f)
  exact WG qS j.kIn ⟨_,g,rfl⟩ e (λ z=>nomatch z) h
 | @frz a v xs f=>
  cases (show u=Wp a from d)
  obtain ⟨_,_,_,n,_,g⟩:=(show ObjOk X.prog X.w H s.heap a (.frz v (.lst xs)) from j.hok a _ f)
  exact WG qS j.kIn ⟨_,g,rfl⟩ e (λ z=>nomatch z) h
 | @tup a xs f=>
  cases (show u=Wp a from d)
  obtain ⟨_,_,_,p⟩:=(show ObjOk X.prog X.w H s.heap a (.tup xs) from j.hok a _ f)
  obtain ⟨o,g,k,_⟩:=p;exact WG My j.kIn ⟨o,g,k⟩ e (λ z=>nomatch z) h
 | @dK a l f=>
  cases (show u=Wp a from d)
  obtain ⟨_,_,vs,_,p⟩:=(show ObjOk X.prog X.w H s.heap a (.dK l) from j.hok a _ f)
  obtain ⟨o,es,B,g,k,_⟩:=p;exact WG MG j.kIn ⟨o,g,k.1⟩ e (λ z=>nomatch z) h
 | @dT a l f=>
  cases (show u=Wp a from d)
  obtain ⟨_,_,xs,_,o,es,B,g,k,_⟩:=(show ObjOk X.prog X.w H s.heap a (.dT l) from j.hok a _ f)
  exact WG MG j.kIn ⟨o,g,k.1⟩ e (λ z=>nomatch z) h
 | @ins a C I fs f cl D F m G=>
  cases (show u=Wp a from d)
  obtain ⟨J,L,_⟩:=Og j.hok f;obtain ⟨M,N,_⟩:=L.look;exact WG (PySem.W.kitx_own (cl.get _) cl.hd D F m G) j.kIn N e (λ z=>nomatch z) h
end
structure Room (k:Nat)(A:WB):Prop where
 hd:A.handled=none
 dp:A.depth+3 * k+5 < NL
 un:A.units+16 * k+200 < cLine
theorem AJ7 {A:WB}{C:Addr}{us:List Value}{a:List (Str×Value)}:(A.under (.builtin "type.__call__" ⟨.ref C::us,a⟩)).depth=A.depth+1:=by
 first | rfl | simp [MH,Code.weight,Code.isCreation,Code.isGuard,Code.isCaller,Code.frames,MI,guardIds]
theorem wI {A:WB}{C:Addr}{us:List Value}{a:List (Str×Value)}:(A.under (.builtin "type.__call__" ⟨.ref C::us,a⟩)).units=A.units+1:=by
 first | rfl | simp [MH,Code.cUnits,Code.frames,MI]
theorem Room.make {k:Nat}{A:WB}(r:Room (k+1) A)(C:Addr)(us:List Value)(a:List (Str×Value)):Room k (A.under (.builtin "type.__call__" ⟨.ref C::us,a⟩)):=
 ⟨r.hd,by have:=r.dp;rw [AJ7];omega,by have:=r.un;rw [wI];omega⟩
def tNil:TA:=λ _ H Q=>Q [] H
def tCons (b:TE)(c:TA):TA:=λ a H Q=>b a H λ x d=>c a d λ xs e=>Q (x::xs) e
section
variable {X:Cx}{e:Expr}{es:List Expr}{te:TE}{t:TA}{pos:Pos}
theorem Aa:PA X [] tNil:=λ _ _ _ _ H Q a h=>Calls.spliced_nil ⟨[],H,a,.nil,h⟩
theorem DW (c:PE X e te)(d:PA X es t)(f:XA (e::es) X.env=(false,eval e X.env)::XA es X.env:=by rfl):PA X (e::es) (tCons te t):=by
 intro pos a s b H Q q h;rw [f];show wpAny _ _ (spliced ((false,eval e X.env)::yY pos (XA es X.env))) _ _ s;refine Calls.spliced_cons (thn (c a s b H _ q h) λ u g ⟨x,i,j,k,l⟩=>?_)
 exact thn (d pos a g b i _ j l) λ us r ⟨xs,m,n,o,p⟩=>⟨x::xs,m,n,.cons k o,p⟩
def tTup (t:TA):TE:=λ b H Q=>t b H λ xs a=>xs.length<=Y3/\∀p,a p=none->Q (.ref p) (upd a p (.tup xs))
def tLst (t:TA):TE:=λ b H Q=>t b H λ xs a=>xs.length<=Y3/\∀p,a p=none->Q (.ref p) (upd a p (.lst xs))
theorem Bp {x1}(h:PA X es t):PE X (.Tuple es x1 pos) (tTup t):=by
 intro c s g H Q j i;refine wpAny_Tuple_spliced (thn (h pos c s g H _ j i) λ us a ⟨xs,d,f,r,z,q⟩=>⟨by rw [<- r.length];exact z,?_⟩)
 have hf:d a.heap.objs.size=none:=f.hok.fresh (ZK _);refine ⟨.ref a.heap.objs.size,upd d a.heap.objs.size (.tup xs),f.laid (t':=a.toks) (λ b u e=>ZE _ e) (ZK _) ?_,rfl,q _ hf⟩
 exact ⟨z,us,r,⟨_,XU _ rfl,rfl,_,rfl⟩⟩
theorem CN (h:PA X es t):PE X (.List es pos) (tLst t):=by
 intro c s g H Q j i;refine wpAny_List_spliced (thn (h pos c s g H _ j i) λ us a ⟨xs,d,f,r,z,q⟩=>⟨by rw [<- r.length];exact z,?_⟩)
 have hf:d a.heap.objs.size=none:=f.hok.fresh (ZK _);refine ⟨.ref a.heap.objs.size,upd d a.heap.objs.size (.lst xs),f.laid (t':=a.toks) (λ b u e=>ZE _ e) (ZK _) ?_,rfl,q _ hf⟩
 exact ⟨z,us,0,r,XU _ rfl⟩
end
abbrev Sp:=List V->Hp->VK->XK->Prop
abbrev CXT:=List Env->Hp->W9->XK->Value->W9->Prop
structure Env0 (P:Yf)(w:World)(K:FrG)(mg:Str->Option Value)(base:Heap)(A:WB)(outer:List Env)(s:W9)(H:Hp):Prop where
 frames:A.frames=some outer
 mod:Mod K mg base
 bs:∀b o,base.get? b=some o->s.heap.get? b=some o/\H b=none
 bsz:base.objs.size<=s.heap.objs.size
 funs:s.heap.FunFrames base outer
 frf:∀b∈frs outer,H b=none
 hok:HOk P w H s.heap
 bare:wn s.gens
def CE (outer:List Env)(P:Yf)(w:World)(H:Hp)(s:W9)(Q:VK)(u:Value)(s':W9):Prop:=
 ∃v a,s'.os=s.os/\wn s'.gens/\Un (frs outer) [] H a s.heap s'.heap/\HOk P w a s'.heap/\RelV v u/\Q v a
def CR (CX:CXT)(outer:List Env)(P:Yf)(w:World)(H:Hp)(s:W9)(Q:VK)(E:XK)(r:Result)(s':W9):Prop:=
 match r with
 | .ok (.ret u)=>CE outer P w H s Q u s'
 | .ok _=>False
 | .error e=>CX outer H s E e s'
structure FnOk (P:Yf)(w:World)(K:FrG)(mg:Str->Option Value)(base:Heap)(CX:CXT)(k:Nat)(f:Addr)(fd:UK)(ps:List Str)(sp:Sp):Prop where
 len:∀vs H Q E,sp vs H Q E->vs.length=ps.length
 run:∀(A:WB) (outer:List Env) (s:W9) (H:Hp) (args:Args) (us:List Value) (vs:List V) (Q:VK) (E:XK),Room k A->Env0 P w K mg base A outer s H->NU s fd args (ps.zip us)->Vals vs us->sp vs H Q E->
  GL (model P w) A (.call (.ref f) args) (CR CX outer P w H s Q E) s
theorem Env0.make {P:Yf}{w:World}{K:FrG}{mg:Str->Option Value}{base:Heap}{A:WB}{outer:List Env}{s:W9}{H:Hp}(e:Env0 P w K mg base A outer s H)(C:Addr)(us:List Value)(a:List (Str×Value)):
  Env0 P w K mg base (A.under (.builtin "type.__call__" ⟨.ref C::us,a⟩)) outer s H:=⟨by first | exact e.frames | (simpa [MH,Code.envs,MI,pushEnvs] using e.frames),e.mod,e.bs,e.bsz,e.funs,e.frf,e.hok,e.bare⟩
section
variable {X:Cx}{pins:List (Addr×Obj)}{σ:St}{H:Hp}{s s':W9}
theorem Inv.env0 (a:Inv X pins σ H s):Env0 X.prog X.w X.K X.mg X.base X.A X.stack s H:=
 ⟨a.ok.frames,a.ok.mod,a.bs,Zo a.ok.bsz a.sz,a.stack,a.stkFree,a.hok,a.bare⟩
theorem Inv.after {Q:VK}{u:Value}(f:Inv X pins σ H s)(h:CE X.stack X.prog X.w H s Q u s'):EP X pins σ Q u s':=by
 obtain ⟨v,c,os,bare,un,hok,r,q⟩:=h;obtain ⟨e,g,d,t,a⟩:=s';obtain rfl:a=s.os:=os;exact ⟨v,c,f.call (h':=e) (g':=g) (d':=d) (t':=t) (ch:=[]) un hok bare (λ b z=>absurd z (by simp)),r,q⟩
end
def tCall (sp:Sp)(dvs:List V)(E:XK)(t:TA):TE:=λ a H Q=>t a H λ vs b=>sp (vs++dvs) b Q E
def tMake (C:Addr)(sp:Sp)(dvs:List V)(E:XK)(t:TA):TE:=λ c H Q=>t c H λ vs b=>∀x a,b x=none->b a=none->a≠x->
 sp (.ref x::(vs++dvs)) (upd (upd b a (.own x)) x (.ins C a [])) (λ v d=>v=.non/\Q (.ref x) d) E
def Binds (K:FrG)(fd:UK)(ps:List Str)(ds:List Value):Prop:=
 ∀(s:W9) (us:List Value),K.In s.heap->(us++ds).length=ps.length->NU s fd ⟨us,[]⟩ (ps.zip (us++ds))
theorem Binds.all {K:FrG}{fd:UK}{ps:List Str}(h:∀us:List Value,us.length=ps.length->ul fd ⟨us,[]⟩=pure (ps.zip us)):Binds K fd ps []:=λ s us _ hl=>by
 rw [YY] at hl ⊢;exact .of_eq (h us hl)
def Passes (CX:CXT)(X:Cx)(E:XK):Prop:=∀(a:List (Addr×Obj)) (b:St) (H:Hp) (s:W9) (e:Value) (s':W9),Inv X a b H s->CX X.stack H s E e s'->X.xe e s'
section
variable {X:Cx}{CX:CXT}{k:Nat}{f C:Addr}{fd:UK}{ps:List Str}{sp:Sp}{dvs:List V}{ds:List Value}{E:XK}{x m:Str}{p pos apos:Pos}{e o:Expr}{es:List Expr}{ta:TE}{t:TA}
theorem ik {a:List (Addr×Obj)}{c:St}{H:Hp}{s:W9}{Q:VK}{us:List Value}{vs:List V}(q:FnOk X.prog X.w X.K X.mg X.base CX k f fd ps sp)(i:Room k X.A)(j:Binds X.K fd ps ds)(hd:Vals dvs ds)(l:Passes CX X E)
  (g:Inv X a c H s) (r:Vals vs us) (h:sp (vs++dvs) H Q E):wpAny (model X.prog X.w) X.A (call (.ref f) us) (EP X a c Q) X.xe s:=by
 have d:Vals (vs++dvs) (us++ds):=r.append hd;have hl:(us++ds).length=ps.length:=by rw [<- d.length];exact q.len _ _ _ _ h
 refine wpAny_call (jo (q.run X.A X.stack s H ⟨us,[]⟩ (us++ds) (vs++dvs) Q E i g.env0 (j s us g.kIn hl) d h) λ r s' b=>?_)
 cases r with
 | error e=>exact l a c H s e s' g b
 | ok n=>
  cases n with
  | ret u=>exact g.after b
  | next=>exact UP b
  | brk=>exact UP b
  | cont=>exact UP b
structure Mk (K:FrG)(C f:Addr):Prop where
 makes:zb K C=true
 init:ZI K (.ref C) "__init__"=some (some (.ref f))
 fn:XZ K (.ref f)=true
 kp:Ya K (.ref C)=true
theorem iT {b:List (Addr×Obj)}{g:St}{H:Hp}{s:W9}{Q:VK}{us:List Value}{vs:List V}(M:Mk X.K C f)(L:FnOk X.prog X.w X.K X.mg X.base CX k f fd ps sp)(n:Room (k+1) X.A)(q:Binds X.K fd ps ds)(hd:Vals dvs ds)
  (y:Passes CX X E) (l:Inv X b g H s) (r:Vals vs us)
  (h:∀x c,H x=none->H c=none->c≠x->sp (.ref x::(vs++dvs)) (upd (upd H c (.own x)) x (.ins C c [])) (λ v z=>v=.non/\Q (.ref x) z) E):
  wpAny (model X.prog X.w) X.A (call (.ref C) us) (EP X b g Q) X.xe s:=by
 have i:=h (s.heap.objs.size+1) s.heap.objs.size (l.hok.fresh (qV _)) (l.hok.fresh (ZK _)) (XV (wv _));have d:=Inv.made (C:=C) l;have j:Vals (V.ref (s.heap.objs.size+1)::(vs++dvs)) (Wp (s.heap.objs.size+1)::(us++ds)):=.cons rfl (r.append hd);have hl:(Wp (s.heap.objs.size+1)::us++ds).length=ps.length:=by
  have e:=j.length;rw [L.len _ _ _ _ i] at e;exact e.symm
 refine wpAny_call (AT6 (f:=f) l.kIn M.makes M.init (beq_iff_eq.mp M.fn) (jo (L.run _ X.stack _ _ ⟨Wp (s.heap.objs.size+1)::us,[]⟩ (Wp (s.heap.objs.size+1)::(us++ds)) _ _ E (n.make C us [])
  (d.env0.make C us []) (q _ (Wp (s.heap.objs.size+1)::us) d.kIn hl) j i) λ r s' a=>?_))
 cases r with
 | error e=>exact y b g _ _ e s' d a
 | ok B=>
  cases B with
  | ret u=>
   obtain ⟨v,D,F,G,I,J⟩:=d.after a;subst I;exact ⟨G,⟨V.ref (s.heap.objs.size+1),D,F,rfl,J⟩⟩
  | next=>exact UP a
  | brk=>exact UP a
  | cont=>exact UP a
theorem zu (M:Mk X.K C f)(B:FnOk X.prog X.w X.K X.mg X.base CX k f fd ps sp)(g:Room (k+1) X.A)(i:Gl X x)(j:X.mg x=some (.ref C))(l:Binds X.K fd ps ds)(hd:Vals dvs ds)(n:Passes CX X E)
  (u:PA X (e::es) t) (b:(x == ("__debug__":Str))=false:=by decide) (v:XA (e::es) X.env=(false,eval e X.env)::XA es X.env:=by rfl) (c:(yY pos (XA es X.env)).any (·.1)=false:=by rfl):
  PE X (.Call (.Name x p) (e::es) [] pos) (tMake C sp dvs E t):=by
 intro a s y H Q z h;refine QT (M9 z i j ?_ b);refine yb (h₀:=X.base) z.ok.mod.kin M.kp (thn (u pos a s y H _ z h) λ us D ⟨vs,F,d,r,q⟩=>⟨d.kIn,?_⟩) v c
 exact iT M B g l hd n d r q
theorem AV5 (M:Mk X.K C f)(n:FnOk X.prog X.w X.K X.mg X.base CX k f fd ps sp)(b:Room (k+1) X.A)(c:Gl X x)(d:X.mg x=some (.ref C))(g:Binds X.K fd ps ds)(hd:Vals dvs ds)(i:Passes CX X E)
  (a:(x == ("__debug__":Str))=false:=by decide):PE X (.Call (.Name x p) [] [] pos) (tMake C sp dvs E tNil):=by
 intro j s q H Q l h;refine QT (M9 l c d ?_ a);exact NY l.kIn M.kp (iT (us:=[]) M n b g hd i l .nil h)
end
structure FnScope (N P:List Str)(sc:Scope):Prop where
 kind:sc.kind=.function
 co:sc.isCoroutine=false
 gen:sc.isGenerator=false
 nd:N.Nodup
 pre:N.take P.length=P
 par:∀x∈P,sc.names.lookup x=some .local\/sc.names.lookup x=some .cell
 nofree:∀y∈sc.names,y.2≠.free
theorem j7 {kindOf:Str->Option UM}{x:Str}:∀{binds:List (Str×Value)} {m:Str->Option Value},(∀v,(x,v)∉binds)->bindL kindOf binds m x=m x
 | [],_,_=>rfl
 | (n,v)::r,m,h=>by
  unfold bindL;rw [j7 λ w a=>h w (Y9 _ a)]
  split
  ·have:x≠n:=by rintro rfl;exact h v U1
   simp [this]
  ·rfl
theorem lB {kindOf:Str->Option UM}{x:Str}:∀{binds:List (Str×Value)} {m:Str->Option Value},(∀v,(x,v)∉binds)->bindC kindOf binds m x=m x
 | [],_,_=>rfl
 | (n,v)::r,m,h=>by
  unfold bindC;rw [lB λ w a=>h w (Y9 _ a)]
  split
  ·rfl
  ·have:x≠n:=by rintro rfl;exact h v U1
   simp [this]
theorem jJ {kindOf:Str->Option UM}{x:Str}{v:Value}:∀{P:List Str} {vs:List Value} {i:Nat} {m:Str->Option Value},P.Nodup->P[i]?=some x->vs[i]?=some v->kindOf x=some .local->
  bindL kindOf (P.zip vs) m x=some v
 | [],_,_,_,_,h,_,_=>by simp at h
 | _::_,[],_,_,_,_,h,_=>by simp at h
 | p::P,w::vs,0,m,nd,a,b,c=>by
  simp at a b;subst a;subst b
  show bindL kindOf ((p,w)::P.zip vs) m p=_;unfold bindL;rw [j7 λ v hv=>(XO.mp nd).1 (FV hv).1,if_pos c]
  simp
 | p::P,w::vs,i+1,m,nd,a,b,c=>by
  show bindL kindOf ((p,w)::P.zip vs) m x=_;unfold bindL;exact jJ (i:=i) (XO.mp nd).2 (by simpa using a) (by simpa using b) c
theorem iI {kindOf:Str->Option UM}{x:Str}{v:Value}:∀{P:List Str} {vs:List Value} {i:Nat} {m:Str->Option Value},P.Nodup->P[i]?=some x->vs[i]?=some v->kindOf x≠some .local->
  bindC kindOf (P.zip vs) m x=some v
 | [],_,_,_,_,h,_,_=>by simp at h
 | _::_,[],_,_,_,_,h,_=>by simp at h
 | p::P,w::vs,0,m,nd,a,b,c=>by
  simp at a b;subst a;subst b
  show bindC kindOf ((p,w)::P.zip vs) m p=_;unfold bindC;rw [lB λ v hv=>(XO.mp nd).1 (FV hv).1,if_neg c]
  simp
 | p::P,w::vs,i+1,m,nd,a,b,c=>by
  show bindC kindOf ((p,w)::P.zip vs) m x=_;unfold bindC;exact iI (i:=i) (XO.mp nd).2 (by simpa using a) (by simpa using b) c
def start (N:List Str)(vs:List V):St:=vs.map some++XE (N.length - vs.length) none
def cxOf (CX:CXT)(P:Yf)(w:World)(K:FrG)(mg:Str->Option Value)(base:Heap)(N:List Str)(b:Str)(a:Scope)(f:Addr)(c:Value)(A:WB)(outer:List Env)(s:W9)(H:Hp)(E:XK):Cx where
 prog:=P
 w:=w
 K:=K
 mg:=mg
 base:=base
 A:=A.deeper (wo b a s.heap.objs.size f c)
 N:=N
 s₀:=s
 H₀:=H
 env:=wo b a s.heap.objs.size f c
 outer:=outer
 stack:=wo b a s.heap.objs.size f c::outer
 ex:=[]
 calm:=true
 fn:=λ _=>true
 pn:=[]
 xe:=λ e s'=>wpAny (model P w) (A.deeper (wo b a s.heap.objs.size f c)) (leaving (wo b a s.heap.objs.size f c) e) (λ _ d=>CX outer H s E e d) (λ g d=>CX outer H s E g d) s'
theorem WR {a:Scope}{n:Nat}{x:Str}(h:a.names.lookup x=some .cell):∃c,(cellsFrom n a.names []).lookup x=some c:=by
 have q:=FA a.names n [] (.inl h);exact GN.mp q
section
variable {X:Cx}{x:Str}{p pos:Pos}{e:Expr}{es:List Expr}{t:TA}{id T:String}{r:List V->Hp->VK->Prop}
def tCB (r:List V->Hp->VK->Prop)(t:TA):TE:=λ a H Q=>t a H λ vs b=>r vs b Q
theorem Br (f:CallR X (.builtin id) r)(g:Gl X x)(i:X.mg x=none)(hv:WZ x=some (.builtin id))(j:PA X (e::es) t)(k:x≠"__name__":=by decide)(b:(x == ("__debug__":Str))=false:=by decide)
  (l:XA (e::es) X.env=(false,eval e X.env)::XA es X.env:=by rfl) (c:(yY pos (XA es X.env)).any (·.1)=false:=by rfl):PE X (.Call (.Name x p) (e::es) [] pos) (tCB r t):=by
 intro a s d H Q v h;refine QT (Je v g i hv ?_ k b);exact PyProof.Rows.callWith_builtin1 (thn (j pos a s d H _ v h) λ us m ⟨vs,n,o,q,u⟩=>f a m d n vs us Q o q u) l c
theorem HQ (f:CallR X (.type T) r)(g:Gl X x)(i:X.mg x=none)(hv:WZ x=some (.type T))(j:PA X (e::es) t)(k:x≠"__name__":=by decide)(b:(x == ("__debug__":Str))=false:=by decide)
  (l:XA (e::es) X.env=(false,eval e X.env)::XA es X.env:=by rfl) (c:(yY pos (XA es X.env)).any (·.1)=false:=by rfl):PE X (.Call (.Name x p) (e::es) [] pos) (tCB r t):=by
 intro a s d H Q v h;refine QT (Je v g i hv ?_ k b);exact QA (thn (j pos a s d H _ v h) λ us m ⟨vs,n,o,q,u⟩=>f a m d n vs us Q o q u) l c
end
end L2
namespace HT
open PySem PyProof.Rows
section
variable {prog:Yf}{w:World}{A:WB}{E:Value->W9->Prop}{s:W9}
def sIx (n d:Nat):Option Int->Nat
 | none=>d
 | some v=>if v < 0 then (v+(n:Int)).toNat else min v.toNat n
theorem Lf (n d:Nat):sIx n d none=d:=rfl
theorem HR (n d k:Nat):sIx n d (some (k:Int))=min k n:=by
 show (if (k:Int) < 0 then ((k:Int)+(n:Int)).toNat else min (k:Int).toNat n)=min k n
 rw [if_neg (by omega),xa]
theorem AO2 (n d:Nat)(hd:d<=n)(o:Option Int):sIx n d o<=n:=by
 cases o with
 | none=>exact hd
 | some v=>
  show (if v < 0 then (v+(n:Int)).toNat else min v.toNat n)<=n
  by_cases hv:v < 0
  ·rw [if_pos hv];omega
  ·rw [if_neg hv];exact Nat.min_le_right _ _
theorem jK (v:Int)(n d:Nat):(if v < 0 then max (v+(n:Int)) 0 else min v (n:Int))=((sIx n d (some v):Nat):Int):=by
 show (if v < 0 then max (v+(n:Int)) 0 else min v (n:Int))=(((if v < 0 then (v+(n:Int)).toNat else min v.toNat n):Nat):Int)
 by_cases hv:v < 0
 ·simp only [if_pos hv];omega
 ·simp only [if_neg hv];omega
theorem rC (lo hi:Option Int)(n:Nat):xp lo hi 1 (n:Int)=(((sIx n 0 lo:Nat):Int),((sIx n n hi:Nat):Int)):=by
 have a:¬ ((1:Int) < 0):=by omega
 unfold xp;simp only [a,if_false];refine Uv ?_ ?_
 ·cases lo with
  | none=>rfl
  | some v=>exact jK v n 0
 ·cases hi with
  | none=>rfl
  | some v=>exact jK v n n
theorem zR (i j:Nat):QY (i:Int) (j:Int) 1=j - i:=by
 unfold QY;have a:(1:Int) > 0:=by omega
 simp only [a,if_true,Int.ediv_one]
 split<;>omega
theorem lG {v:Value}{o:Option Int}{Q:Option Int->W9->Prop}(p:IsPart v o)(h:Q o s):wpAny (model prog w) A (Ue.Slice.slicePartIndex v) Q E s:=by
 cases p with
 | none=>exact slicePart_none h
 | int i t=>exact slicePart_int h
theorem yp {e:Addr}{c d:Value}{lo hi:Option Int}{n:Nat}{Q:Int×Int×Nat->W9->Prop}(f:s.heap.IsSliceOf e c d .none)(pl:IsPart c lo)(g:IsPart d hi)
  (h:Q (((sIx n 0 lo:Nat):Int),1,sIx n n hi - sIx n 0 lo) s):wpAny (model prog w) A (qa (.ref e) (pure (n:Int))) Q E s:=by
 obtain ⟨os,a,i,b⟩:=id f;unfold qa Ue.Slice.sliceFields;refine ZA (ZA (wpAny_field a b (x:=c) rfl (ZA (wpAny_field a b (x:=d) rfl (ZA (wpAny_field a b (x:=.none) rfl (Yq ?_)))))));refine ZA (slicePart_none ?_);show wpAny _ _ (if ((1:Int) == 0)=true then _ else _) _ _ s
 rw [if_neg (by decide)]
 refine ZA (lG pl (ZA (lG g (ZA (Yq ?_)))));show wpAny _ _ (match xp lo hi 1 (n:Int) with | (lo,hi)=>pure (lo,(1:Int),QY lo hi 1)) _ _ s
 rw [rC lo hi n];show wpAny _ _ (pure (((sIx n 0 lo:Nat):Int),(1:Int),QY ((sIx n 0 lo:Nat):Int) ((sIx n n hi:Nat):Int) 1)) _ _ s;rw [zR];exact Yq h
theorem AI0 (xs:Array Value)(i k:Nat):((Wc k).filterMap λ (m:Nat)=>xs[((i:Int)+(m:Int) * 1).toNat]?).toArray=((xs.toList.drop i).take k).toArray:=by
 have e:(λ (m:Nat)=>xs[((i:Int)+(m:Int) * 1).toNat]?)=λ m=>xs[i+m]?:=by
  funext m
  have:((i:Int)+(m:Int) * 1).toNat=i+m:=by omega
  rw [this]
 rw [e];have:=pick_run xs i k;rw [xA] at this;have e2:((λ x=>xs[x]?) ∘ λ x=>i+x)=λ m=>xs[i+m]?:=rfl
 rw [e2] at this;rw [this]
theorem Ag0 {t c:Addr}{items:Array Value}{d e:Value}{lo hi:Option Int}{Q:Value->W9->Prop}(b:IsTup s.heap t items)(f:s.heap.IsSliceOf c d e .none)(pl:IsPart d lo)(l:IsPart e hi)
  (n:¬ (sIx items.size 0 lo=0/\sIx items.size items.size hi=items.size))
  (h:Q (.ref s.heap.objs.size) { s with heap:=s.heap.push { cls:=.type "tuple",data:=.seq ((items.toList.drop (sIx items.size 0 lo)).take (sIx items.size items.size hi - sIx items.size 0 lo)).toArray } })
  (hsz:items.size<=Y3):wpAny (model prog w) A (GI (.ref t) (.ref c)) Q E s:=by
 have a:sizeOk (.seq ((items.toList.drop (sIx items.size 0 lo)).take (sIx items.size items.size hi - sIx items.size 0 lo)).toArray):=by
  show ((items.toList.drop (sIx items.size 0 lo)).take (sIx items.size items.size hi - sIx items.size 0 lo)).toArray.size<=Y3;rw [ZY,YR,JF,UF];omega
 have p:sIx items.size items.size hi<=items.size:=AO2 _ _ (ZK _) hi;obtain ⟨os,g,i,o⟩:=id f;have j:s.TypeIs (.ref c) "slice":=⟨os,g,i⟩;unfold GI
 try with_reducible refine QL ?_
 first | refine ZA (Yq ?_) | skip
 refine ZA (wpAny_sequenceKey b.typeIs (by decide) ?_)
 refine ZA (wpAny_callSpecial?_slot (name:=Z3 "__getitem__") b.typeIs zw
  (wpAny_call_entry zw b.typeIs entry_tuple_getitem ?_ (args_tuple_getitem _ _)))
 show wpAny _ _ (Ue.Tuple.tupleItemsOf (.ref t) >>= _) _ _ s;refine ZA (tupleItemsOf_ b ?_);refine ZA (wpAny_typeOf j ?_);rw [if_pos (by decide)]
 refine ZA (yp f pl l ?_);have k:¬ ((((sIx items.size 0 lo:Nat):Int) == 0 && (1:Int) == 1 && (sIx items.size items.size hi - sIx items.size 0 lo) == items.size)=true):=by
  intro q;rw [QM,QM] at q;have r:((sIx items.size 0 lo:Nat):Int)=0:=eq_of_beq q.1.1;have u:sIx items.size items.size hi - sIx items.size 0 lo=items.size:=eq_of_beq q.2;exact n ⟨by omega,by omega⟩
 show wpAny _ _ (if (((sIx items.size 0 lo:Nat):Int) == 0 && (1:Int) == 1 && (sIx items.size items.size hi - sIx items.size 0 lo) == items.size)=true then _ else _) _ _ s
 rw [if_neg k,AI0]
 first
  | exact ZA (m:=zn _) (zk (Yq ⟨_,rfl,Yq h⟩) a)
  | exact ZA (m:=zn _) (zk (ZA (Yq (Yq ⟨_,rfl,Yq h⟩))) a)
  | exact ZA (ZA (m:=zn _) (zk (Yq (Yq ⟨_,rfl,Yq h⟩)) a))
  | exact ZA (ZA (m:=zn _) (zk (Yq ⟨_,rfl,Yq h⟩) a))
end
end HT
namespace L2
open PySem PySem.Spec PyProof.Rows
abbrev TO:=St->Hp->(Option Int->Hp->Prop)->Prop
def PO (X:Cx)(e:Option Expr)(t:TO):Prop:=
 ∀(a:List (Addr×Obj)) (s:W9) (b:St) (H:Hp) (Q:Option Int->Hp->Prop),Inv X a b H s->t b H Q->
  wpAny (model X.prog X.w) X.A (evalPart e X.env) (λ u s'=>∃o c,Inv X a b c s'/\IsPart u o/\Q o c) X.xe s
def tNoPart:TO:=λ _ H Q=>Q none H
def tPart (t:TE):TO:=λ a H Q=>t a H λ x b=>∃i,x=.int i/\Q (some i) b
section
variable {X:Cx}{e:Expr}{te:TE}{lo hi:Option Expr}{tl th:TO}{pos p2:Pos}
theorem Fj:PO X none tNoPart:=by
 intro a s b H Q c h;rw [evalPart_none];exact Yq ⟨none,H,c,.none,h⟩
theorem Dy (h:PE X e te):PO X (some e) (tPart te):=by
 intro a s b H Q k c;rw [evalPart_some];refine thn (h a s b H _ k c) λ u l ⟨x,d,f,g,j⟩=>?_
 obtain ⟨i,rfl,q⟩:=j;obtain ⟨t,rfl⟩:=g;exact ⟨some i,d,f,.int i t,q⟩
def SlR (X:Cx)(r:V->Option Int->Option Int->Hp->VK->Prop):Prop:=
 ∀(a:List (Addr×Obj)) (s:W9) (b:St) (H:Hp) (x:V) (v c d:Value) (lo hi:Option Int) (f:Addr) (Q:VK),Inv X a b H s->RelV x v->s.heap.IsSliceOf f c d .none->IsPart c lo->IsPart d hi->r x lo hi H Q->
  ∃T id,typeLookup (.type T) "__getitem__"=pure (some (.builtin id))/\s.TypeIs v T/\wpAny (model X.prog X.w) X.A (GI v (.ref f)) (EP X a b Q) X.xe s
def tSl (r:V->Option Int->Option Int->Hp->VK->Prop)(te:TE)(tl th:TO):TE:=λ a H Q=>te a H λ x b=>tl a b λ l c=>th a c λ u d=>r x l u d Q
theorem Em {r:V->Option Int->Option Int->Hp->VK->Prop}(j:SlR X r)(k:PE X e te)(hl:PO X lo tl)(m:PO X hi th):PE X (.Subscript e (.Slice lo hi none p2) pos) (tSl r te tl th):=by
 intro a s d H Q M h;refine Subscript_ (thn (k a s d H _ M h) λ v n ⟨x,o,p,t,y⟩=>?_)
 refine wpAny_Slice (thn (hl a n d o _ p y) λ f z ⟨l,B,C,pl,D⟩=>thn (m a z d B _ C D) λ g c ⟨u,i,E,F,G⟩=>?_)
 rw [evalPart_none];refine Yq ?_;have I:Inv X a d i { c with heap:=c.heap.push { cls:=.type "slice",data:=.fields #[f,g,.none] } }:=E.kept (t':=c.toks) λ b N q=>ZE _ q
 obtain ⟨T,id,J,K,L⟩:=j a { c with heap:=c.heap.push { cls:=.type "slice",data:=.fields #[f,g,.none] } } d i x v f g l u c.heap.objs.size Q I t (Heap.IsSliceOf.new ..) pl F G
 show wpAny (model X.prog X.w) X.A (subscriptTail e (.Slice lo hi none p2) v (.ref c.heap.objs.size)) (EP X a d Q) X.xe { c with heap:=c.heap.push { cls:=.type "slice",data:=.fields #[f,g,.none] } }
 exact tail_any (ops:=[.ref c.heap.objs.size,v]) K J L (by with_unfolding_all rfl)
def cutV (xs:List V)(lo hi:Option Int):List V:=(xs.drop (HT.sIx xs.length 0 lo)).take (HT.sIx xs.length xs.length hi - HT.sIx xs.length 0 lo)
theorem mV (xs:List V)(lo hi:Option Int):(cutV xs lo hi).length<=xs.length:=by
 unfold cutV;rw [YR,JF];omega
inductive rSlT (K:FrG)(x:V)(lo:Option Int)(hi:Option Int)(H:Hp)(Q:VK):Prop | mk:∀a xs,(x=.ref a)->(SqT K H a xs)->(¬ (HT.sIx xs.length 0 lo=0/\HT.sIx xs.length xs.length hi=xs.length))->(∀p,H p=none->Q (.ref p) (upd H p (.tup (cutV xs lo hi))))->rSlT K x lo hi H Q
theorem WN:SlR X (rSlT X.K):=by
 intro g s p H x v t u lo hi w Q i j k pl l h;obtain ⟨a,xs,rfl,m,n,q⟩:=h;cases j
 obtain ⟨its,r,d,f⟩:=i.tuple m;have c:its.toArray.size=xs.length:=by rw [ZY];exact r.length.symm
 refine ⟨"tuple",_,zw.lookup,d.typeIs,?_⟩;refine HT.Ag0 d k pl l (by rw [c];exact n) ?_ (by rw [c];exact f)
 rw [c];refine ⟨.ref s.heap.objs.size,_,i.laid (t':=s.toks) (o:=.tup (cutV xs lo hi)) (λ b y q=>ZE _ q) (ZK _) ?_,rfl,q _ (i.hok.fresh (ZK _))⟩
 exact ⟨Zo (mV xs lo hi) f,_,(r.drop (HT.sIx xs.length 0 lo)).take (HT.sIx xs.length xs.length hi - HT.sIx xs.length 0 lo),IsTup.new _ _⟩
end
def ixN (n:Nat)(i:Int):Option Nat:=if 0<=i then (if i < n then some i.toNat else none) else if -(n:Int)<=i then some (i+n).toNat else none
def atI {a:Type}(xs:List a)(i:Int):Option a:=(ixN xs.length i).bind λ j=>xs[j]?
theorem jB {n:Nat}{i:Int}{j:Nat}(h:ixN n i=some j):seqIndex? i n=some j/\j < n/\-(n:Int)<=i/\i < n:=by
 unfold ixN at h;by_cases b:0<=i
 ·rw [if_pos b] at h;by_cases a:i < n
  ·rw [if_pos a] at h;have e:i.toNat=j:=XM h;exact ⟨by rw [seqIndex_of b a,e],by omega,by omega,a⟩
  ·rw [if_neg a] at h;cases h
 ·rw [if_neg b] at h;by_cases a:-(n:Int)<=i
  ·rw [if_pos a] at h;have e:(i+n).toNat=j:=XM h;exact ⟨by rw [seqIndex_neg (by omega) a,e],by omega,a,by omega⟩
  ·rw [if_neg a] at h;cases h
theorem oJ {a:Type}{xs:List a}{i:Int}{v:a}(h:atI xs i=some v):∃j,seqIndex? i xs.length=some j/\xs[j]?=some v/\j < xs.length/\-(xs.length:Int)<=i/\i < xs.length:=by
 unfold atI at h;cases e:ixN xs.length i with
 | none=>rw [e] at h;cases h
 | some j=>
  rw [e] at h;obtain ⟨b,c,d,f⟩:=jB e;exact ⟨j,b,h,c,d,f⟩
theorem Bh {a:Type}{xs:List a}{j:Nat}{v:a}(h:xs[j]?=some v):atI xs (j:Int)=some v:=by
 have b:j < xs.length:=(Yn.mp h).1;have e:ixN xs.length (j:Int)=some j:=by
  unfold ixN;rw [if_pos (by omega),if_pos (by omega)];simp
 unfold atI;rw [e];exact h
theorem Ad7 {a:Type}(xs:List a)(v:a):atI (xs++[v]) (-1)=some v:=by
 have hl:(xs++[v]).length=xs.length+1:=by simp
 have e:ixN (xs++[v]).length (-1)=some xs.length:=by
  unfold ixN;rw [hl,if_neg (by decide),if_pos (by omega)]
  congr 1
  omega
 unfold atI;rw [e];show (xs++[v])[xs.length]?=some v;simp
def PlainIx (b:Expr):Prop:=∀o i,GH b false o i=operate [o,i] (GI o i)
def IxR (X:Cx)(r:R2):Prop:=
 ∀(c a:Expr) (b:List (Addr×Obj)) (s:W9) (d:St) (H:Hp) (x y:V) (v u:Value) (Q:VK),Inv X b d H s->RelV x v->RelV y u->r x y H Q->
  GH a false v u=operate [v,u] (GI v u)->wpAny (model X.prog X.w) X.A (subscriptTail c a v u) (EP X b d Q) X.xe s
def MtR (X:Cx)(id:String)(r:V->List V->Hp->VK->Prop):Prop:=
 ∀(a:List (Addr×Obj)) (s:W9) (b:St) (H:Hp) (x:V) (xs:List V) (v:Value) (us:List Value) (Q:VK),Inv X a b H s->RelV x v->Vals xs us->r x xs H Q->
  wpAny (model X.prog X.w) X.A (call (.builtin id) (v::us)) (EP X a b Q) X.xe s
section
variable {X:Cx}{a b:Expr}{ta tb:TE}{pos:Pos}
theorem Ae {r:R2}(d:IxR X r)(e:PE X a ta)(f:PE X b tb)(g:PlainIx b:=by exact λ _ _=>rfl):PE X (.Subscript a b pos) (tOp r ta tb):=by
 intro c s i H Q n h;exact Subscript_ (binT e f n h λ v u j x y k l m ry q=>d a b c j i k x y v u Q l m ry q (g _ _))
inductive rIxL (K:FrG)(x:V)(y:V)(H:Hp)(Q:VK):Prop | mk:∀p xs i v,(x=.ref p)->(y=.int i)->(SqL K H p xs)->(atI xs i=some v)->(Q v H)->rIxL K x y H Q
inductive rIxT (K:FrG)(x:V)(y:V)(H:Hp)(Q:VK):Prop | mk:∀p xs i v,(x=.ref p)->(y=.int i)->(SqT K H p xs)->(atI xs i=some v)->(Q v H)->rIxT K x y H Q
theorem Az:IxR X (rIxL X.K):=by
 intro o A c s g H x y v u Q I B ry h k;obtain ⟨p,xs,i,z,rfl,rfl,C,D,q⟩:=h;cases B
 obtain ⟨t,rfl⟩:=ry;obtain ⟨its,r,pl,J⟩:=I.list C;obtain ⟨j,d,E,L,F,G⟩:=oJ D;obtain ⟨w,l,m⟩:=r.get E;have hl:=r.length;have M:=line63;have e:EP X c g Q w s:=⟨z,H,I,m,q⟩;by_cases n:0<=i
 ·have f:i.toNat=j:=by
   rw [seqIndex_of n G] at d;exact XM d
  exact item_listR pl.isList n (by omega) (by rw [f];simpa using l) e k
 ·have f:(i+(its.toArray.size:Int)).toNat=j:=by
   rw [seqIndex_neg (by omega) F] at d
   rw [ZY,<- hl];exact XM d
  exact subscriptTail_builtinR (x:=w) pl.isList.typeIs slot_list_getitem.lookup
   (wpAny_getItem_list_neg (Q:=λ r s'=>r=w/\EP X c g Q r s') pl.isList (by omega) (by rw [ZY]<;>omega) (by omega) (by rw [f];simpa using l) ⟨rfl,e⟩) k
theorem Al:IxR X (rIxT X.K):=by
 intro g k c s d H x y v u Q D l ry h m;obtain ⟨p,xs,i,z,rfl,rfl,n,o,q⟩:=h;cases l
 obtain ⟨t,rfl⟩:=ry;obtain ⟨its,r,pl,E⟩:=D.tuple n;obtain ⟨j,A,B,F,G,I⟩:=oJ o;obtain ⟨w,C,e⟩:=r.get B;have hl:=r.length;have J:=line63;have f:EP X c d Q w s:=⟨z,H,D,e,q⟩;exact subscriptTail_builtinR (x:=w) pl.typeIs slot_tuple_getitem.lookup
  (getItem_tuple (j:=j) (Q:=λ r s'=>r=w/\EP X c d Q r s') pl (by omega) (by omega) (by rw [ZY,<- hl];exact A) (by simpa using C) ⟨rfl,f⟩) m
theorem vN (its:List Value)(n j:Nat)(u:Value):FB (·.setIfInBounds j u) { cls:=.type "list",data:=.seq its.toArray n }={ cls:=.type "list",data:=.seq (its.set j u).toArray n }:=by
 simp [FB]
theorem Inv.lst {c:List (Addr×Obj)}{d:St}{H:Hp}{s:W9}{p:Addr}{xs:List V}(f:Inv X c d H s)(h:H p=some (.lst xs)):
  ∃(its:List Value) (n:Nat),Vals xs its/\s.heap.get? p=some { cls:=.type "list",data:=.seq its.toArray n }/\xs.length<=Y3:=by
 obtain ⟨z,its,n,r,e⟩:=f.hok p _ h;exact ⟨its,n,r,e,z⟩
theorem Inv.lstUpd {c:List (Addr×Obj)}{i:St}{H:Hp}{s:W9}{p:Addr}{xs d:List V}{its its':List Value}{n g:Nat}{f:Obj->Obj}(m:Inv X c i H s)(h:H p=some (.lst xs))
  (j:s.heap.get? p=some { cls:=.type "list",data:=.seq its.toArray n }) (hf:f { cls:=.type "list",data:=.seq its.toArray n }={ cls:=.type "list",data:=.seq its'.toArray g }) (r:Vals d its') (k:d.length<=Y3) (t:Nat):
  Inv X c i (upd H p (.lst d)) { s with heap:=s.heap.update p f,toks:=t }:=by
 have e:(s.heap.update p f).get? p=some { cls:=.type "list",data:=.seq its'.toArray g }:=by
  rw [Heap.get?_update_self f j (by rw [hf]<;>rfl),hf]
 refine m.write (x:=p) (e:=p) (by rw [h];trivial) (.inl rfl) (λ b u l q=>(FC _ _ (UX l)).trans q) ⟨_,e⟩ ?_
 exact ⟨k,its',g,r,e⟩
inductive rSetL (o:V)(i:V)(v:V)(H:Hp)(Q:(Hp->Prop)):Prop | mk:∀p xs k j,(o=.ref p)->(i=.int k)->(H p=some (.lst xs))->(ixN xs.length k=some j)->(Q (upd H p (.lst (xs.set j v))))->rSetL o i v H Q
theorem Jb:PSet X rSetL:=by
 intro d s y H o i v F G u Q E z A B h;obtain ⟨p,xs,k,j,rfl,rfl,g,C,q⟩:=h;cases z
 obtain ⟨t,rfl⟩:=A;obtain ⟨its,n,r,e,D⟩:=E.lst g;obtain ⟨c,I,l,m⟩:=jB C;have hl:=r.length;have J:=line63;have w:Inv X d y (upd H p (.lst (xs.set j v))) { s with heap:=s.heap.update p (FB (·.setIfInBounds j u)) }:=
  E.lstUpd g e (vN its n j u) (r.set B j) (by rw [ur];exact D) s.toks
 by_cases x:0<=k
 ·have f:k.toNat=j:=by
   rw [seqIndex_of x m] at c;exact XM c
  exact PySem.W.ki_setAt e x (by omega) (by rw [ZY,<- hl];exact m) (by rw [f];exact ⟨_,w,q⟩)
 ·have f:(k+(its.toArray.size:Int)).toNat=j:=by
   rw [seqIndex_neg (by omega) l] at c
   rw [ZY,<- hl];exact XM c
  exact PySem.W.ki_setBack e (by omega) (by rw [ZY,<- hl];exact l) (by omega) (by rw [f];exact ⟨_,w,q⟩)
theorem uF (lo hi:Option Int)(n:Nat):(wb lo hi none n).1=((HT.sIx n 0 lo:Nat):Int)/\(wb lo hi none n).2.1=((HT.sIx n n hi:Nat):Int)/\(wb lo hi none n).2.2=1:=by
 refine ⟨?_,?_,rfl⟩
 ·cases lo with
  | none=>simp [wb,HT.sIx]
  | some i=>
   simp only [wb,HT.sIx,Option.getD_none,show (1:Int) > 0 by decide,if_true]
   by_cases h:i < 0
   ·simp only [h,if_true]<;>omega
   ·simp only [h,if_false]<;>omega
 ·cases hi with
  | none=>simp [wb,HT.sIx]
  | some i=>
   simp only [wb,HT.sIx,Option.getD_none,show (1:Int) > 0 by decide,if_true]
   by_cases h:i < 0
   ·simp only [h,if_true]<;>omega
   ·simp only [h,if_false]<;>omega
theorem Ae4 (its:List Value)(lo hi:Option Int):slicePick its.toArray lo hi none=((its.drop (HT.sIx its.length 0 lo)).take (HT.sIx its.length its.length hi - HT.sIx its.length 0 lo)).toArray:=by
 obtain ⟨c,d,e⟩:=uF lo hi its.toArray.size;unfold slicePick;rw [c,d,e];simp only [sliceRange_one,pick_run,ZY]<;>rfl
inductive rSlL (K:FrG)(x:V)(lo:Option Int)(hi:Option Int)(H:Hp)(Q:VK):Prop | mk:∀a xs,(x=.ref a)->(SqL K H a xs)->(∀p,H p=none->Q (.ref p) (upd H p (.lst (cutV xs lo hi))))->rSlL K x lo hi H Q
theorem Ja:SlR X (rSlL X.K):=by
 intro e s m H x v n p lo hi t Q f g i pl j h;obtain ⟨a,xs,rfl,k,q⟩:=h;cases g
 obtain ⟨its,r,d,l⟩:=f.list k;have c:=r.length;refine ⟨"list",_,slot_list_getitem.lookup,d.isList.typeIs,?_⟩;refine wpAny_getItem_list_slice d.isList i pl j .none (by simp) ?_ (by rw [ZY]<;>omega)
 rw [Ae4,<- c];refine ⟨.ref s.heap.objs.size,_,f.laid (t':=s.toks) (o:=.lst (cutV xs lo hi)) (λ b u q=>ZE _ q) (ZK _) ?_,rfl,q _ (f.hok.fresh (ZK _))⟩
 exact ⟨Zo (mV xs lo hi) l,_,0,(r.drop (HT.sIx xs.length 0 lo)).take (HT.sIx xs.length xs.length hi - HT.sIx xs.length 0 lo),XU _ rfl⟩
def flatV:V->Bool
 | .non=>true
 | .bl _=>true
 | .int _=>true
 | .str _=>true
 | _=>false
def eqV:V->V->Bool
 | .non,.non=>true
 | .bl a,.bl b=>a == b
 | .bl a,.int b=>(if a then 1 else 0) == b
 | .int a,.bl b=>a == (if b then 1 else 0)
 | .int a,.int b=>a == b
 | .str a,.str b=>a == b
 | _,_=>false
theorem AZ1 {A:WB}{s:W9}{y x:V}{u v:Value}(ry:RelV y u)(c:RelV x v)(e:flatV y=true)(d:flatV x=true):WU A s u v (eqV y x):=by
 cases y with
 | non=>
  cases ry
  cases x with
  | non=>cases c;exact WU.same _
  | bl b=>cases c;exact WU.none_bool b
  | int b=>obtain ⟨t,rfl⟩:=c;exact WU.none_int b t
  | str b=>obtain ⟨t,rfl⟩:=c;exact WU.none_str b t
  | _=>exact absurd (show false=true from d) ZH
 | bl a=>
  cases ry
  cases x with
  | non=>cases c;exact WU.bool_none a
  | bl b=>cases c;exact WU.bool_bool a b
  | int b=>obtain ⟨t,rfl⟩:=c;exact WU.bool_int a b t
  | str b=>obtain ⟨t,rfl⟩:=c;exact WU.bool_str a b t
  | _=>exact absurd (show false=true from d) ZH
 | int a=>
  obtain ⟨t',rfl⟩:=ry;cases x with
  | non=>cases c;exact WU.int_none a t'
  | bl b=>cases c;exact WU.int_bool a t' b
  | int b=>obtain ⟨t,rfl⟩:=c;exact WU.int_int a t' b t
  | str b=>obtain ⟨t,rfl⟩:=c;exact Mf a t' b t
  | _=>exact absurd (show false=true from d) ZH
 | str a=>
  obtain ⟨t',rfl⟩:=ry;cases x with
  | non=>cases c;exact WU.str_none a t'
  | bl b=>cases c;exact WU.str_bool a t' b
  | int b=>obtain ⟨t,rfl⟩:=c;exact Mn a t' b t
  | str b=>obtain ⟨t,rfl⟩:=c;exact WU.str_str a t' b t
  | _=>exact absurd (show false=true from d) ZH
 | _=>exact absurd (show false=true from e) ZH
def eqU (x:V)(u:Value):Bool:=match u with
 | .none=>eqV .non x
 | .bool b=>eqV (.bl b) x
 | .int i _=>eqV (.int i) x
 | .str z _=>eqV (.str z) x
 | _=>false
theorem aJ {x y:V}{u:Value}(r:RelV y u)(f:flatV y=true):eqU x u=eqV y x:=by
 cases y with
 | non=>cases r;rfl
 | bl b=>cases r;rfl
 | int i=>obtain ⟨t,rfl⟩:=r;rfl
 | str z=>obtain ⟨t,rfl⟩:=r;rfl
 | _=>exact absurd (show false=true from f) ZH
theorem WX {x:V}:∀{xs:List V} {us:List Value},Vals xs us->xs.all flatV=true->us.any (eqU x)=xs.any λ y=>eqV y x
 | _,_,.nil,_=>rfl
 | y::xs,u::us,.cons r t,f=>by
  rw [GO,QM] at f;rw [JI,JI,aJ r f.1,WX t f.2]
theorem ZC {A:WB}{s:W9}{x:V}{v:Value}(d:RelV x v)(e:flatV x=true):∀{xs:List V} {us:List Value},Vals xs us->xs.all flatV=true->∀u∈us,WU A s u v (eqU x u)
 | _,_,.nil,_=>λ u c=>by cases c
 | y::xs,u::us,.cons r t,f=>λ g c=>by
  rw [GO,QM] at f;rcases X2.mp c with rfl | c
  ·rw [aJ r f.1];exact AZ1 r d f.1 e
  ·exact ZC d e t f.2 g c
def inV (x:V)(xs:List V):Bool:=xs.any λ y=>eqV y x
inductive rIn (K:FrG)(neg:Bool)(x:V)(y:V)(H:Hp)(Q:VK):Prop | mk:∀p xs,(y=.ref p)->((SqL K H p xs\/SqT K H p xs))->(flatV x=true)->(xs.all flatV=true)->(Q (.bl (if neg then !inV x xs else inV x xs)) H)->rIn K neg x y H Q
theorem iJ:OpR X (UU .In) (rIn X.K false):=by
 intro i s k H x y v u Q g e ry h;obtain ⟨p,xs,rfl,c,f,fs,q⟩:=h;cases ry
 rcases c with c | c
 ·obtain ⟨its,r,pl,j⟩:=g.list c;refine SeqAt.in_listAt (eqU x) pl.isList (λ w d=>ZC e f r fs w (by simpa using d)) ⟨.bl _,H,g,rfl,?_⟩
  rw [show its.toArray.any (eqU x)=its.any (eqU x) by simp,WX r fs]
  exact q
 ·obtain ⟨its,r,pl,j⟩:=g.tuple c;refine SeqAt.in_tupleAt (eqU x) pl (λ w d=>ZC e f r fs w (by simpa using d)) ⟨.bl _,H,g,rfl,?_⟩
  rw [show its.toArray.any (eqU x)=its.any (eqU x) by simp,WX r fs]
  exact q
theorem DX:CallR X (.builtin "len") (λ xs H Q=>∃p d,xs=[.ref p]/\(SqL X.K H p d\/SqT X.K H p d)/\Q (.int d.length) H):=by
 intro i s l H xs us Q g r h;obtain ⟨p,d,rfl,e,q⟩:=h;obtain ⟨u,rfl,j⟩:=vals1 r;cases j
 have m:=line63;rcases e with e | e
 ·obtain ⟨its,f,pl,k⟩:=g.list e;have c:=f.length;exact Calls.call_len_list pl.isList (by simp only [ZY]<;>omega) ⟨.int d.length,H,g.tok _,⟨s.toks+1,by rw [ZY,c]⟩,q⟩
 ·obtain ⟨its,f,pl,k⟩:=g.tuple e;have c:=f.length;exact len_tuple pl (by simp only [ZY]<;>omega) ⟨.int d.length,H,g.tok _,⟨s.toks+1,by rw [ZY,c]⟩,q⟩
theorem lg:CallR X (.builtin "len") (λ xs H Q=>∃z,xs=[.str z]/\z.length<=Y3/\Q (.int z.length) H):=by
 intro c s d H xs us Q e r h;obtain ⟨z,rfl,f,q⟩:=h;obtain ⟨u,rfl,t,rfl⟩:=vals1 r;have g:=line63;exact len_str (by omega) ⟨.int z.length,H,e.tok _,⟨_,rfl⟩,q⟩
theorem xT:CallR X (.type "tuple") (λ xs H Q=>∃p c,xs=[.ref p]/\((SqL X.K H p c/\∀l,H l=none->Q (.ref l) (upd H l (.tup c)))\/(SqT X.K H p c/\Q (.ref p) H))):=by
 intro d s i H xs us Q m r h;obtain ⟨p,c,rfl,h⟩:=h;obtain ⟨u,rfl,n⟩:=vals1 r;cases n
 rcases h with ⟨f,q⟩ | ⟨f,q⟩
 ·obtain ⟨its,g,pl,j⟩:=m.list f;have t:=g.length;refine call_tuple_list pl.isList (λ h' kp=>?_) (by simp only [ZY]<;>omega)
  have k:Inv X d i H { s with heap:=h' }:=m.kept (t':=s.toks) kp
  have v:Inv X d i (upd H h'.objs.size (.tup c)) { s with heap:=h'.push { cls:=.type "tuple",data:=.seq its.toArray } }:=
   k.laid (t':=s.toks) (λ b o e=>ZE _ e) (ZK _) (show ObjOk X.prog X.w _ _ _ (.tup c) from ⟨j,its,g,IsTup.new _ _⟩)
  exact ⟨.ref h'.objs.size,_,v,rfl,q _ (k.hok.fresh (ZK _))⟩
 ·obtain ⟨its,g,pl,j⟩:=m.tuple f;exact call_tuple_same pl ⟨.ref p,H,m,rfl,q⟩
def tyV (K:FrG)(T:String)(x:V)(H:Hp):Prop:=match x with
 | .str _=>T="str"
 | .int _=>T="int"
 | .ref p=>(T="list"/\∃xs,SqL K H p xs)\/(T="tuple"/\∃o,K.lookup p=some o/\o.cls=.type "tuple"/\o.dict=none)\/
   (T="dict"/\((∃c,H p=some (.dK c))\/∃c,H p=some (.dT c)))\/(T="set"/\∃d n,H p=some (.set d n))
 | _=>False
theorem xN {g:List (Addr×Obj)}{l:St}{H:Hp}{s:W9}{T:String}{x:V}{v:Value}(h:Inv X g l H s)(r:RelV x v)(f:tyV X.K T x H):
  s.TypeIs v T/\∀a,v=.ref a->∃j,s.heap.get? a=some j/\j.dict=none:=by
 cases x with
 | str z=>
  obtain ⟨t,rfl⟩:=r;cases (show T="str" from f)
  exact ⟨wE s z t,λ _ e=>nomatch e⟩
 | int i=>
  obtain ⟨t,rfl⟩:=r;cases (show T="int" from f)
  exact ⟨typeIs_int s i t,λ _ e=>nomatch e⟩
 | ref p=>
  cases r
  rcases f with ⟨rfl,xs,m⟩ | ⟨rfl,o,d,q,hd⟩ | ⟨rfl,d⟩ | ⟨rfl,u,n,d⟩
  ·obtain ⟨its,_,pl,_⟩:=h.list m;refine ⟨pl.isList.typeIs,λ a e=>?_⟩
   cases e
   obtain ⟨o,n,e,c,hd,_⟩:=pl;exact ⟨o,e,hd⟩
  ·refine ⟨⟨o,h.kIn p o d,q⟩,λ a e=>?_⟩
   cases e
   exact ⟨o,h.kIn _ o d,hd⟩
  ·have z:∃o,s.heap.get? p=some o/\o.ExactDict:=by
    rcases d with ⟨k,d⟩ | ⟨k,d⟩
    ·obtain ⟨_,_,_,_,o,_,_,e,ex,_⟩:=h.hok p _ d;exact ⟨o,e,ex⟩
    ·obtain ⟨_,_,_,_,o,_,_,e,ex,_⟩:=h.hok p _ d;exact ⟨o,e,ex⟩
   obtain ⟨o,e,ex⟩:=z;refine ⟨⟨o,e,ex.1⟩,λ a e2=>?_⟩
   cases e2
   exact ⟨o,e,ex.2.1⟩
  ·obtain ⟨o,_,_,_,e,ex,_⟩:=h.hok p _ d;refine ⟨⟨o,e,ex.1⟩,λ a e2=>?_⟩
   cases e2
   exact ⟨o,e,ex.2.1⟩
 | _=>exact UP f
def tBM (K:FrG)(T:String)(r:V->List V->Hp->VK->Prop)(e:TE)(t:TA):TE:=λ c H Q=>e c H λ x d=>tyV K T x d/\t c d λ xs f=>r x xs f Q
variable {o e:Expr}{es:List Expr}{to:TE}{t:TA}{name:Str}{apos cpos:Pos}{T id:String}{r:V->List V->Hp->VK->Prop}
theorem Ce (p:PlainAttrs T)(slot:Slot T name id)(k:typeOf (.builtin id)=pure (.type "method_descriptor"))(q:MtR X id r)(u:PE X o to)(w:PA X (e::es) t)
  (f:wZ o name X.env (eval o X.env)=eval o X.env:=by rfl)
  (i:((yY cpos (XA (e::es) X.env)).all (λ x=>!x.1) && (backToKw cpos (GM [] X.env)).all (λ x=>x.1.isSome)
   && decide ((e::es).length+([]:List Keyword).length+(if ([]:List Keyword).isEmpty then 0 else 1) < 30))=true:=by rfl)
  (g:(apos.endLine == cpos.line)=true:=by rfl) (y:XA (e::es) X.env=(false,eval e X.env)::XA es X.env:=by rfl) (d:(yY cpos (XA es X.env)).any (·.1)=false:=by rfl):
  PE X (.Call (.Attribute o name apos) (e::es) [] cpos) (tBM X.K T r to t):=by
 intro c s j H Q M h;refine wpAny_Call_method_late f i g rfl (thn (u c s j H _ M h) λ v z ⟨x,A,l,m,B,C⟩=>?_)
 obtain ⟨D,E⟩:=xN l m B;refine ⟨T,id,p,slot,k,D,E,?_⟩;have n:=w cpos c z j A _ l C;rw [y] at n ⊢;refine FD (by show (false || (yY cpos (XA es X.env)).any (·.1))=false;rw [d]<;>rfl) (No ?_)
 exact thn n λ us F ⟨vs,G,I,J,L⟩=>q c F j G x vs v us Q I m J L
end
def MtM (X:Cx)(id:String)(r:V->List V->Hp->VK->Prop):Prop:=
 ∀(a:List (Addr×Obj)) (s:W9) (b:St) (H:Hp) (x:V) (xs:List V) (v:Value) (us:List Value) (Q:VK),Inv X a b H s->RelV x v->Vals xs us->r x xs H Q->
  wpAny (model X.prog X.w) X.A (call (.builtin id) (v::us)) (EP X a b Q) X.xe s
theorem Vals.one:∀{x:V} {us:List Value},Vals [x] us->∃u,us=[u]/\RelV x u
 | _,_,.cons r .nil=>⟨_,rfl,r⟩
theorem Vals.rep {xs:List V}{us:List Value}(h:Vals xs us):∀k:Nat,Vals (XE k xs).flatten (XE k us).flatten
 | 0=>.nil
 | k+1=>by
  rw [zC,zC,ze,ze];exact Vals.append h (Vals.rep h k)
theorem o6 (its:List Value):∀(k:Nat) (a:List Value),
  List.foldl (λ b c=>b++c) a.toArray (XE k its.toArray)=(a++(XE k its).flatten).toArray
 | 0,a=>by simp
 | k+1,a=>by
  have e:a.toArray++its.toArray=(a++its).toArray:=by simp
  have e2:(a++its)++(XE k its).flatten=a++(XE (k+1) its).flatten:=by
   rw [zC,ze,Xs]
  rw [<- e2,<- o6 its k (a++its),<- e,zC,List.foldl_cons]
section
variable {X:Cx}{pins:List (Addr×Obj)}{σ:St}{H:Hp}{s:W9}{l b:Addr}{xs ys zs:List V}
theorem Inv.lset {its its':List Value}{n:Nat}{f:Array Value->Array Value}{t':Nat}(h:Inv X pins σ H s)(a:H l=some (.lst xs))
  (e:s.heap.get? l=some { cls:=.type "list",data:=.seq its.toArray n }) (hf:f its.toArray=its'.toArray) (hv:Vals ys its') (c:ys.length<=Y3):
  Inv X pins σ (upd H l (.lst ys)) { s with heap:=s.heap.update l (FB f),toks:=t' }:=by
 have q:=PySem.IsL.update e f;rw [hf] at q;refine h.write (x:=l) (e:=l) (by rw [a];exact trivial) (.inl rfl) (λ i u d g=>(FC s.heap (FB f) (UX d)).trans g) ⟨_,q⟩ ?_
 exact ⟨c,its',_,hv,q⟩
theorem Inv.lnew {its:List Value}{t':Nat}(c:Inv X pins σ H s)(hv:Vals ys its)(a:ys.length<=Y3):
  Inv X pins σ (upd H s.heap.objs.size (.lst ys)) { s with heap:=s.heap.push { cls:=.type "list",data:=.seq its.toArray },toks:=t' }:=
 c.laid (λ _ _ q=>ZE _ q) (ZK _) ⟨a,its,0,hv,XU _ rfl⟩
theorem Inv.fresh (a:Inv X pins σ H s):H s.heap.objs.size=none:=a.hok.fresh (ZK _)
theorem Inv.lstM (c:Inv X pins σ H s)(a:H l=some (.lst xs)):xs.length<=Y3/\∃(its:List Value) (n:Nat),Vals xs its/\xs.length=its.length/\s.heap.get? l=some { cls:=.type "list",data:=.seq its.toArray n }:=by
 obtain ⟨z,its,n,r,e⟩:=c.hok l _ a;exact ⟨z,its,n,r,r.length,e⟩
theorem notLongL {n:Nat}(h:n<=Y3):zo n=false:=by
 unfold zo;exact decide_eq_false (by omega)
end
section
variable {X:Cx}
inductive rAppend (x:V)(vs:List V)(H:Hp)(Q:VK):Prop | mk:∀l xs y,(x=.ref l)->(vs=[y])->(H l=some (.lst xs))->(xs.length < Y3)->(Q .non (upd H l (.lst (xs++[y]))))->rAppend x vs H Q
theorem Fy:MtM X "list.append" rAppend:=by
 intro b s i H x vs v us Q g c d h;obtain ⟨l,xs,y,rfl,rfl,a,j,q⟩:=h;cases c
 obtain ⟨u,rfl,f⟩:=d.one;obtain ⟨z,its,n,r,hl,e⟩:=g.lstM a;refine xI F.slot_list_append ⟨_,e,rfl⟩ F.entry_list_append (F.args_list_append_2 _ _) (PySem.list_append l its.toArray n u (by rw [ZY];omega)) ⟨e,?_⟩
 refine ⟨.non,_,g.lset (its':=its++[u]) a e (by simp) (r.append (.cons f .nil)) ?_,rfl,q⟩
 rw [X1,List.length_singleton];omega
inductive rExtend (x:V)(vs:List V)(H:Hp)(Q:VK):Prop | mk:∀l b xs zs,(x=.ref l)->(vs=[.ref b])->(H l=some (.lst xs))->(H b=some (.lst zs))->(xs.length+zs.length<=Y3)->(Q .non (upd H l (.lst (xs++zs))))->rExtend x vs H Q
theorem yh:MtM X "list.extend" rExtend:=by
 intro f s w H x vs v us Q g i j h;obtain ⟨l,b,xs,zs,rfl,rfl,d,k,y,q⟩:=h;cases i
 obtain ⟨u,rfl,m⟩:=j.one;cases m
 obtain ⟨z,its,n,r,hl,e⟩:=g.lstM d;obtain ⟨A,a,o,p,t,e2⟩:=g.lstM k;have hsz:its.toArray.size+a.toArray.size<=Y3:=by rw [ZY,ZY];omega
 have c:¬ (!its.toArray.isEmpty && zo (its.toArray.size+a.toArray.size))=true:=by
  rw [notLongL hsz,Bool.and_false];exact ZH
 refine xI F.slot_list_extend ⟨_,e,rfl⟩ F.entry_list_extend (F.args_list_extend_2 _ _)
  (AutoSeq1.list_extend_list_list_0 l its.toArray n b a.toArray o c (by rw [ZY];omega) (by omega)) ⟨e,e2,?_⟩
 refine ⟨.non,_,g.lset (its':=its++a) d e (by simp) (r.append p) ?_,rfl,q⟩
 rw [X1];omega
inductive rCat (x:V)(y:V)(H:Hp)(Q:VK):Prop | mk:∀l b xs zs,(x=.ref l)->(y=.ref b)->(H l=some (.lst xs))->(H b=some (.lst zs))->(xs.length+zs.length<=Y3)->(∀p,H p=none->Q (.ref p) (upd H p (.lst (xs++zs))))->rCat x y H Q
theorem Gs:OpR X (yA .Add) rCat:=by
 intro d s o H x y v u Q c f ry h;obtain ⟨l,b,xs,zs,rfl,rfl,g,i,p,q⟩:=h;cases f
 cases ry
 obtain ⟨z,its,n,r,hl,e⟩:=c.lstM g;obtain ⟨t,a,w,j,m,e2⟩:=c.lstM i;refine PySem.P.add_list e e2 ?_ (by rw [ZY,ZY];omega)
 have k:its.toArray++a.toArray=(its++a).toArray:=by simp
 rw [k];exact ⟨.ref _,_,c.lnew (t':=s.toks) (r.append j) (by rw [X1];omega),rfl,q _ c.fresh⟩
inductive rRep (x:V)(y:V)(H:Hp)(Q:VK):Prop | mk:∀l k xs,(x=.ref l)->(y=.int k)->(H l=some (.lst xs))->(-(2 ^ 63)<=k)->(k < 2 ^ 63)->(xs.length * k.toNat<=Y3)->(∀p,H p=none->Q (.ref p) (upd H p (.lst (XE k.toNat xs).flatten)))->rRep x y H Q
theorem vY {a:Type}(xs:List a)(k:Nat):(XE k xs).flatten.length=k * xs.length:=by
 induction k with
 | zero=>simp
 | succ k b=>rw [zC,ze,X1,b,FE,FF]
theorem AY3:OpR X (yA .Mult) rRep:=by
 intro p s G H x y v u Q w A ry h;obtain ⟨l,k,xs,rfl,rfl,B,C,D,o,q⟩:=h;cases A
 obtain ⟨t,rfl⟩:=ry;obtain ⟨z,its,n,r,hl,e⟩:=w.lstM B;have c:its.toArray.size * k.toNat<=Y3:=by rw [ZY,<- hl];exact o
 have d:¬ its.toArray.size * k.toNat > (2 ^ 63 - 1) / 8:=by
  have:(Y3:Nat)<=(2 ^ 63 - 1) / 8:=by decide
  omega
 have f:¬ (!Builtin.List.listFitsIndex k)=true:=by
  rw [fitsIndex_both C D];exact ZH
 have b:¬ zo (its.toArray.size * k.toNat)=true:=by
  rw [notLongL c];exact ZH
 have g:List.foldl (λ i j=>i++j) #[] (XE (if its.toArray.isEmpty=true then 0 else k.toNat) its.toArray)=(XE k.toNat its).flatten.toArray:=by
  have E:∀m:Nat,List.foldl (λ i j=>i++j) #[] (XE m its.toArray)=(XE m its).flatten.toArray:=λ m=>by
   have:=o6 its m [];rw [Qb] at this;exact this
  rw [E];cases its with
  | nil=>simp
  | cons a I=>rw [if_neg (by simp)]
 refine wpAny_binaryOp_repeat_ref (T:="list") (U:="int") (by decide) ⟨_,e,rfl⟩ (λ s'=>typeIs_int s' k t) noFill_list_mul F.fills_int_mul F.slot_int_rmul repeat_list F.slot_int_index.lookup
  (xI F.slot_int_rmul (typeIs_int s k t) F.entry_int_rmul (F.args_int_rmul_2 _ _) (int___rmul___int_list k t l its.toArray n)
   ⟨e,rfl,⟨_,e,rfl⟩,xI F.slot_list_mul ⟨_,e,rfl⟩ F.entry_list_mul (F.args_list_mul_2 _ _) (AutoListH.list___mul___list_int_3 l its.toArray n k t f d b) ⟨e,?_⟩⟩)
 rw [g];exact ⟨.ref _,_,w.lnew (t':=s.toks) (r.rep k.toNat) (by rw [vY,Nat.mul_comm];exact o),rfl,q _ w.fresh⟩
end
end L2
namespace Att
open PySem PySem.W PySem.Calls PyProof.Rows
theorem xq {P:GT}{h:Heap}:∀(ns:List Int) (vs:List Value),WellAll P h vs (ns.map WData.int)->IntsAre vs ns:=by
 intro ns
 induction ns with
 | nil=>
  intro vs w;rw [FG] at w;cases w
  exact .nil
 | cons n ns c=>
  intro vs w;rw [YB] at w;cases w with
  | cons a b=>
   cases a
   exact .cons _ _ (c _ b)
theorem AG0 {l:OpenLaw}{n:Nat}(o:l.most=some n){P:GT}{h:Heap}{args:List WData}{b:List Value}
  (c:l.row.toRowW.claim.pre args=true) (j:WellAll P h b args):
  ∃a vs ns,b=[Wp a]/\args=[WData.list (ns.map WData.int)]/\h.get? a=some { cls:=.type "list",data:=.seq vs.toArray }/\IntsAre vs ns/\ns.length<=n:=by
 have k:WShape.hasAll [] args [.list .int]=true:=(pre_splitW c).1;have m:l.pre.holds [] { args:=args }=true:=(pre_splitW c).2;obtain ⟨d,r,rfl,p,s⟩:=hasAllW_cons k;obtain rfl:=hasAllW_nil s;obtain ⟨xs,rfl,t⟩:=hasW_list p;obtain ⟨ns,rfl⟩:=items_int t;have g:ns.length<=n:=by
  unfold OpenLaw.pre at m;have e:(WTm.not (.lt (.lit (.int (n:Int))) (.len (.arg 0)))).holds [] { args:=[.list (ns.map .int)] }=true:=by
   have e:=(holds_andW m).1;rw [o] at e;exact e
  have f:=condW_of e (w_not (w_lt w_lit (w_len_list (w_arg rfl))));rw [Y2] at f;refine Nat.le_of_not_lt λ q=>?_
  have u:(n:Int) < ((ns.length:Nat):Int):=by omega
  first
   | (rw [decide_eq_true u] at f;exact absurd f (by decide))
   | (simp at f;omega)
 cases j with
 | cons v w=>
  cases w
  cases v with
  | list x i=>exact ⟨_,_,ns,rfl,rfl,x,xq ns _ i,g⟩
theorem vJ (l:OpenLaw)(args:List WData):l.row.toRowW.claim.post args (.bool true) args=true:=
 postW_of (r:=l.row.toRowW) (X:=(true == true))
  (show WShape.has [] (.bool true) .bool=true by first | rfl | decide | simp [WShape.has,WShape.arms,WShape.armsAll])
  (show (WTm.eq .res (.lit (.bool true))).value [] { args:=args,res:=some (.bool true),after:=args }=some (.bool (true == true)) from w_eq_bool (w_res rfl) w_lit) rfl
theorem Ab1 {l:OpenLaw}{n:Nat}{q:Yf}{c:List Str}{t:(Str->Option Value)->Heap->Prop}{u:World->Heap->Prop}{d:DefRec}
  (B:l.most=some n) (v:d.params.defaults=[])
  (call:∀(w:World) (s₀ b:W9) (mg j:Str->Option Value) (e:Addr) (o:Obj) (k h g:Value) (a:Addr) (vs:List Value) (ns:List Int),
   Ground q c [] t w s₀ mg j b.heap->u w b.heap->
   b.heap.get? e=some o->o.data=.func (docDef d.name d.params d.body d.scope k h g)->b.heap.CodeRec h d.name->mg d.name=some (.ref e)->
   b.heap.get? a=some { cls:=.type "list",data:=.seq vs.toArray }->IntsAre vs ns->ns.length<=n->b.gens=#[]->
   GL (model l.prog w) NV (.call (.ref e) ⟨[.ref a],[]⟩) (λ r s'=>r=.ok (.ret (.bool true))/\OldK b.heap s'.heap/\s'.os=b.os/\wn s'.gens) b):
  WalkO q c t u l.row.toRowW d [] (λ f vs=>PySem.call f vs):=by
 intro w s₀ b mg j O P e o k h g C kV D hd x y z E args F Q m G M A N;obtain rfl:C=.none:=Dflts.none y v;obtain rfl:kV=.none:=Dflts.noKw y;obtain ⟨a,vs,ns,rfl,rfl,p,i,s⟩:=AG0 B m A;refine enter_call (jo (call w s₀ b mg j e o k h g a vs ns O P D (fd_plain hd) x z p i s E) λ r s' H=>?_)
 obtain ⟨rfl,I,J,K⟩:=H;exact ⟨.inl ⟨.bool true,.bool true,[],rfl,λ _=>rfl,.bool true,vJ l _,λ _=>⟨MK,λ _ L=>(nomatch L)⟩⟩,I,J,K⟩
end Att
namespace L2
open PySem PySem.Spec PyProof.Rows
theorem m8:∀{vs:List Value} {ns:List Int},IntsAre vs ns->Vals (ns.map V.int) vs
 | _,_,.nil=>.nil
 | _,_,.cons n t h=>.cons ⟨t,rfl⟩ (m8 h)
def Only (H:Hp):Prop:=∀b,H b=none\/∃o xs,H b=some (.frz o (.lst xs))
theorem uB {P:Yf}{w:World}{K:FrG}{mg B:Str->Option Value}{CX:CXT}{k:Nat}{C a:Addr}{fd:UK}{x:Str}{sp:Sp}{c:W9}{vs:List Value}{ns:List Int}
  (J:K.In c.heap) (y:c.heap.Ns Zq mg) (f:c.heap.Ns builtinsNs B) (L:∀x:Str,x≠"__name__"->B x=WZ x) (D:c.heap.NoLimit) (T:c.gens=#[])
  (p:c.heap.get? a=some { cls:=.type "list",data:=.seq vs.toArray }) (hi:IntsAre vs ns) (hl:ns.length<=Y3) (U:Room k NV)
  (a7:∀base:Heap,K.In base->base.Ns Zq mg->FnOk P w K mg base CX k C fd [x] sp) (t:∀(s:W9) (u:Value),NU s fd ⟨[u],[]⟩ [(x,u)])
  (M:∀H:Hp,Only H->SqL K H a (ns.map V.int)->sp [.ref a] H (λ v _=>v=.bl true) λ _ _ _=>False)
  (N:∀H e s',CX [] H c (λ _ _ _=>False) e s'->False):
  GL (model P w) NV (.call (.ref C) ⟨[.ref a],[]⟩) (λ r s'=>r=.ok (.ret (.bool true))/\OldK c.heap s'.heap/\s'.os=c.os/\wn s'.gens) c:=by
 have O:=m8 hi;have E:=hi.length;have core:∀H:Hp,Only H->SqL K H a (ns.map V.int)->HOk P w H c.heap->(∀b,H b≠none->b=a)->(H a≠none->K.lookup a=none)->
   GL (model P w) NV (.call (.ref C) ⟨[.ref a],[]⟩) (λ r s'=>r=.ok (.ret (.bool true))/\OldK c.heap s'.heap/\s'.os=c.os/\wn s'.gens) c:=by
  intro H Q W hok R X;have g:∀{b:Addr} {o:Obj},c.heap.get? b=some o->H b=none->(hidT c.heap H).get? b=some o:=λ e n=>tH e n
  have S:∀{b:Addr} {o:Obj} {es:Array wP} {j:Nat},c.heap.get? b=some o->o.data=.dict es j->H b=none:=λ {b o es j} e d=>by
   cases q:H b with
   | none=>rfl
   | some u=>
    have F:b=a:=R b (by rw [q];simp)
    subst F;rw [p] at e;cases e;have d':Data.seq vs.toArray _=Data.dict es j:=d;cases d'
  have i:∀{b:Addr} {m:Str->Option Value},c.heap.Ns b m->(hidT c.heap H).Ns b m:=λ {b m} ⟨o,es,j,e,d,r⟩=>⟨o,es,j,g e (S e d),d,r⟩
  have A:K.In (hidT c.heap H):=λ b o e=>g (J b o e) (by
   cases q:H b with
   | none=>rfl
   | some u=>
    have F:b=a:=R b (by rw [q];simp)
    subst F;rw [X (by rw [q];simp)] at e;cases e)
  have Y:Mod K mg (hidT c.heap H):=⟨A,i y,⟨B,i f,L⟩,let ⟨mc,Z,a0⟩:=D;⟨mc,i Z,a0⟩⟩
  have a1:Env0 P w K mg (hidT c.heap H) NV [] c H:=⟨rfl,Y,λ b o e=>yr e,ME (Ad6 _ _),trivial,λ b f=>absurd (show b∈([]:List Addr) from f) (by simp),hok,.of_eq T⟩
  refine jo ((a7 _ A (i y)).run NV [] c H ⟨[.ref a],[]⟩ [.ref a] [.ref a] _ _ U a1 (t c (.ref a)) (.cons rfl .nil) (M H Q W)) λ r s' h=>?_
  cases r with
  | error e=>exact (N H e s' h).elim
  | ok a2=>
   cases a2 with
   | next=>exact UP h
   | brk=>exact UP h
   | cont=>exact UP h
   | ret u=>
    obtain ⟨v,a8,os,bare,un,G,a3,q⟩:=h;have a4:v=.bl true:=q;subst a4;obtain rfl:u=Mo true:=a3;refine ⟨rfl,OldK.of_keep λ b o e=>?_,os,bare⟩
    cases q:H b with
    | none=>exact un.keep b o e q (by intro z;exact absurd (show b∈([]:List Addr) from z) (by simp)) (by simp)
    | some u=>
     rcases Q b with z | ⟨a5,xs,z⟩
     ·rw [q] at z;cases z
     ·have a6:=un.frzs b a5 _ z;obtain ⟨e1,_⟩:=hok b _ z;obtain ⟨e2,_⟩:=G b _ a6;rw [e] at e1;cases e1;exact e2
 cases I:K.lookup a with
 | some o=>
  have e:=J a o I;rw [p] at e;cases e
  refine core (λ _=>none) (λ _=>.inl rfl) (.inr ⟨_,vs.toArray,_,I,rfl,rfl,rfl,by rw [ZY,E];exact hl,by simpa using O⟩) (λ b u z=>by have l:(none:Option HO)=some u:=z;cases l) (λ b z=>absurd rfl z) λ z=>absurd rfl z
 | none=>
  refine core (λ b=>if b=a then some (.frz { cls:=.type "list",data:=.seq vs.toArray } (.lst (ns.map V.int))) else none) (λ b=>?_) (.inl (.inr ⟨{ cls:=.type "list",data:=.seq vs.toArray },if_pos rfl⟩)) (λ b u z=>?_) (λ b z=>?_) λ _=>I
  ·by_cases f:b=a
   ·exact .inr ⟨_,_,if_pos f⟩
   ·exact .inl (if_neg f)
  ·by_cases f:b=a
   ·have l:=(if_pos f).symm.trans z;cases l
    subst f;exact ⟨p,by rw [Y2];exact hl,vs,_,O,p⟩
   ·have l:=(if_neg f).symm.trans z;cases l
  ·by_cases f:b=a
   ·exact f
   ·exact absurd (if_neg f) z
abbrev KOf {K:FrG}{h:Heap}(_:K.In h):FrG:=K
theorem walk_of {l:PySem.W.OpenLaw}{n k:Nat}{q:Yf}{i:List Str}{F:(Str->Option Value)->Heap->Prop}{t:World->Heap->Prop}{d:DefRec}{K:GT->FrG}{CX:World->CXT}{sp:World->Sp}{x:Str}
  (G:l.most=some n) (y:n<=Y3) (z:d.params.defaults=[]) (I:Room k NV)
  (J:∀(w:World) (h:Heap),t w h->(K w.params).In h)
  (S:∀(w:World) (mg:Str->Option Value) (j:Addr) (h:Heap),(K w.params).In h->h.Ns Zq mg->mg d.name=some (.ref j)->
   ∃fd:UK,(∀(s:W9) (u:Value),NU s fd ⟨[u],[]⟩ [(x,u)])/\
    ∀base:Heap,(K w.params).In base->base.Ns Zq mg->FnOk l.prog w (K w.params) mg base (CX w) k j fd [x] (sp w))
  (A:∀(w:World) (H:Hp) (a:Addr) (ns:List Int),ns.length<=n->Only H->SqL (K w.params) H a (ns.map V.int)->sp w [.ref a] H (λ v _=>v=.bl true) λ _ _ _=>False)
  (B:∀(w:World) (H:Hp) (s:W9) (e:Value) (s':W9),CX w [] H s (λ _ _ _=>False) e s'->False):
  PySem.W.WalkO q i F t l.row.toRowW d [] (λ f vs=>PySem.call f vs):=by
 refine Att.Ab1 G z λ w s₀ p mg U j o X Y Q a vs ns C Z a0 hd R D r m c L=>?_
 have E:=J w _ Z;obtain ⟨fd,M,N⟩:=S w mg j _ E C.T.g D;exact uB E C.T.g C.T.b C.T.builtins C.T.nolimit L r m (Zo c y) I N M (λ H O P=>A w H a ns c O P) λ H e s'=>B w H p e s'
def inClass (s:Stmt)(j:Nat):Stmt:=match s with
 | .ClassDef _ _ _ a _ _ _ _ _ _ _=>a.getD j (.Pass ⟨0,0,0,0⟩)
 | _=>.Pass ⟨0,0,0,0⟩
def defArgs (s:Stmt):Arguments:=match s with
 | .FunctionDef _ a _ _ _ _ _ _ _ _=>a
 | _=>{ posonlyargs:=[],args:=[],vararg:=none,kwonlyargs:=[],kw_defaults:=[],kwarg:=none,defaults:=[] }
def defBody (s:Stmt):List Stmt:=match s with
 | .FunctionDef _ _ b _ _ _ _ _ _ _=>b
 | _=>[]
def defScope (s:Stmt):Scope:=match s with
 | .FunctionDef _ _ _ _ _ _ a _ _ _=>a
 | _=>{ kind:=.function,names:=[],isGenerator:=false,isCoroutine:=false }
abbrev E0:XK:=λ _ _ _=>False
structure Fun (K:FrG)(x qual:Str)(st:Stmt)(f:Addr)(fd:UK):Prop where
 ex:∃(oc:Value) (od:Option Addr) (kV doc pm:Value) (an:Option Addr) (cdv ct:Value) (osl:Array (Option Value)),
  fd=YO x qual (defArgs st) (defBody st) (defScope st) .none kV doc pm an cdv ct/\K.lookup f=some ⟨oc,od,.func fd,osl⟩/\Xm K cdv qual=true
 kp:Ya K (.ref f)=true
section
variable {P:Yf}{w:World}{K:FrG}{mg:Str->Option Value}{base:Heap}
theorem Fun.binds {x a:Str}{st:Stmt}{f:Addr}{fd:UK}{ps:List Str}(j:Fun K x a st f fd)
  (h:∀(kV b d:Value) (e:Option Addr) (c ct:Value) (us:List Value),us.length=ps.length->ul (YO x a (defArgs st) (defBody st) (defScope st) .none kV b d e c ct) ⟨us,[]⟩=pure (ps.zip us)):Binds K fd ps []:=by
 obtain ⟨k,l,kV,b,d,e,c,ct,g,rfl,m,i⟩:=j.ex;exact .all (h kV b d e c ct)
theorem Dq {x a:Str}{st:Stmt}{f:Addr}{i:Value}{j g:Option Addr}{e:Array (Option Value)}{kV d h b ct:Value}(l:K.lookup f=some ⟨i,j,.func (YO x a (defArgs st) (defBody st) (defScope st) .none kV d h g b ct),e⟩)
  (c:Xm K b a=true) (k:Ya K (.ref f)=true):Fun K x a st f (YO x a (defArgs st) (defBody st) (defScope st) .none kV d h g b ct):=⟨⟨i,j,kV,d,h,g,b,ct,e,rfl,l,c⟩,k⟩
end
theorem small1000 {n:Nat}(h:n<=1000):n < Y3:=xB h (by decide)
section
variable {X:Cx}
theorem pv (i:Nat){x:Str}{pos:Pos}(b:X.N[i]?=some x:=by rfl)(hv:Vis X.env.scope x:=by first | exact Or.inl rfl | exact Or.inr (Or.inl rfl) | exact Or.inr (Or.inr rfl))(hd:(x == ("__debug__":Str))=false:=by decide)
  (a:(x == ("__classdict__":Str))=false:=by decide):PE X (.Name x pos) (tVar i):=AP4 b hv hd a
end
theorem iteF {A a:Prop}(h:a):if false=true then A else a:=by
 rw [if_neg ZH];exact h
theorem iteT {A a:Prop}(h:A):if true=true then A else a:=by
 rw [if_pos rfl];exact h
theorem ite2 {c A d:Prop}[Decidable c](a:c->A)(b:¬ c->d):if c then A else d:=by
 by_cases h:c
 ·rw [if_pos h];exact a h
 ·rw [if_neg h];exact b h
def Same (H a:Hp):Prop:=∀b o,H b=some o->a b=some o
theorem Same.refl (H:Hp):Same H H:=λ _ _ h=>h
theorem Same.trans {H d e:Hp}(a:Same H d)(b:Same d e):Same H e:=λ c o h=>b c o (a c o h)
theorem Same.free {H a:Hp}(e:Same H a){l:Addr}(h:a l=Option.none):H l=Option.none:=by
 cases q:H l with
 | none=>rfl
 | some o=>
  rw [e l o q] at h;cases h
theorem Same.seq {K:FrG}{H b:Hp}{a:Addr}{xs:List V}(e:Same H b)(h:SqL K H a xs):SqL K b a xs:=by
 rcases h with (h | ⟨o,h⟩) | h
 ·exact .inl (.inl (e _ _ h))
 ·exact .inl (.inr ⟨o,e _ _ h⟩)
 ·exact .inr h
section
variable {X:Cx}
def Z8 (_ j:Int):Prop:=j≠0/\j.natAbs.log2 < 9000
theorem Ox:OpR X (yA .FloorDiv) (rI Z8 λ i j=>.int (i.fdiv j)):=opI λ _ _ _ _ _ _ _ a q=>floordiv_int a.1 q (.inl (PyProof.noPylong_of_log2 a.2))
theorem bM {i:Int}{k:Nat}(h:i.natAbs < 2 ^ k):Mb i<=k:=by
 unfold Mb
 split
 ·exact WO _
 ·rename_i z
  have a:i.natAbs≠0:=λ e=>z (beq_iff_eq.mpr (Int.natAbs_eq_zero.mp e))
  exact (Nat.log2_lt a).mpr h
def CMulW (i j:Int):Prop:=i.natAbs < 2 ^ 10000/\j.natAbs < 2 ^ 10000
theorem CMulW.ok {i j:Int}(h:CMulW i j):IntMulOk i j:=.of_bits (Zo (bM h.1) (by decide)) (Zo (bM h.2) (by decide))
theorem Dj:OpR X (yA .Mult) (rI CMulW λ i j=>.int (i * j)):=opI λ _ _ _ _ _ _ _ a q=>mul_int q a.ok
end
mutual
inductive DV (K:FrG)(H:Hp):V->U2->Prop
 | non:DV K H .non .none
 | bl (b:Bool):DV K H (.bl b) (.bool b)
 | int (i:Int):DV K H (.int i) (.int i)
 | str (x:Str):DV K H (.str x) (.str x)
 | lst {a:Addr} {xs:List V} {ds:List U2}:SqL K H a xs->DVs K H xs ds->DV K H (.ref a) (.list ds)
 | tup {a:Addr} {xs:List V} {ds:List U2}:SqT K H a xs->DVs K H xs ds->DV K H (.ref a) (.tuple ds)
 | dct {a:Addr} {kvs:List (Key×V)}:H a=some (.dK kvs)->DV K H (.ref a) (.dict [])
inductive DVs (K:FrG)(H:Hp):List V->List U2->Prop
 | nil:DVs K H [] []
 | cons {v:V} {vs:List V} {d:U2} {ds:List U2}:DV K H v d->DVs K H vs ds->DVs K H (v::vs) (d::ds)
end
section
variable {X:Cx}{pins:List (Addr×Obj)}{σ:St}{H:Hp}{s:W9}
mutual
theorem DV.reads (k:Inv X pins σ H s):∀{v:V} {d:U2},DV X.K H v d->d.canLay0=true->∀{u:Value},RelV v u->∃a,Reads s.heap u d a
 | _,_,.non,_,_,r=>by cases r;exact ⟨_,.none⟩
 | _,_,.bl b,_,_,r=>by cases r;exact ⟨_,.bool b⟩
 | _,_,.int i,_,_,r=>by obtain ⟨t,rfl⟩:=r;exact ⟨_,.int i t⟩
 | _,_,.str x,_,_,r=>by obtain ⟨t,rfl⟩:=r;exact ⟨_,.str x t⟩
 | _,_,.lst h q,c,_,r=>by
  cases r
  obtain ⟨its,e,pl,_⟩:=k.list h;obtain ⟨a,f⟩:=DVs.reads k q c e;obtain ⟨o,g,j,n,hd⟩:=id pl.isList;exact ⟨_,.list g j hd f⟩
 | _,_,.tup h q,c,_,r=>by
  cases r
  obtain ⟨its,e,pl,_⟩:=k.tuple h;obtain ⟨a,f⟩:=DVs.reads k q c e;obtain ⟨o,g,j,n,hd⟩:=id pl;exact ⟨_,.tuple g j hd f⟩
 | _,_,.dct h,c,_,r=>nomatch c
theorem DVs.reads (g:Inv X pins σ H s):∀{vs:List V} {ds:List U2},DVs X.K H vs ds->WI ds=true->∀{us:List Value},Vals vs us->∃a,ReadsAll s.heap us ds a
 | _,_,.nil,_,_,r=>by cases r;exact ⟨_,.nil⟩
 | _,_,.cons h q,c,_,r=>by
  rw [WI] at c;cases r with
  | cons b d=>
   obtain ⟨i,e⟩:=DV.reads g h (WS.mp c).1 b;obtain ⟨j,f⟩:=DVs.reads g q (WS.mp c).2 d;exact ⟨_,.cons e f⟩
end
end
section
variable {X:Cx}
inductive Ma (K:FrG)(x:V)(y:V)(H:Hp)(Q:VK):Prop | mk:∀d e,(DV K H x d)->(DV K H y e)->(we d=true)->(we e=true)->(Q (.bl (UZ d e)) H)->Ma K x y H Q
inductive Sy (K:FrG)(x:V)(y:V)(H:Hp)(Q:VK):Prop | mk:∀d e,(DV K H x d)->(DV K H y e)->(we d=true)->(we e=true)->(Q (.bl (!PyData.eqv d e)) H)->Sy K x y H Q
theorem Gh (a:X.A.units+64 < cLine):OpR X (UU .Eq) (Ma X.K):=by
 intro b s k H x y v u Q c f ry h;obtain ⟨d,e,hd,g,sd,se,q⟩:=h;obtain ⟨l,i⟩:=hd.reads c (yi sd) f;obtain ⟨m,j⟩:=g.reads c (yi se) ry;exact eq_dataH i j sd se a ⟨.bl _,H,c,rfl,q⟩
theorem vI (a:X.A.units+64 < cLine):OpR X (UU .NotEq) (Sy X.K):=by
 intro b s k H x y v u Q c f ry h;obtain ⟨d,e,hd,g,sd,se,q⟩:=h;obtain ⟨l,i⟩:=hd.reads c (yi sd) f;obtain ⟨m,j⟩:=g.reads c (yi se) ry;exact ne_dataH i j sd se a ⟨.bl _,H,c,rfl,q⟩
end
structure TopFn (K:FrG)(mg:Str->Option Value)(x:Str)(st:Stmt):Prop where
 ex:∃(f:Addr) (fd:UK),Fun K x x st f fd/\mg x=some (.ref f)
theorem Am {H:Hp}{p:Addr}(h:H p=none)(o:HO):Same H (upd H p o):=λ b u q=>by rw [BK (Bt q h)];exact q
theorem Ih:WZ "int"=some (.type "int"):=by decide+kernel
theorem zU:WZ "bool"=some (.type "bool"):=by decide+kernel
theorem Mq:WZ "tuple"=some (.type "tuple"):=by decide+kernel
theorem xX:WZ "list"=some (.type "list"):=by decide+kernel
theorem Hi:WZ "str"=some (.type "str"):=by decide+kernel
theorem DG:WZ "len"=some (.builtin "len"):=by decide+kernel
theorem Iu:WZ "abs"=some (.builtin "abs"):=by decide+kernel
theorem Nr:WZ "all"=some (.builtin "all"):=by decide+kernel
theorem Fb:WZ "isinstance"=some (.builtin "isinstance"):=by decide+kernel
def Bu (t T:String):Option Bool:=if (jv t == jv T)=true then some true else if PySem.W.kitMeta T=true then (fastBuiltinMro t).map (·.contains (jv T)) else none
theorem uA {K:FrG}{t T:String}{b:Bool}(h:Bu t T=some b):PySem.W.kitOne K (.type t) (.type T)=some b:=h
theorem BJ {K:FrG}{h:Heap}{mg:Str->Option Value}{x:Str}{st:Stmt}{f:Addr}{d:Value}{e g:Option Addr}{i:Array (Option Value)}{kV j m b ct:Value}(X:K.In h)(n:h.Ns Zq mg)
  (a:ZG K Zq x=some (some (.ref f))) (l:K.lookup f=some ⟨d,e,.func (YO x x (defArgs st) (defBody st) (defScope st) .none kV j m g b ct),i⟩) (c:Xm K b x=true) (k:Ya K (.ref f)=true):TopFn K mg x st:=
 ⟨f,_,Dq l c k,Za X n a⟩
section
variable {X:Cx}{es:List Expr}{te:TE}{t:TA}
theorem Bf {c:Const}{j:Nat}{p:Pos}(a:PE X (.Constant c j p) te)(b:PA X es t):PA X (.Constant c j p::es) (tCons te t):=DW a b (by rfl)
theorem Ad {x:Str}{p:Pos}(a:PE X (.Name x p) te)(b:PA X es t):PA X (.Name x p::es) (tCons te t):=DW a b (by rfl)
theorem Hn {xs:List Expr}{p:Pos}(a:PE X (.List xs p) te)(b:PA X es t):PA X (.List xs p::es) (tCons te t):=DW a b (by rfl)
theorem Ez {xs:List Expr}{k:Nat}{p:Pos}(a:PE X (.Tuple xs k p) te)(b:PA X es t):PA X (.Tuple xs k p::es) (tCons te t):=DW a b (by rfl)
theorem Bc {f:Expr}{a:List Expr}{b:List Keyword}{p:Pos}(c:PE X (.Call f a b p) te)(d:PA X es t):PA X (.Call f a b p::es) (tCons te t):=DW c d (by rfl)
theorem CP {a:Expr}{o:NJ}{b:Expr}{p:Pos}(c:PE X (.BinOp a o b p) te)(d:PA X es t):PA X (.BinOp a o b p::es) (tCons te t):=DW c d (by rfl)
theorem cF {a:Expr}{os:List CmpOp}{bs:List Expr}{p:Pos}(b:PE X (.Compare a os bs p) te)(c:PA X es t):PA X (.Compare a os bs p::es) (tCons te t):=DW b c (by rfl)
theorem Ao {a b:Expr}{p:Pos}(c:PE X (.Subscript a b p) te)(d:PA X es t):PA X (.Subscript a b p::es) (tCons te t):=DW c d (by rfl)
theorem AU0 {a b c:Expr}{p:Pos}(d:PE X (.IfExp a b c p) te)(e:PA X es t):PA X (.IfExp a b c p::es) (tCons te t):=DW d e (by rfl)
end
inductive aH (h:Heap):Value->Prop
 | none:aH h .none
def Trc (base:Heap)(e:Addr)(c:Value)(d:Option Addr)(g:Value)(h:Heap):Prop:=
 ∃(o a:Obj) (vs b:Array Value) (T:Addr),h.get? e=some o/\o.cls=c/\o.dict=d/\o.data=.fields vs/\vs[1]?=some (.ref T)/\base.get? T=none/\T≠e/\h.get? T=some a/\a.data=.fields b/\b[3]?=some g/\∃f,vs[2]?=some f/\aH h f
def Aa8 (base:Heap)(l:List Env)(e:Addr)(c:Value)(d:Option Addr)(a:Value)(h:Heap):Prop:=
 base.StaysIn h/\base.get? e=none/\h.FunFrames base l/\Trc base e c d a h
theorem ObjOk.some_of {P:Yf}{w:World}{H:Hp}{h:Heap}{a:Addr}{o:HO}(x:ObjOk P w H h a o):∃u,h.get? a=some u:=by
 cases o with
 | lst xs=>obtain ⟨_,_,_,_,e⟩:=x;exact ⟨_,e⟩
 | tup xs=>obtain ⟨_,_,_,p⟩:=x;obtain ⟨o,e,_⟩:=p;exact ⟨_,e⟩
 | dK b=>obtain ⟨_,_,_,_,o,_,_,e,_⟩:=x;exact ⟨_,e⟩
 | dT b=>obtain ⟨_,_,_,_,o,_,_,e,_⟩:=x;exact ⟨_,e⟩
 | set i n=>obtain ⟨o,_,_,_,e,_⟩:=x;exact ⟨_,e⟩
 | ins C c fs=>obtain ⟨_,_,_,e,_⟩:=x;exact ⟨_,e⟩
 | own y=>obtain ⟨_,e⟩:=x;exact ⟨_,e⟩
 | xd fs=>obtain ⟨_,⟨_,_,_,e,_⟩,_⟩:=x;exact ⟨_,e⟩
 | rng lo hi=>obtain ⟨_,_,_,e⟩:=x;exact ⟨_,e⟩
 | frz d u=>obtain ⟨e,_⟩:=x;exact ⟨_,e⟩
 | tbl ps=>exact ⟨_,(show h.get? a=some _ from x)⟩
 | met f y=>exact ⟨_,(show h.get? a=some _ from x)⟩
 | ext g=>obtain ⟨_,⟨_,e⟩,_⟩:=x;exact ⟨_,e⟩
theorem HOk.none_of {P:Yf}{w:World}{H:Hp}{h:Heap}{a:Addr}(x:HOk P w H h)(e:h.get? a=none):H a=none:=by
 cases q:H a with
 | none=>rfl
 | some o=>
  obtain ⟨u,z⟩:=(x a o q).some_of;rw [e] at z;cases z
def Hg (P:Yf)(w:World):CXT:=λ outer H s E e s'=>∃(a C:Addr) (d:Option Addr) (c:Hp) (f:Heap),e=.ref a/\s'.os=s.os/\wn s'.gens/\
 (∀b:Heap,f.StaysIn b->s'.heap.UpToSlots b->Un (frs outer) [] H c s.heap b/\HOk P w c b)/\Aa8 f outer a (.ref C) d .none s'.heap/\c a=none/\s.heap.get? a=none/\E (.ref C) d c
section
variable {X:Cx}{pins:List (Addr×Obj)}{σ:St}{H:Hp}{s:W9}
theorem yt {c:Hp}{a:Heap}{s':W9}(f:Inv X pins σ H s)(d:s'.os=s.os)(e:wn s'.gens)(u:Un (frs X.stack) [] H c s.heap a/\HOk X.prog X.w c a):Inv X pins σ c { s' with heap:=a }:=
 f.call' (s':={ s' with heap:=a }) (ch:=[]) d u.1 u.2 e λ b z=>nomatch z
end
structure RoomB (c:Bool)(k:Nat)(A:WB):Prop where
 hd:c=true->A.handled=none
 dp:A.depth+3 * k+5 < NL
 un:A.units+16 * k+200 < cLine
theorem RoomB.mono {c:Bool}{j k:Nat}{A:WB}(r:RoomB c k A)(h:j<=k):RoomB c j A:=⟨r.hd,by have:=r.dp;omega,by have:=r.un;omega⟩
theorem RoomB.m {c:Bool}{j k:Nat}{A:WB}(r:RoomB c k A)(h:j<=k:=by decide):RoomB c j A:=r.mono h
theorem RoomB.deeper {c:Bool}{k:Nat}{A:WB}(r:RoomB c (k+1) A)(env:Env):RoomB c k (A.deeper env):=
 ⟨r.hd,by have:=r.dp;show A.depth+1+3 * k+5 < _;omega,by have:=r.un;show A.units+3+16 * k+200 < _;omega⟩
theorem RoomB.depth {c:Bool}{k:Nat}{A:WB}(r:RoomB c k A):A.depth < NL:=by have:=r.dp;omega
theorem RoomB.units {c:Bool}{k:Nat}{A:WB}(r:RoomB c k A):A.units+64 < cLine:=by have:=r.un;omega
theorem Room.b {k:Nat}{A:WB}(r:Room k A):RoomB true k A:=⟨λ _=>r.hd,r.dp,r.un⟩
structure FnB (P:Yf)(w:World)(K:FrG)(mg:Str->Option Value)(base:Heap)(c:Bool)(k:Nat)(f:Addr)(fd:UK)(ps:List Str)(sp:Sp):Prop where
 len:∀vs H Q E,sp vs H Q E->vs.length=ps.length
 run:∀(A:WB) (outer:List Env) (s:W9) (H:Hp) (args:Args) (us:List Value) (vs:List V) (Q:VK) (E:XK),RoomB c k A->Env0 P w K mg base A outer s H->NU s fd args (ps.zip us)->Vals vs us->sp vs H Q E->
  GL (model P w) A (.call (.ref f) args) (CR (Hg P w) outer P w H s Q E) s
theorem FnB.ok {P:Yf}{w:World}{K:FrG}{mg:Str->Option Value}{base:Heap}{k:Nat}{f:Addr}{fd:UK}{ps:List Str}{sp:Sp}(c:FnB P w K mg base true k f fd ps sp):FnOk P w K mg base (Hg P w) k f fd ps sp:=
 ⟨c.len,λ A outer s H args us vs Q E a=>c.run A outer s H args us vs Q E a.b⟩
def Er (c:Bool)(P:Yf)(w:World)(K:FrG)(mg:Str->Option Value)(base:Heap)(N:List Str)(b:Str)(a:Scope)(f:Addr)(d:Value)(A:WB)(outer:List Env)(s:W9)(H:Hp)(E:XK):Cx:=
 { cxOf (Hg P w) P w K mg base N b a f d A outer s H E with calm:=c }
theorem Ab5 {c:Bool}{P:Yf}{w:World}{K:FrG}{mg:Str->Option Value}{base:Heap}{N ps:List Str}{l:Str}{d:Scope}{f:Addr}{B:Value}{A:WB}{outer:List Env}{s G:W9}{H:Hp}{E:XK}{us:List Value}{vs:List V}
  (F:FnScope N ps d) (hd:c=true->A.handled=none) (j:Env0 P w K mg base A outer s H) (hl:vs.length=ps.length) (r:Vals vs us)
  (x:InCallC s s.heap.objs.size (bindL (wo l d s.heap.objs.size f B).kindOf (ps.zip us) λ _=>none) (cellsFrom (s.heap.objs.size+1) d.names []) (bindC (wo l d s.heap.objs.size f B).kindOf (ps.zip us) λ _=>none) G):
  Inv (Er c P w K mg base N l d f B A outer s H E) [] (start N vs) H G:=by
 have O:ps.length<=N.length:=by have:=congrArg QK F.pre;rw [YR] at this;omega
 obtain ⟨C,tk,rfl,I⟩:=x.done;have o:∀b:Addr,b∉(Er c P w K mg base N l d f B A outer s H E).ex:=λ b z=>absurd (show b∈([]:List Addr) from z) (by simp)
 refine ⟨⟨j.mod,F.kind,rfl,rfl,ZK _,λ y z c C g=>?_,λ y m=>?_,λ y c _ h=>?_,λ z=>hd z,WB.frames_deeper j.frames,.inr ⟨rfl,rfl⟩,λ b z=>absurd z (o b),j.bs,j.bsz,λ b _ _=>o b,λ b z=>absurd z (o b),j.funs,j.frf⟩,
  rfl,j.bare,Un.kept I,⟨_,x.toInCall.ns,λ i y v C g Q=>?_⟩,λ y c h=>⟨_,x.cell y c h⟩,j.hok.fresh (ZK _),λ y c h=>?_,λ p t=>absurd (show p∈([]:List (Addr×Obj)) from t) (by simp),j.hok.kept I,?_⟩
 ·exact name_of_addr x.apart (Uf C) (Uf g)
 ·have m:d.names.lookup y=some .cell\/d.names.lookup y=some .free:=m;rcases m with m | m
  ·exact WR m
  ·exact absurd rfl (F.nofree _ (Uf m))
 ·exact XT (x.above y c (Uf h))
 ·have hi:i < vs.length:=by
   unfold start at g;by_cases hi:i < vs.length
   ·exact hi
   ·rw [QN (by simpa using hi)] at g
    rw [List.getElem?_replicate] at g
    split at g<;>cases g
  have L:vs[i]?=some v:=by
   unfold start at g;rw [UD (by simpa using hi),ZN] at g
   cases e:vs[i]? with
   | none=>rw [e] at g;cases g
   | some a=>rw [e] at g;cases g;rfl
  obtain ⟨u,J,M⟩:=r.get L;have t:ps[i]?=some y:=by
   rw [<- F.pre,GP (by omega)];exact C
  have D:ps.Nodup:=by rw [<- F.pre];exact F.nd.sublist (List.take_sublist _ _)
  refine ⟨u,M,?_⟩;rcases F.par y (ZB t) with k | k
  ·exact .inl ⟨k,jJ D t J k⟩
  ·obtain ⟨c,e⟩:=WR (n:=s.heap.objs.size+1) k;refine .inr ⟨.inl k,c,e,?_⟩;have q:=x.cell y c e;rw [iI D t J (by show d.names.lookup y≠_;rw [k];decide)] at q
   exact q
 ·exact j.hok.fresh (XT (x.above y c (Uf h)))
 ·unfold start;show _=N.length;rw [X1,Y2,wq];omega
theorem M5 {c:Bool}{P:Yf}{w:World}{K:FrG}{mg:Str->Option Value}{base:Heap}{k:Nat}{f:Addr}{name d:Str}{h:Arguments}{j:List Stmt}{a:Scope}{L kV C M g ct Y:Value}{O Z:Option Addr}
  {R:Array (Option Value)} {N ps:List Str} {sp:Sp} (a0:K.lookup f=some ⟨Y,Z,.func (YO name d h j a L kV C M O g ct),R⟩) (S:Xm K g d=true) (T:FnScope N ps a)
  (len:∀vs H Q E,sp vs H Q E->vs.length=ps.length)
  (z:∀(A:WB) (outer:List Env) (s:W9) (H:Hp) (vs:List V) (Q:VK) (E:XK),RoomB c k (A.deeper (wo d a s.heap.objs.size f g))->sp vs H Q E->
   ∃t,PSs (Er c P w K mg base N d a f g A outer s H E) j t/\t { nx:=λ _ i=>Q .non i,rt:=Q } (start N vs) H):
  FnB P w K mg base c (k+1) f (YO name d h j a L kV C M O g ct) ps sp:=by
 refine ⟨len,λ A outer s H args us vs Q E I p a1 r D=>?_⟩
 have hl:=len _ _ _ _ D;have U:K.In s.heap:=p.mod.kin.keeps λ b o e=>(p.bs b o e).1
 have lim:s.heap.NoLimit:=p.mod.nolimit.keeps λ b o e=>(p.bs b o e).1
 have B:∀y∈ps.zip us,a.names.lookup y.1=some .local\/(a.names.lookup y.1=some .cell/\((cellsFrom (s.heap.objs.size+1) a.names []).lookup y.1).isSome=true):=λ ⟨n,v⟩ a2=>by
  rcases T.par n (FV a2).1 with q | q
  ·exact .inl q
  ·exact .inr ⟨q,FA _ _ _ (.inl q)⟩
 refine codeAny_call_function I.depth (U _ _ a0) rfl T.co T.gen rfl (PySem.W.codeRec_of U S) (a1 _ _ _ _ ?_);refine wpAny_newFunctionEnv_cells T.kind B λ env a3 X x=>?_
 subst a3;refine ⟨lim.keeps x.toInCall.keep,codeAny_func ?_⟩;obtain ⟨t,a4,a5⟩:=z A outer s H vs Q E (I.deeper _) D;have a7:Inv (Er c P w K mg base N d a f g A outer s H E) [] (start N vs) H X:=Ab5 T I.hd p hl r x;refine Jn (a4 [] X (start N vs) H _ a7 a5) (λ a6 s' m=>?_) λ e s' m=>m
 have F:∀{l:St} {i:Hp} {v:V} {u:Value},Inv (Er c P w K mg base N d a f g A outer s H E) [] l i s'->RelV v u->Q v i->CE outer P w H s Q u s':=
  λ {l i v u} G J q=>⟨v,i,G.os,G.bare,G.base,G.hok,J,q⟩
 cases a6 with
 | ret u=>
  obtain ⟨v,l,i,G,J,q⟩:=m;exact F G J q
 | next=>
  obtain ⟨l,i,G,q⟩:=m;exact F (v:=V.non) (u:=Fn) G rfl q
 | brk=>
  obtain ⟨_,_,_,q⟩:=m;exact UP q
 | cont=>
  obtain ⟨_,_,_,q⟩:=m;exact UP q
structure CalB (P:Yf)(w:World)(K:FrG)(mg:Str->Option Value)(base:Heap)(c:Bool)(k:Nat)(x:Str)(ps:List Str)(sp:Sp):Prop where
 ex:∃(f:Addr) (fd:UK),FnB P w K mg base c k f fd ps sp/\mg x=some (.ref f)/\Ya K (.ref f)=true/\Binds K fd ps []
theorem TopFn.calB {c:Bool}{P:Yf}{w:World}{K:FrG}{mg:Str->Option Value}{base:Heap}{x:Str}{st:Stmt}{N ps:List Str}{k:Nat}{sp:Sp}(T:TopFn K mg x st)(p:FnScope N ps (defScope st))
  (h:∀(kV d e:Value) (g:Option Addr) (a ct:Value) (us:List Value),us.length=ps.length->ul (YO x x (defArgs st) (defBody st) (defScope st) .none kV d e g a ct) ⟨us,[]⟩=pure (ps.zip us))
  (len:∀vs H Q E,sp vs H Q E->vs.length=ps.length)
  (b:∀(f:Addr) (a:Value) (A:WB) (outer:List Env) (s:W9) (H:Hp) (vs:List V) (Q:VK) (E:XK),RoomB c k (A.deeper (wo x (defScope st) s.heap.objs.size f a))->sp vs H Q E->
   ∃t,PSs (Er c P w K mg base N x (defScope st) f a A outer s H E) (defBody st) t/\t { nx:=λ _ i=>Q .non i,rt:=Q } (start N vs) H):CalB P w K mg base c (k+1) x ps sp:=by
 obtain ⟨f,fd,j,m⟩:=T.ex;obtain ⟨q,r,kV,d,e,g,a,ct,o,rfl,l,n⟩:=id j.ex;exact ⟨f,_,M5 l n p len (b f a),m,j.kp,j.binds h⟩
theorem Ah {P:Yf}{w:World}{X:Cx}:Passes (Hg P w) X E0:=λ _ _ _ _ _ _ _ h=>by
 obtain ⟨_,_,_,_,_,_,_,_,_,_,_,_,q⟩:=h;exact q.elim
section
variable {X:Cx}{c:Bool}{k:Nat}{ps:List Str}{sp:Sp}{x:Str}{p pos:Pos}{e:Expr}{es:List Expr}{t:TA}{E:XK}
theorem Rk {a:List (Addr×Obj)}{d:St}{H:Hp}{s:W9}{Q:VK}{us:List Value}{vs:List V}{f:Addr}{fd:UK}{g:Value->W9->Prop}(q:FnB X.prog X.w X.K X.mg X.base c k f fd ps sp)(j:RoomB c k X.A)(l:Binds X.K fd ps [])
  (m:Inv X a d H s) (r:Vals vs us) (h:sp (vs++[]) H Q E) (n:∀e s',Hg X.prog X.w X.stack H s E e s'->g e s'):wpAny (model X.prog X.w) X.A (call (.ref f) us) (EP X a d Q) g s:=by
 have i:Vals (vs++[]) (us++[]):=r.append .nil;have hl:(us++[]).length=ps.length:=by rw [<- i.length];exact q.len _ _ _ _ h
 refine wpAny_call (jo (q.run X.A X.stack s H ⟨us,[]⟩ (us++[]) (vs++[]) Q E j m.env0 (l s us m.kIn hl) i h) λ r s' b=>?_)
 cases r with
 | error e=>exact n e s' b
 | ok o=>
  cases o with
  | ret u=>exact m.after b
  | next=>exact UP b
  | brk=>exact UP b
  | cont=>exact UP b
theorem Ai (C:CalB X.prog X.w X.K X.mg X.base c k x ps sp)(j:RoomB c k X.A)(l:Passes (Hg X.prog X.w) X E)(m:PA X (e::es) t)(n:Gl X x:=by rfl)(d:(x == ("__debug__":Str))=false:=by decide)
  (o:XA (e::es) X.env=(false,eval e X.env)::XA es X.env:=by rfl) (g:(yY pos (XA es X.env)).any (·.1)=false:=by rfl):
  PE X (.Call (.Name x p) (e::es) [] pos) (tCall sp [] E t):=by
 obtain ⟨f,fd,F,u,v,y⟩:=C.ex;intro a s i H Q z h;refine QT (M9 z n u ?_ d);refine yb (h₀:=X.base) z.ok.mod.kin v (thn (m pos a s i H _ z h) λ us B ⟨vs,D,b,r,q⟩=>⟨b.kIn,?_⟩) o g
 exact Rk F j y b r q λ e s' h=>l a i D B e s' b h
end
section
variable {X:Cx}{pins:List (Addr×Obj)}{σ:St}{H:Hp}{s:W9}
theorem PA.any {es:List Expr}{t:TA}(h:PA X.nox es t){a:Value->W9->Prop}(pos:Pos){Q:List V->Hp->Prop}(e:Inv X pins σ H s)(q:t σ H Q):
  wpAny (model X.prog X.w) X.A (spliced (yY pos (XA es X.env))) (AP X pins σ Q) a s:=
 Jn (h pos pins s σ H Q (e.wish _) q) (λ us f ⟨vs,b,c,r,d⟩=>⟨vs,b,c.unwish,r,d⟩) λ _ _ z=>z.elim
end
end L2
namespace L2
open PySem PySem.Spec PySem.Calls PyProof.Rows PySem.W Builtin Builtin.ObjectAttr Builtin.Getset_descriptor
end L2
namespace L2
open PySem PySem.Spec PyProof.Rows PySem.Builtin PySem.Builtin.Str
section
variable {X:Cx}
inductive fJ (x:V)(vs:List V)(H:Hp)(Q:VK):Prop | mk:∀i j,(x=.str i)->(vs=[.str j])->(Q (.bl (qb i j)) H)->fJ x vs H Q
theorem AN5:MtM X "str.startswith" fJ:=by
 intro a s e H x vs v us Q f b c h;obtain ⟨i,j,rfl,rfl,q⟩:=h;obtain ⟨t,rfl⟩:=b;obtain ⟨u,rfl,d⟩:=c.one;obtain ⟨t',rfl⟩:=d;exact SC.startswith ⟨.bl _,H,f,rfl,q⟩
theorem Wk:∀(l:List (Str×Tok)),Vals ((l.map (·.1)).map V.str) (strValues l)
 | []=>.nil
 | p::r=>.cons ⟨p.2,rfl⟩ (Wk r)
inductive aL (x:V)(vs:List V)(H:Hp)(Q:VK):Prop | mk:∀i j,(x=.str i)->(vs=[.str j])->((j.length == 0)=false)->(i.length+2<=Y3)->(∀p,H p=none->Q (.ref p) (upd H p (.lst ((XG i j).map V.str))))->aL x vs H Q
theorem Gy:MtM X "str.split" aL:=by
 intro c s f H x vs v us Q o g k h;obtain ⟨i,j,rfl,rfl,d,p,q⟩:=h;obtain ⟨t,rfl⟩:=g;obtain ⟨u,rfl,m⟩:=k.one;obtain ⟨t',rfl⟩:=m;have n:(xo i (WF i j 0 i.length (i.length+1)) j.length).length<=Y3:=by
  have e1:=StrLaws.occ_length_le i j 0 i.length (i.length+1);rw [length_partsBetween];omega
 have b:∀(l:List (Str×Tok)) (tk:Nat),l.map (·.1)=XG i j->l.length<=Y3->EP X c f Q (.ref s.heap.objs.size) { s with heap:=s.heap.push { cls:=.type "list",data:=.seq (strValues l).toArray },toks:=tk }:=λ l tk e hl=>by
  refine ⟨.ref s.heap.objs.size,_,?_,rfl,q _ o.fresh⟩;rw [<- e];exact o.lnew (Wk l) (by rw [Y2,Y2];exact hl)
 cases a:(decide (i.length < j.length) || decide (strKind i < strKind j))
 ·cases hf:(WF i j 0 i.length (i.length+1)).isEmpty
  ·refine xI XY (wE _ _ _) Gc (qc _ _) (meets_str_split_sep i j t t' a d hf (by omega) n) ?_
   show wants _ _ _ { s with toks:=_,heap:=s.heap.push { cls:=.type "list",data:=.seq (strsFrom s.toks (xo i (WF i j 0 i.length (i.length+1)) j.length)).toArray } }
   rw [strsFrom_eq];refine b (numbered s.toks _) _ ((NM _ _).trans ((if_neg (ne_true_of_eq_false a)).trans (if_neg (ne_true_of_eq_false hf))).symm) ?_;have:=congrArg QK (NM s.toks (xo i (WF i j 0 i.length (i.length+1)) j.length));rw [Y2] at this;omega
  ·exact xI XY (wE _ _ _) Gc (qc _ _) (meets_str_split_not_found i j t t' a d hf)
    (b [(i,t)] s.toks ((if_neg (ne_true_of_eq_false a)).trans (if_pos hf)).symm (by show 1<=Y3;decide))
 ·exact xI XY (wE _ _ _) Gc (qc _ _) (meets_str_split_cannot_occur i j t t' a)
   (b [(i,t)] s.toks (if_pos a).symm (by show 1<=Y3;decide))
inductive ie (x:V)(lo:Option Int)(hi:Option Int)(H:Hp)(Q:VK):Prop | mk:∀z,(x=.str z)->(z.length<=Y3)->(Q (.str (Wt z lo hi)) H)->ie x lo hi H Q
theorem Ju:SlR X ie:=by
 intro e s n H x v y A lo hi B Q C p r pl g h;obtain ⟨z,rfl,w,q⟩:=h;obtain ⟨t,rfl⟩:=p;refine ⟨"str",_,F.slot_str_getitem.lookup,wE _ _ _,?_⟩;obtain ⟨o,c,d,hd⟩:=r;have a:∀t' k,EP X e n Q (.str (Wt z lo hi) t') { s with toks:=k }:=λ t' k=>⟨.str _,H,C.tok _,⟨t',rfl⟩,q⟩
 have b:=Zo (Txt.slice_le z lo hi) w;cases pl with
 | none=>
  cases g with
  | none=>exact zS (l:=none) (u:=none) (st:=none) ⟨o,c,d,hd⟩ rfl (uT ⟨b,a⟩)
  | int j f=>exact zS (l:=none) (u:=some (j,f)) (st:=none) ⟨o,c,d,hd⟩ rfl (uT ⟨b,a⟩)
 | int i m=>
  cases g with
  | none=>exact zS (l:=some (i,m)) (u:=none) (st:=none) ⟨o,c,d,hd⟩ rfl (uT ⟨b,a⟩)
  | int j f=>exact zS (l:=some (i,m)) (u:=some (j,f)) (st:=none) ⟨o,c,d,hd⟩ rfl (uT ⟨b,a⟩)
def PJ (X:Cx)(es:List Expr)(t:Str->St->Hp->VK->Prop):Prop:=
 ∀(b:Str) (a:List (Addr×Obj)) (s:W9) (c:St) (H:Hp) (Q:VK),Inv X a c H s->t b c H Q->wpAny (model X.prog X.w) X.A (joinParts b (evalEach es X.env)) (EP X a c Q) X.xe s
def wX (x:V)(y:Str):Prop:=(∃i:Int,x=.int i/\i.natAbs.log2 < 1920/\y=((toString i:String):Str))\/(x=.str y/\y.length<=Y3)
variable {a:Expr}{ta:TE}{es:List Expr}{tr:Str->St->Hp->VK->Prop}{p pos:Pos}
theorem ym:PJ X [] (λ b _ H Q=>b.length<=Y3/\Q (.str b) H):=λ b _ s c H Q d h=>joinParts_nil ⟨.str b,H,d.tok _,⟨_,rfl⟩,h.2⟩ h.1
theorem cY (l:PE X a ta)(f:PJ X es tr):PJ X (.FormattedValue a (-1) none p::es) (λ d c H Q=>ta c H λ x e=>∃y,wX x y/\(d++y).length<=Y3/\tr (d++y) c e Q):=by
 intro d b s c H Q n h;refine joinParts_cons (FormattedValue_plain (thn (l b s c H _ n h) λ v o ⟨x,e,g,j,y,m,k,q⟩=>?_))
 rcases m with ⟨i,rfl,hl,rfl⟩ | ⟨rfl,hl⟩
 ·obtain ⟨t,rfl⟩:=j;exact formatField_int_small hl ⟨k,f _ b _ c e Q (g.tok _) q⟩
 ·obtain ⟨t,rfl⟩:=j;exact formatField_str (λ t' tk=>⟨k,f _ b _ c e Q (g.tok _) q⟩) hl
theorem rF {z:Str}{k:Nat}(e:PJ X es tr):PJ X (.Constant (.str z) k p::es) (λ b c H Q=>(b++z).length<=Y3/\tr (b++z) c H Q):=by
 intro b d s c H Q f h;exact joinParts_cons (Calls.Constant_str ⟨h.1,e _ d _ c H Q (f.tok _) h.2⟩)
theorem yO {e1 e2:Expr}{t:Str->St->Hp->VK->Prop}(h:PJ X (e1::e2::es) t):PE X (.JoinedStr (e1::e2::es) pos) (t ut):=λ b s c H Q d q=>JoinedStr_many (h _ b s c H Q d q)
theorem Qj:CallR X (.type "int") (λ xs H Q=>∃x n,xs=[.str x]/\x.length<=640/\JJ x=some n/\Q (.int n) H):=by
 intro b s e H xs us Q f r h;obtain ⟨x,n,rfl,hl,c,q⟩:=h;obtain ⟨u,rfl,d⟩:=vals1 r;obtain ⟨t,rfl⟩:=d;exact call_int_1 (PySem.W.KIN.gives_text hl c).meets ⟨rfl,⟨.int n,H,f.tok _,⟨_,rfl⟩,q⟩⟩
theorem P0 (t:X.calm=true):CallR X (.builtin "all") (λ xs H Q=>∃(p:Addr) (bs:List Bool),xs=[.ref p]/\SqL X.K H p (bs.map V.bl)/\Q (.bl (bs.all id)) H):=by
 intro w s E H xs us Q x r h;obtain ⟨p,bs,rfl,j,q⟩:=h;obtain ⟨u,rfl,d⟩:=vals1 r;cases d
 obtain ⟨its,f,pl,y⟩:=x.list j;have c:its.toArray.size=bs.length:=by
  have:=f.length;rw [Y2] at this;rw [ZY];exact this.symm
 have l:p < s.heap.objs.size:=by
  obtain ⟨o,e,_⟩:=pl.isList;exact ZU e
 have z:X.A.in1.handled=none:=x.ok.hd t;refine call_all_walk (GG pl.isList ⟨s.heap.objs.size,_,_,_,_,_,λ i=>bs.getD i false,rfl,Walks.list z s.heap.objs.size p (XV l) its.toArray,⟨⟨_,XU _ rfl,rfl,rfl⟩,pl.isList.push _⟩,?_,λ h' tk k=>?_⟩)
 ·intro i v F G I B C;have m:its[i]?=some v:=by simpa using B
  have g:bs[i]?=some (bs.getD i false)/\RelV (.bl (bs.getD i false)) v:=by
   have hi:i < bs.length:=by
    have:=(Yn.mp m).1;rw [<- c,ZY];exact this
   have e1:(bs.map V.bl)[i]?=some (.bl (bs.getD i false)):=by
    rw [ZN,QO,ZO hi];rfl
   obtain ⟨u,n,d⟩:=f.get e1;rw [m] at n;cases n
   refine ⟨?_,d⟩;rw [QO,ZO hi];rfl
  obtain ⟨_,d⟩:=g;cases d
  exact UI C
 ·have e:(Wc its.toArray.size).all (λ i=>bs.getD i false)=bs.all id:=by
   rw [c];clear c f q k j y
   induction bs with
   | nil=>rfl
   | cons b r D=>
    rw [X9,FH,GO,ML,GO,<- D];rfl
  rw [e];exact ⟨.bl _,H,x.kept (h':=h') (t':=tk) λ b o e=>k b o (by
   intro g;have:b=s.heap.objs.size:=by simpa using g
   exact absurd (ZU e) (by rw [this];exact yB _)) (ZE _ e),rfl,q⟩
end
theorem o4 {b:Str}:∀{vs:List Value} {zs:List Str} {a:List Value},AreOf .str vs zs->xr (λ v r=>∃z t,v=.str z t/\r=.bool (!(WF b z 0 b.length 1).isEmpty)) vs a->
  Vals (zs.map λ z=>V.bl (!(WF b z 0 b.length 1).isEmpty)) a
 | _,_,_,.nil,r=>by cases r;exact .nil
 | _,_,_,.cons h c,r=>by
  cases r with
  | cons d f=>
   obtain ⟨t,rfl⟩:=h;obtain ⟨z,t',e,rfl⟩:=d;cases e
   exact .cons rfl (o4 c f)
section
variable {X:Cx}
theorem Inv.laidN {d:List (Addr×Obj)}{g:St}{H:Hp}{s:W9}{a:Addr}{o:HO}{h':Heap}{tk:Nat}(l:Inv X d g H s)(k:∀b u,s.heap.get? b=some u->h'.get? b=some u)(h:s.heap.get? a=none)
  (i:ObjOk X.prog X.w (upd H a o) h' a o):Inv X d g (upd H a o) { s with heap:=h',toks:=tk }:=by
 have f:H a=none:=l.hok.none_of h;refine yt (s':={ s with heap:=h',toks:=tk }) l rfl l.bare ⟨⟨λ b u e _ _ _=>k b u e,λ b u e _ _ _=>⟨u.slots,k b u e⟩,λ b u e n _=>?_,λ b u e _=>⟨u,k b u e⟩,λ b xs e=>?_,λ b u x e=>?_,λ b ps e=>?_⟩,λ b u e=>?_⟩
 ·have:b≠a:=λ z=>by rw [z,h] at e;cases e
  rw [BK this];exact n
 ·rw [BK (Bt e f)];exact e
 ·rw [BK (Bt e f)];exact e
 ·exact ⟨#[],by rw [BK (Bt e f),Array.append_empty];exact e⟩
 ·by_cases j:b=a
  ·subst j;rw [Ar] at e;cases e
   exact i
  ·rw [BK j] at e;exact (l.hok b u e).stay (λ c v _ q=>k c v q) (λ c q=>by rw [BK (Bt q f)];exact q) λ c xs q=>by rw [BK (Bt q f)];exact q
theorem m7 {x R:Str}{a7 a8 S a9 pos:Pos}{iter:Expr}{T:TE}{d:Scope}{F:Str}{b0:Tok}(b1:X.calm=true)(hi:PE X iter T)(b2:X.mg R=some (.str F b0))
  (B:∀y∈d.names,y.2≠.free) (hcell:∀y∈d.names,y.2≠.cell) (j:d.kind=.function) (w:∀y∈d.names,y.2=.local->d.names.lookup y.1=some .local)
  (U:d.names.lookup x=some .local) (b3:d.names.lookup R=some .globalImplicit) (hd:(x == ("__debug__":Str))=false) (W:(R == ("__debug__":Str))=false) (b4:∀x,JW iter X.env x=pure x:=by intro _;rfl) (Y:xv .In (.Name R S)=false:=by rfl):
  PE X (.ListComp (.Compare (.Name x a8) [.In] [.Name R S] a9) [⟨.Name x a7,iter,[],0⟩] d pos)
   (λ G H Q=>T G H λ v I=>∃y,v=.str y/\y.length<=Y3/\∀p,I p=none->Q (.ref p) (upd I p (.lst ((signs y).map λ z=>V.bl (!(WF F z 0 F.length 1).isEmpty))))):=by
 intro J s G H Q c3 h;refine wpAny_ListComp_walk (λ _=>true) (λ v r=>∃z t,v=.str z t/\r=.bool (!(WF F z 0 F.length 1).isEmpty)) B hcell j w U (thn (hi J s G H _ c3 h) λ c4 g ⟨v,I,n,b5,y,e,Z,q⟩=>?_) b4
 subst e;obtain ⟨t,rfl⟩:=b5;refine wpAny_pyIter_str λ o St c5 a0=>?_
 have up:∀(h':Heap),(∀b l,b∉[g.heap.objs.size]->(g.heap.push o).get? b=some l->h'.get? b=some l)->∀b l,g.heap.get? b=some l->h'.get? b=some l:=
  λ h' K b l e=>K b l (old_not_new e) (ZE _ e)
 refine ⟨g.heap.objs.size,[g.heap.objs.size],[g.heap.objs.size],y.cps.size,SignAt y,St,rfl,c5 X.A (n.ok.hd b1),Z,a0,?_,⟨?_,?_⟩,?_⟩
 ·intro b b6;show b < (g.heap.push o).objs.size;rw [jS,W1.mp b6];exact wv _
 ·intro C i v f L b7 D a1 E _ _;exact Yq ⟨rfl,f.heap,f.toks,rfl,λ _ _ e=>e⟩
 ·intro C i v f L b7 D c6 a1 E k _;obtain ⟨c,u,c1,rfl⟩:=D;have ns:f.heap.Ns Zq X.mg:=(n.mod.glob.keeps n.bk).keeps (up f.heap k);refine wpAny_Compare1 (wpAny_Name (uk j U a1 E ?_) hd) Y;refine xc j b3 (GU (by show f.heap.Ns X.env.globals X.mg;rw [n.ok.glob];exact ns) b2 ?_) W
  exact in_str ⟨⟨_,_,rfl,rfl⟩,f.heap,f.toks,rfl,λ _ _ e=>e⟩
 ·intro M h' tk a2 vs N c2 O P D a3 K;have a4:g.heap.get? M=none:=by
   cases e:g.heap.get? M with
   | none=>rfl
   | some b8=>
    have z:(g.heap.push o).get? M=some b8:=ZE _ e;have m:(g.heap.push o).get? M=none:=N;rw [z] at m;cases m
  have a5:xr (λ v r=>∃z t,v=.str z t/\r=.bool (!(WF F z 0 F.length 1).isEmpty)) vs a2.toList:=by
   rw [List.filter_eq_self.mpr (λ _ _=>rfl)] at a3
   exact a3
  have b9:=o4 (areOf_signs P D) a5;obtain ⟨c0,a6⟩:=O;refine ⟨.ref M,_,n.laidN (a:=M) (o:=.lst _) (tk:=tk) (up h' K) a4 ⟨?_,a2.toList,c0,b9,?_⟩,rfl,q M (n.hok.none_of a4)⟩
  ·rw [Y2,signs_length];exact Z
  ·rw [a6]
end
end L2
namespace Tx
open PySem PySem.Builtin PySem.Builtin.Str PySem.NumText PyProof.Rows
abbrev cl (x:Y1):List Nat:=x.cps.toList
theorem ext {x y:Y1}(h:cl x=cl y):x=y:=Y1.ext' (Array.toList_inj.mp h)
theorem Bv (x y:Y1):cl (x++y)=cl x++cl y:=PySem.W.KT.app_list x y
theorem Dm (x:Y1):(cl x).length=x.length:=UF
def dg (m:Nat):List Nat:=(FI 10 m).map Char.toNat
theorem Gn (m:Nat):NW (dg m):=by
 intro c b;obtain ⟨ch,a,e⟩:=XW.mp b;have r:=digit_range (Nat.isDigit_of_mem_toDigits (by decide) (by decide) a)
 rw [<- e];exact r
theorem Q0 (m:Nat):dg m≠[]:=by
 intro e;have h:=toDigits_len_ge 10 m;rw [zD.mp e] at h;exact absurd h (by decide)
theorem XN (m:Nat):digitsVal (dg m)=m:=PySem.W.KIN.val_back m
theorem Lj (i:Int):cl (Z3 (toString i))=(if i < 0 then [45] else [])++dg i.natAbs:=by
 cases i with
 | ofNat m=>
  rw [if_neg (by show ¬ ((m:Int) < 0);omega)]
  exact PySem.W.KIN.signs_num m
 | negSucc m=>
  rw [if_pos (by omega),cl,signs_ofString]
  show (("-"++Nat.repr (m+1)).toList.map Char.toNat)=_;rw [String.toList_append,U4,Nat.toList_repr];rfl
def sh (q:Rat):List Nat:=(if q.num < 0 then [45] else [])++dg q.num.natAbs++(if q.den=1 then [] else 47::dg q.den)
def Ay (q:Rat):Y1:=⟨(sh q).toArray⟩
theorem JP (q:Rat):cl (Ay q)=sh q:=zI
def cut (c:Nat):List Nat->List (List Nat)
 | []=>[[]]
 | a::r=>if a=c then []::cut c r else match cut c r with
  | []=>[[a]]
  | p::ps=>(a::p)::ps
theorem Kd {c:Nat}:∀{p:List Nat},c∉p->cut c p=[p]
 | [],_=>rfl
 | a::r,h=>by
  have b:a≠c:=λ e=>h (e▸U1 ..)
  have d:c∉r:=λ e=>h (Y9 _ e)
  unfold cut;rw [if_neg b,Kd d]
theorem Ij {c:Nat}(r:List Nat):∀{p:List Nat},c∉p->cut c (p++c::r)=p::cut c r
 | [],_=>by
  show cut c (c::r)=_;rw [cut,if_pos rfl]
 | a::p,h=>by
  have b:a≠c:=λ e=>h (e▸U1 ..)
  have d:c∉p:=λ e=>h (Y9 _ e)
  show cut c (a::(p++c::r))=_;rw [cut,if_neg b,Ij r d]
theorem M8 {c:Nat}:∀{ps:List Y1},ps≠[]->(∀p∈ps,c∉cl p)->cut c (cl (ZT ⟨#[c]⟩ ps))=ps.map cl
 | [],h,_=>absurd rfl h
 | [p],_,h=>by
  rw [join_one,Kd (h p (U1 ..))];rfl
 | p::q::r,_,h=>by
  rw [join_cons_cons,Bv,Bv];show cut c (cl p++[c]++cl (ZT ⟨#[c]⟩ (q::r)))=_;rw [Xs];show cut c (cl p++c::cl (ZT ⟨#[c]⟩ (q::r)))=_;rw [Ij _ (h p (U1 ..)),M8 (by simp) λ p a=>h p (Y9 _ a)]
  rfl
theorem JZ (x:Y1)(c:Nat):(XG x ⟨#[c]⟩).map cl=cut c (cl x):=by
 have a:=split_pos x ⟨#[c]⟩;have b:=M8 (c:=c) (ps:=XG x ⟨#[c]⟩) (λ e=>by rw [e] at a;exact absurd a (by decide)) (StrLaws.split_free x c)
 rw [MA] at b;exact b.symm
theorem yd (x:Y1)(c:Nat):qb x ⟨#[c]⟩=decide ((cl x).head?=some c):=by
 obtain ⟨⟨l⟩⟩:=x;cases l with
 | nil=>rfl
 | cons a r=>
  show (decide (0+1<=(a::r).toArray.size) && ((a::r).toArray.extract 0 (0+1) == #[c]))=decide (some a=some c);by_cases h:a=c
  ·subst h;simp
  ·simp [h]
theorem Xf:∀r:List Nat,(Wc r.length).filterMap (λ k=>r[k]?)=r
 | []=>rfl
 | a::r=>by
  rw [X9,FH,List.filterMap_cons_some (by rfl),xA]
  show a::(Wc r.length).filterMap (λ k=>r[k]?)=_
  rw [Xf r]
theorem tZ (x:Y1):cl (Wt x (some 1) none)=(cl x).drop 1:=by
 obtain ⟨⟨l⟩⟩:=x;cases l with
 | nil=>rfl
 | cons a r=>
  have e:QI (some 1) none 1 (r.length+1)=(Wc r.length).map (·+1):=by
   unfold QI sliceRange;simp only [show (1:Int) > 0 by decide,if_true]
   have b:max 0 (min (if (1:Int) < 0 then 1+((r.length+1:Nat):Int) else 1) ((r.length+1:Nat):Int))=1:=by
    rw [if_neg (by decide)]
    omega
   rw [b];have c:(if (1:Int) < ((r.length+1:Nat):Int) then (((r.length+1:Nat):Int) - 1+1 - 1) / 1 else 0).toNat=r.length:=by
    split<;>simp<;>omega
   rw [c]
   apply zJ
   intro k _;omega
  have hl:(UC (a::r).toArray).length=r.length+1:=by
   show (a::r).toArray.size=_;simp
  show cl (Wt (UC (a::r).toArray) (some 1) none)=r;unfold Wt;rw [hl,e];rw [if_neg (by simp)]
  show ((((Wc r.length).map (·+1)).filterMap (λ k=>(a::r).toArray[k]?)).toArray).toList=r
  rw [zI,xA];have:((λ k=>(a::r).toArray[k]?) ∘ λ x=>x+1)=λ k=>r[k]?:=by
   funext k
   simp
  rw [this,Xf]
theorem yq (c:Nat):(!(WF (Z3 "0123456789") ⟨#[c]⟩ 0 (Z3 "0123456789").length 1).isEmpty)=decide (48<=c/\c<=57):=by
 rw [StrLaws.found_one,signs_ofString];show decide (c∈[48,49,50,51,52,53,54,55,56,57])=_
 apply decide_eq_decide.mpr
 simp only [X2,YN,or_false];omega
end Tx
namespace Fr
theorem Qu (i:Int):(if i < 0 then -i else i)=(i.natAbs:Int):=by omega
theorem cX (m n:Nat):Go n (m % n)=Go m n:=by
 rw [MM n (m % n),<- Nat.gcd_rec n m,MM]
def gcd (a b:Int):Int:=((Go a.natAbs b.natAbs:Nat):Int)
theorem cH (a b:Int):0<=gcd a b:=Int.natCast_nonneg _
theorem ZL {a b:Int}(h:b≠0):0 < gcd a b:=by
 unfold gcd;have:0 < Go a.natAbs b.natAbs:=Nat.gcd_pos_of_pos_right _ (by omega)
 omega
theorem jY {a b:Int}(h:b≠0):gcd a b<=(b.natAbs:Int):=by
 unfold gcd;have:Go a.natAbs b.natAbs<=b.natAbs:=Nat.gcd_le_right _ (by omega)
 omega
theorem Yj (a b:Int):gcd a b ∣ a:=by
 unfold gcd;exact Int.ofNat_dvd_left.mpr (Nat.gcd_dvd_left _ _)
theorem m9 (a b:Int):gcd a b ∣ b:=by
 unfold gcd;exact Int.ofNat_dvd_left.mpr (Nat.gcd_dvd_right _ _)
def sg (t b:Int):Int:=if b < 0 then 0 - gcd t b else gcd t b
def lt (t b:Int):Int:=t.fdiv (sg t b)
def lb (t b:Int):Int:=b.fdiv (sg t b)
theorem Jg {t b:Int}(h:b≠0):sg t b≠0:=by
 unfold sg;have:=ZL (a:=t) h
 split<;>omega
theorem WP {t b:Int}:(sg t b).natAbs=(gcd t b).natAbs:=by
 unfold sg
 split<;>omega
theorem zf (t b:Int):sg t b ∣ t:=by
 unfold sg
 split
 ·rw [FK];exact Int.neg_dvd.mpr (Yj t b)
 ·exact Yj t b
theorem zr (t b:Int):sg t b ∣ b:=by
 unfold sg
 split
 ·rw [FK];exact Int.neg_dvd.mpr (m9 t b)
 ·exact m9 t b
theorem g8 {a b:Int}(h:b ∣ a):a.fdiv b * b=a:=by
 rw [Int.fdiv_eq_ediv_of_dvd h];exact Int.ediv_mul_cancel h
theorem VG (t b:Int):lt t b * sg t b=t:=g8 (zf t b)
theorem Yl (t b:Int):lb t b * sg t b=b:=g8 (zr t b)
theorem Ac7 {t b:Int}(h:b≠0):0 < lb t b:=by
 have e:=Yl t b;have f:=ZL (a:=t) h;have c:sg t b=if b < 0 then 0 - gcd t b else gcd t b:=rfl
 rcases GA (lb t b) 0 with z | z | z
 ·exfalso;by_cases d:b < 0
  ·rw [if_pos d] at c;have:0 < lb t b * sg t b:=by
    rw [c];exact Int.mul_pos_of_neg_of_neg z (by omega)
   omega
  ·rw [if_neg d] at c;have:lb t b * sg t b < 0:=by
    rw [c];exact Int.mul_neg_of_neg_of_pos z f
   omega
 ·rw [z] at e;omega
 ·exact z
theorem eV {n k:Nat}(h:n < 2 ^ k)(a:0 < k):n.log2 < k:=by
 by_cases z:n=0
 ·subst z;simpa using a
 ·exact (Nat.log2_lt z).mpr h
theorem uQ {t b:Int}(h:b≠0):(lb t b).natAbs<=b.natAbs:=by
 have e:=Yl t b;have d:=Jg (t:=t) h;have a:(lb t b).natAbs * (sg t b).natAbs=b.natAbs:=by rw [<- WH,e]
 have c:1<=(sg t b).natAbs:=by omega
 calc (lb t b).natAbs=(lb t b).natAbs * 1:=(Nat.mul_one _).symm
  _<=(lb t b).natAbs * (sg t b).natAbs:=Nat.mul_le_mul_left _ c
  _=b.natAbs:=a
end Fr
namespace Fr
theorem AK0 (t b:Int):((b.gcd t:Nat):Int)=gcd t b:=by
 unfold gcd Int.gcd;rw [MM]
theorem Uk {t b:Int}(h:b≠0):lt t b=(XB t b).num:=by
 have g:=ZL (a:=t) h;rw [Rat.num_divInt,AK0];have e:=VG t b;have d:gcd t b ∣ b.sign * t:=Int.dvd_mul_of_dvd_right (Yj t b);refine (Int.ediv_eq_of_eq_mul_left (by omega) ?_).symm
 have c:sg t b=b.sign * gcd t b:=by
  unfold sg;rcases GA b 0 with z | z | z
  ·rw [if_pos z,qf z];omega
  ·exact absurd z h
  ·rw [if_neg (by omega),FM z];omega
 have f:b.sign * b.sign=1:=by
  rcases GA b 0 with z | z | z
  ·rw [qf z];rfl
  ·exact absurd z h
  ·rw [FM z];rfl
 calc b.sign * t=b.sign * (lt t b * sg t b):=by rw [e]
  _=(b.sign * b.sign) * (lt t b * gcd t b):=by rw [c];grind
  _=lt t b * gcd t b:=by rw [f];omega
theorem qC {t b:Int}(h:b≠0):lb t b=((XB t b).den:Int):=by
 have e1:=VG t b;have e2:=Yl t b;have i:=Jg (t:=t) h;have n:=Uk (t:=t) h;have c:(XB t b).num * b=t * ((XB t b).den:Int):=by
  have z:XB (XB t b).num ((XB t b).den:Int)=XB t b:=xD _;have e:(((XB t b).den:Nat):Int)≠0:=by
   have:=(XB t b).den_nz;omega
  exact (Rat.divInt_eq_divInt_iff e h).mp z
 by_cases a:t=0
 ·subst a;have:XB 0 b=0:=Rat.zero_divInt b;rw [this];have j:gcd 0 b=(b.natAbs:Int):=by unfold gcd;simp
  have k:=Ac7 (t:=0) h;have d:(lb 0 b).natAbs * (sg 0 b).natAbs=b.natAbs:=by rw [<- WH,e2]
  rw [WP,j] at d;have f:0 < b.natAbs:=by omega
  have l:(lb 0 b).natAbs=1:=by
   have:(lb 0 b).natAbs * b.natAbs=1 * b.natAbs:=by simpa using d
   exact Nat.eq_of_mul_eq_mul_right f this
  show lb 0 b=1;omega
 ·rw [<- n] at c;have g:t * lb t b=t * ((XB t b).den:Int):=by
   rw [<- c]
   calc t * lb t b=(lt t b * sg t b) * lb t b:=by rw [e1]
    _=lt t b * (lb t b * sg t b):=by grind
    _=lt t b * b:=by rw [e2]
  exact Int.eq_of_mul_eq_mul_left a g
theorem den_pos (q:Rat):0 < (q.den:Int):=by
 have:=q.den_pos;omega
theorem GF (q:Rat):XB q.num (q.den:Int)=q:=xD q
theorem GD (q:Rat):(q.den:Int)≠0:=by have:=den_pos q;omega
theorem Z6 (p q:Rat):XB (p.num * q.den+q.num * p.den) (p.den * q.den)=p+q:=by
 rw [<- Na _ _ (GD p) (GD q),GF,GF]
theorem gM (p q:Rat):XB (p.num * q.den - q.num * p.den) (p.den * q.den)=p - q:=by
 rw [<- Rat.divInt_sub_divInt _ _ (GD p) (GD q),GF,GF]
theorem RK (p q:Rat):XB (p.num * q.num) (p.den * q.den)=p * q:=by
 rw [<- wr,GF,GF]
theorem nF (p q:Rat):XB (p.num * q.den) (p.den * q.num)=p / q:=by
 rw [Rat.div_def,<- wr,GF]
 congr 1
 have:=Rat.inv_divInt q.num q.den;rw [GF] at this;exact this.symm
theorem mD (p q:Rat):p.num * q.den < q.num * p.den↔p < q:=(Rat.lt_iff p q).symm
theorem qZ (q:Rat):q.num=0↔q=0:=Rat.num_eq_zero
end Fr
namespace Fr
theorem zK (t b:Int)(h:b≠0):(lt t b).natAbs<=t.natAbs:=by
 have e:=VG t b;have d:=Jg (t:=t) h;have a:(lt t b).natAbs * (sg t b).natAbs=t.natAbs:=by rw [<- WH,e]
 have c:1<=(sg t b).natAbs:=by omega
 calc (lt t b).natAbs=(lt t b).natAbs * 1:=(Nat.mul_one _).symm
  _<=(lt t b).natAbs * (sg t b).natAbs:=Nat.mul_le_mul_left _ c
  _=t.natAbs:=a
end Fr
namespace L2
open PySem PySem.Spec PyProof.Rows
theorem TopFn.calN {c:Bool}{P:Yf}{w:World}{K:FrG}{mg:Str->Option Value}{base:Heap}{x:Str}{st:Stmt}{N ps:List Str}{k:Nat}{sp:Sp}(T:TopFn K mg x st)(o:FnScope N ps (defScope st))
  (e:∀(kV d g:Value) (i:Option Addr) (a ct:Value) (us:List Value),us.length=ps.length->ul (YO x x (defArgs st) (defBody st) (defScope st) .none kV d g i a ct) ⟨us,[]⟩=pure (ps.zip us))
  (len:∀vs H Q E,sp vs H Q E->vs.length=ps.length)
  (b:∀(f:Addr) (a:Value) (A:WB) (outer:List Env) (s:W9) (H:Hp) (vs:List V) (Q:VK) (E:XK),RoomB c k (A.deeper (wo x (defScope st) s.heap.objs.size f a))->sp vs H Q E->
   ∃t,PSs (Er c P w K mg base N x (defScope st) f a A outer s H E).nox (defBody st) t/\t { nx:=λ _ j=>Q .non j,rt:=Q } (start N vs) H):CalB P w K mg base c (k+1) x ps sp:=
 T.calB o e len λ f a A outer s H vs Q E l h=>by
  obtain ⟨t,m,n⟩:=b f a A outer s H vs Q E l h;exact ⟨t,m.nox,n⟩
theorem Fun.okB {c:Bool}{P:Yf}{w:World}{K:FrG}{mg:Str->Option Value}{base:Heap}{x:Str}{st:Stmt}{f:Addr}{fd:UK}{N ps:List Str}{k:Nat}{sp:Sp}(o:Fun K x x st f fd)(p:FnScope N ps (defScope st))
  (len:∀vs H Q E,sp vs H Q E->vs.length=ps.length)
  (b:∀(a:Value) (A:WB) (outer:List Env) (s:W9) (H:Hp) (vs:List V) (Q:VK) (E:XK),RoomB c k (A.deeper (wo x (defScope st) s.heap.objs.size f a))->sp vs H Q E->
   ∃t,PSs (Er c P w K mg base N x (defScope st) f a A outer s H E).nox (defBody st) t/\t { nx:=λ _ d=>Q .non d,rt:=Q } (start N vs) H):FnB P w K mg base c (k+1) f fd ps sp:=by
 obtain ⟨q,r,kV,m,u,v,a,ct,n,rfl,l,e⟩:=id o.ex;exact M5 l e p len λ A outer s H vs Q E g h=>by
  obtain ⟨t,i,j⟩:=b a A outer s H vs Q E g h;exact ⟨t,i.nox,j⟩
end L2
namespace Lib
open PySem L2
def lim:Nat:=2 ^ 9000
theorem kj {n:Nat}(h:n < lim):n.log2 < 9000:=Fr.eV h (by decide)
theorem cQ {n:Nat}(h:n < lim):n < 2 ^ 10000:=QB h (by unfold lim;decide+kernel)
inductive pL (vs:List V)(H:Hp)(Q:VK)(zz3:XK):Prop | mk:∀a b:Int,(vs=[.int a,.int b])->(Q (.int (Fr.gcd a b)) H)->pL vs H Q zz3
inductive spLaw (K:FrG)(vs:List V)(H:Hp)(Q:VK)(zz3:XK):Prop | mk:∀(a:Addr) (ns:List Int),(vs=[.ref a])->(SqL K H a (ns.map V.int))->(ns.length<=63)->(∀H',Q (.bl true) H')->spLaw K vs H Q zz3
theorem Fq (i j:Int):decide (V.int i=V.int j)=decide (i=j):=by
 by_cases h:i=j
 ·subst h;simp
 ·have:¬ V.int i=V.int j:=λ z=>h (V.int.inj z)
  rw [decide_eq_false h,decide_eq_false this]
theorem Jl {xs:List V}{r:Int}(b:0<=r)(c:r < (xs.length:Int)):∃v,atI xs r=some v/\v∈xs:=by
 have a:r.toNat < xs.length:=by omega
 have e:((r.toNat:Nat):Int)=r:=by omega
 have q:atI xs ((r.toNat:Nat):Int)=some xs[r.toNat]:=Bh (ZO a);rw [e] at q;exact ⟨_,q,List.getElem_mem a⟩
theorem AW7 (ns:List Int)(lo hi:Option Int):∀x∈cutV (ns.map V.int) lo hi,∃z:Int,x=.int z:=λ x a=>by
 unfold cutV at a;have b:=List.mem_of_mem_drop (ua a);obtain ⟨z,_,rfl⟩:=XW.mp b;exact ⟨z,rfl⟩
theorem uM (a b c d:Int):UZ (.tuple [.int a,.int b]) (.tuple [.int c,.int d])=(decide (a=c) && decide (b=d)):=by
 simp only [UZ,Md,Bool.and_true];by_cases e:a=c<;>by_cases f:b=d<;>simp [e,f]
abbrev xm (q:Rat):HO:=.tup [.int q.num,.int (q.den:Int)]
def Cq:Nat:=2 ^ 4000
theorem R9:(10:Nat) ^ 40 < Cq:=by unfold Cq;decide+kernel
theorem qe:Cq < lim:=by unfold lim Cq;decide+kernel
theorem z7:Cq * Cq+Cq * Cq < lim:=by unfold lim Cq;decide+kernel
structure Sm (q:Rat):Prop where
 n:q.num.natAbs < Cq
 d:q.den < Cq
theorem Sm.neg {q:Rat}(h:Sm q):Sm (-q):=⟨by rw [Nt,Jf];exact h.n,by rw [Nw];exact h.d⟩
theorem zY {a b:Nat}(c:a < Cq)(d:b < Cq):a * b < Cq * Cq:=ww c d
theorem K8 {x y:Int}(a:x.natAbs < Cq)(b:y.natAbs < Cq):(x * y).natAbs < lim:=by
 rw [WH];have:=zY a b;have:=z7;omega
theorem Dt {x y:Int}(a:x.natAbs < Cq)(b:y.natAbs < Cq):CMulW x y:=⟨cQ (QB a qe),cQ (QB b qe)⟩
theorem Sm.dn {q:Rat}(h:Sm q):((q.den:Int)).natAbs < Cq:=by rw [YV];exact h.d
theorem Xg (q:Rat):((q.den:Nat):Int)≠0:=by have:=q.den_nz;omega
theorem Ml (q:Rat):(0:Int) < ((q.den:Nat):Int):=by have:=q.den_nz;omega
theorem Ib (p q:Rat):((p.den:Int)) * (q.den:Int)≠0:=yl (Xg p) (Xg q)
theorem sU {t b:Int}(h:b≠0):(HO.tup [.int (Fr.lt t b),.int (Fr.lb t b)])=xm (XB t b):=by
 rw [Fr.Uk h,Fr.qC h]
theorem AG2 (q:Rat):Fr.gcd q.num (q.den:Int)=1:=by
 unfold Fr.gcd;have:=q.reduced;unfold Nat.Coprime at this;rw [YV,this];rfl
theorem Qy (p q:Rat):UZ (.tuple [.int p.num,.int (p.den:Int)]) (.tuple [.int q.num,.int (q.den:Int)])=decide (p=q):=by
 rw [uM];by_cases h:p=q
 ·subst h;simp
 ·rw [decide_eq_false h];by_cases a:p.num=q.num
  ·have b:¬ ((p.den:Int)=(q.den:Int)):=λ z=>h (Rat.ext a (Int.ofNat.inj z))
   simp [b]
  ·simp [a]
end Lib
namespace Tx
open PySem PySem.Builtin PySem.Builtin.Str PySem.NumText PyProof.Rows
theorem Fe {m k:Nat}(a:0 < k):(dg m).length<=k↔m < 10 ^ k:=by
 unfold dg;rw [Y2];exact Nat.length_toDigits_le_iff (by decide) a
theorem um (m:Nat):1<=(dg m).length:=by
 have:=Q0 m;cases h:dg m with
 | nil=>exact absurd h this
 | cons a r=>simp
structure Short (q:Rat):Prop where
 n:q.num.natAbs < 10 ^ 15
 d:q.den < 10 ^ 15
theorem Ru (m:Nat):47∉dg m:=λ h=>by have:=Gn m 47 h;omega
theorem vq (m:Nat):45∉dg m:=λ h=>by have:=Gn m 45 h;omega
theorem AT7 (m:Nat)(r:List Nat):(dg m++r).head?≠some 45:=by
 cases h:dg m with
 | nil=>exact absurd h (Q0 m)
 | cons a l=>
  intro e;have b:some a=some 45:=e;cases b
  exact vq m (by rw [h];exact U1 ..)
theorem AR7 (q:Rat):decide ((sh q).head?=some 45)=decide (q.num < 0):=by
 apply decide_eq_decide.mpr
 unfold sh;by_cases h:q.num < 0
 ·rw [if_pos h];simp [h]
 ·rw [if_neg h,Qb];exact ⟨λ e=>absurd e (AT7 _ _),λ e=>absurd e h⟩
def bd (q:Rat):List Nat:=dg q.num.natAbs++(if q.den=1 then [] else 47::dg q.den)
theorem zm (q:Rat):(if q.num < 0 then (sh q).drop 1 else sh q)=bd q:=by
 unfold sh bd;by_cases h:q.num < 0
 ·rw [if_pos h,if_pos h];rfl
 ·rw [if_neg h,if_neg h];rfl
theorem wU (q:Rat):cut 47 (bd q)=if q.den=1 then [dg q.num.natAbs] else [dg q.num.natAbs,dg q.den]:=by
 unfold bd;by_cases h:q.den=1
 ·rw [if_pos h,if_pos h,YY,Kd (Ru _)]
 ·rw [if_neg h,if_neg h,Ij _ (Ru _),Kd (Ru _)]
theorem bN (q:Rat)(h:Short q):(sh q).length<=40:=by
 have a:=(Fe (m:=q.num.natAbs) (k:=15) (by decide)).mpr h.n
 have b:=(Fe (m:=q.den) (k:=15) (by decide)).mpr h.d
 unfold sh;rw [X1,X1]
 split<;>split<;>simp only [X9,YG]<;>omega
theorem uq (q:Rat):(ut++Z3 (toString q.num))++(Z3 "/")++Z3 (toString ((q.den:Nat):Int))=(⟨((if q.num < 0 then [45] else [])++dg q.num.natAbs++47::dg q.den).toArray⟩:Y1):=by
 apply ext
 rw [Bv,Bv,Bv,Lj,Lj];show []++_++[47]++_=_;rw [cl,zI,if_neg (show ¬ (((q.den:Nat):Int) < 0) by omega)]
 simp
end Tx
namespace Lib
open PySem L2 Tx PySem.NumText
theorem AR3 (x:Y1):((QP x).map λ z=>V.bl (!(WF (Z3 "0123456789") z 0 (Z3 "0123456789").length 1).isEmpty))=((cl x).map λ c=>decide (48<=c/\c<=57)).map V.bl:=by
 unfold QP;rw [zh,zh]
 apply zJ
 intro c _;show V.bl (!(WF (Z3 "0123456789") ⟨#[c]⟩ 0 (Z3 "0123456789").length 1).isEmpty)=V.bl (decide (48<=c/\c<=57));rw [yq]
theorem AX5 (l:List Nat):((l.map λ c=>decide (48<=c/\c<=57)).all id)=true↔NW l:=by
 unfold NW;rw [ML,GV];simp
theorem Ss {i:Int}(h:i.natAbs.log2 < 1920):(Z3 (toString i)).length<=2000:=by
 rw [<- Dm,Lj,X1];have a:i.natAbs < 10 ^ 1900:=by
  by_cases z:i.natAbs=0
  ·rw [z];exact NA (by decide)
  ·have b:i.natAbs < 2 ^ 1920:=(Nat.log2_lt z).mp h;exact QB b (by decide+kernel)
 have c:=(Fe (m:=i.natAbs) (k:=1900) (by decide)).mpr a
 split<;>simp only [X9,YG]<;>omega
theorem Ck (x y:Y1):(x++y).length=x.length+y.length:=by
 rw [<- Dm,Bv,X1,Dm,Dm]
theorem CW {n:Nat}(h:n<=10000):n<=Y3:=Zo h (by decide)
end Lib
namespace Tx
theorem zF:Z3 "-"=⟨#[45]⟩:=by rfl
theorem AG7:Z3 "/"=⟨#[47]⟩:=by rfl
end Tx
namespace Lib
open PySem L2 Tx PySem.NumText
end Lib
namespace Lib
open PySem L2 Tx
theorem Sm.zero:Sm 0:=⟨by show (0:Int).natAbs < Cq;exact QB (by decide) R9,by show 1 < Cq;exact QB (by decide) R9⟩
theorem Sm.one:Sm 1:=⟨by show (1:Int).natAbs < Cq;exact QB (by decide) R9,by show 1 < Cq;exact QB (by decide) R9⟩
inductive aO (vs:List V)(H:Hp)(Q:VK)(zz3:XK):Prop | mk:∀t b:Int,(vs=[.int t,.int b])->(b≠0)->(b.natAbs < lim)->(∀p,H p=none->Q (.ref p) (upd H p (.tup [.int (Fr.lt t b),.int (Fr.lb t b)])))->aO vs H Q zz3
end Lib
namespace L2
open PySem PySem.Spec PyProof.Rows
section
variable {prog:Yf}{w:World}{A:WB}{R:Result->W9->Prop}{s:W9}
theorem vV {g a iter:Expr}{i:List Expr}{e:Scope}{pos:Pos}{it j:Value}{env:Env}(C:Nat->W9->Prop)
  (turn:∀n s,C n s->wpAny (model prog w) A (pyNext it) (λ r b=>match r with
   | none=>R (.ok .next) b
   | some v=>wpAny (model prog w) A (xy a it v) (λ _ f=>wpAny (model prog w) A (FR a env v) (λ _ k=>
     wpAny (model prog w) A (forIn i true λ c r=>if r=true then do let ok <- isTrue c env (eval c env);pure (Qr ok) else pure (Qr r)) (λ ok d=>
      if ok=true then wpAny (model prog w) A (eval g env) (λ x l=>
       wpAny (model prog w) A (call (.builtin "list.append") [j,x]) (λ _ o=>∃m,m < n/\C m o) (λ _ _=>False) l) (λ _ _=>False) d
      else ∃m,m < n/\C m d) (λ _ _=>False) k) (λ _ _=>False) f) (λ _ _=>False) b) (λ _ _=>False) s)
  (n:Nat) (h:C n s):
  GL (model prog w) A (.compLoop (.ListComp g [⟨a,iter,i,0⟩] e pos) 0 it j env) R s:=by
 refine codeAny_loop rfl C (λ n s D=>?_) n h
 show wpAny _ A ((compTurn (.ListComp g [⟨a,iter,i,0⟩] e pos) 0 it j env).onRaise (λ x=>do noteFrame x env;theTreesLotGoes x)) _ _ s
 refine wpAny_noted ?_;rw [compTurn_list];refine ZA (wW (ZA (Jn (turn n s D) (λ r b p=>?_) λ _ _ z=>z.elim)))
 cases r with
 | none=>exact Yq p
 | some v=>
  refine ZA (Jn p (λ _ f t=>?_) λ _ _ z=>z.elim)
  refine ZA (Jn t (λ _ k u=>ZA (Jn u (λ ok d q=>?_) λ _ _ z=>z.elim)) λ _ _ z=>z.elim)
  cases ok with
  | false=>exact Yq ⟨rfl,q⟩
  | true=>
   exact ZA (ZA (Jn q (λ x l y=>ZA (Jn y (λ _ o B=>Yq (Yq ⟨rfl,B⟩)) λ _ _ z=>z.elim)) λ _ _ z=>z.elim))
end
def Ci (X:Cx)(a:Scope)(cl:List (Str×Addr))(c:List Str)(C:Addr)(d:List Addr)(b:List (Addr×Obj))(e:W9)(f:Hp):Cx:=
 { X with N:=c,s₀:=e,H₀:=f,env:=NN a cl C X.env,outer:=X.stack,ex:=d,fn:=λ _=>false,pn:=X.pn++b,xe:=λ _ _=>False }
structure CapOk (X:Cx)(scope:Scope)(cl:List (Str×Addr)):Prop where
 clos:closureFor scope X.env=pure cl
 sub:∀y c,cl.lookup y=some c->X.env.cells.lookup y=some c
 has:∀y,((xz scope X.env).names.lookup y=some .cell\/(xz scope X.env).names.lookup y=some .free)->∃c,cl.lookup y=some c
theorem tW {a:Scope}{env:Env}(b:∀y∈a.names,y.2≠.free):(xz a env).names=a.names:=by
 unfold xz;exact map_eq_self (l:=a.names) λ x c=>by
  obtain ⟨n,k⟩:=x;have:(k == zt)=false:=by simpa using b _ c
  simp [this]
theorem Fw {X:Cx}{a:Scope}(b:∀y∈a.names,y.2≠.free)(hcell:∀y∈a.names,y.2≠.cell):CapOk X a []:=by
 refine ⟨closureFor_none b,λ y c e=>(by simp at e),λ y e=>?_⟩
 rw [tW b] at e;exfalso;rcases e with e | e
 ·exact hcell _ (Uf e) rfl
 ·exact b _ (Uf e) rfl
def Js (a:List (Option Nat))(b:St):St:=a.map λ o=>o.bind λ j=>(b[j]?).join
section
variable {X:Cx}{pins:List (Addr×Obj)}{σ:St}{H2:Hp}{s2:W9}{scope:Scope}{cl:List (Str×Addr)}{N':List Str}{C:Addr}{fp:List Addr}{caps:List (Option Nat)}
theorem Xv (d:Inv X pins σ H2 s2){b:Addr}(a:b≠X.env.locals)(c:b∉X.fs):b∉frs X.stack:=λ z=>(X2.mp (d.stkSub b z)).elim a c
theorem tY (f:Inv X pins σ H2 s2)(hf:∀b∈fp,FpOk X pins H2 b)(hl:∀b∈fp,b < s2.heap.objs.size)(I:scope.kind=.function)(a:CapOk X scope cl)(A:s2.heap.objs.size<=C){r:W9}(os:r.os=s2.os)(bare:wn r.gens)
  (k:∀b o,s2.heap.get? b=some o->r.heap.get? b=some o) (ns:r.heap.Ns C λ _=>none) (J:caps.length=N'.length)
  (B:∀(i j:Nat),caps[i]?=some (some j)->∃y:Str,N'[i]?=some y/\X.N[j]?=some y/\(xz scope X.env).names.lookup y=some .cell/\X.env.scope.names.lookup y=some .cell):
  Inv (Ci X scope cl N' C fp pins s2 H2) [] (Js caps σ) H2 r:=by
 have w:∀b:Addr,b < s2.heap.objs.size->b≠C:=λ b h=>XV (Y7 h A)
 refine ⟨⟨f.ok.mod,?_,f.ok.glob,f.ok.blt,A,λ y z c s g=>f.ok.inj y z c (a.sub y c s) (a.sub z c g),λ y h=>a.has y h,(λ y c z=>nomatch z),f.ok.hd,f.ok.frames,.inl rfl,λ b l=>⟨w b (hl b l),λ y c e=>(hf b l).2.2.2.2.1 y c (a.sub y c e)⟩,
  λ b o e=>f.bs b o e,Zo f.ok.bsz f.sz,λ b o e l=>?_,λ b l=>Xv f (hf b l).2.1 (hf b l).2.2.1,f.stack,f.stkFree⟩,
  os,bare,Un.kept k,⟨_,ns,λ i y v s g U=>?_⟩,λ y c e=>?_,f.hok.fresh A,λ y c e=>f.freeC y c (a.sub y c e),λ p t=>?_,f.hok.kept k,?_⟩
 ·show (xz scope X.env).kind=.function;exact I
 ·rcases (hf b l).2.2.2.1 with z | z
  ·exact f.ok.noex b o e z
  ·exact absurd (Y7 (ZU e) (Zo f.ok.bsz z)) (yB _)
 ·have s:N'[i]?=some y:=s;unfold Js at g;rw [ZN] at g;cases D:caps[i]? with
  | none=>rw [D] at g;cases g
  | some o=>
   rw [D] at g;cases o with
   | none=>cases g
   | some j=>
    obtain ⟨V,e1,e2,E,F⟩:=B i j D;rw [s] at e1;cases e1
    have K:σ[j]?=some (some v):=by
     have z:(σ[j]?).join=some v:=by simpa using g
     cases q:σ[j]? with
     | none=>rw [q] at z;cases z
     | some W=>rw [q] at z;exact congrArg some z
    obtain ⟨m,Y,L⟩:=f.loc;obtain ⟨u,M,O⟩:=L j y v e2 K (.inr (.inl F));refine ⟨u,M,.inr ⟨.inl E,?_⟩⟩;rcases O with ⟨z,_⟩ | ⟨_,c,P,Q,G,H⟩
    ·rw [show X.env.kindOf y=X.env.scope.names.lookup y from rfl,F] at z;cases z
    ·obtain ⟨R,x⟩:=a.has y (.inl E);have:=a.sub y R x;rw [P] at this;cases this
     exact ⟨c,x,Q,k _ _ G,H⟩
 ·obtain ⟨v,o,S,hd⟩:=f.cell y c (a.sub y c e);exact ⟨v,o,k _ _ S,hd⟩
 ·have t:p∈(X.pn++pins)++[]:=t;rw [YY] at t;obtain ⟨e,n,ne,T,d⟩:=f.pin p t;exact ⟨k _ _ e,n,w _ (ZU e),Xv f ne T,d⟩
 ·show (Js caps σ).length=N'.length;unfold Js;rw [Y2];exact J
theorem dJ {pl:List (Addr×Obj)}{s:St}{k:Hp}{s':W9}{l:Addr}{items:Array Value}{p:List V}{g:Heap}(M:Inv X pins σ H2 s2)(hf:∀b∈fp,FpOk X pins H2 b)(a:Inv (Ci X scope cl N' C fp pins s2 H2) pl s k s')
  (t:s'.heap.PlainList l items) (h:k l=none) (r:s2.heap.get? l=none) (w:l≠C) (y:Vals p items.toList) (A:p.length<=Y3) (i:ya C s'.heap g):Inv X pins σ (upd k l (.lst p)) { s' with heap:=g }:=by
 have B:s2.heap.objs.size<=C:=a.ok.above;have j:∀b o,s2.heap.get? b=some o->b≠C:=λ b o e=>XV (Y7 (ZU e) B)
 have x:k C=none:=a.free;obtain ⟨D,E⟩:=t;refine M.call' (s':={ s' with heap:=g }) (ch:=fp) a.os ⟨λ b o e n d f=>i.extBut b o (j b o e) (a.base.keep b o e n d f),λ b o e n d f=>?_,λ b o e n f=>?_,λ b o e f=>?_,λ b xs e=>?_,λ b o u e=>?_,λ b ps e=>?_⟩ (λ b o e=>?_) a.bare λ b d=>?_
 ·obtain ⟨F,q⟩:=a.base.slot b o e n d f;exact ⟨F,i.extBut b _ (j b o e) q⟩
 ·have:b≠l:=λ z=>by rw [z,r] at e;cases e
  rw [BK this];exact a.base.free b o e n f
 ·obtain ⟨G,q⟩:=a.base.there b o e f;exact ⟨G,i.extBut b _ (j b o e) q⟩
 ·have q:=a.base.tups b xs e;rw [BK (Bt q h)];exact q
 ·have q:=a.base.frzs b o u e;rw [BK (Bt q h)];exact q
 ·obtain ⟨m,q⟩:=a.base.tbls b ps e;exact ⟨m,by rw [BK (Bt q h)];exact q⟩
 ·by_cases d:b=l
  ·subst d;rw [Ar] at e;cases e
   exact ⟨A,items.toList,D,y,i.extBut _ _ w E⟩
  ·rw [BK d] at e;refine (a.hok b o e).stay (λ c v H q=>i.extBut c v ?_ q) (λ c q=>by rw [BK (Bt q h)];exact q) λ c xs q=>by rw [BK (Bt q h)];exact q
   intro z;subst z;rcases H with z | z
   ·rw [<- z,x] at e;cases e
   ·rw [x] at z;cases z
 ·obtain ⟨N,I,O,J,K,L⟩:=hf b d;exact ⟨J,I,K,L⟩
end
def CK (X:Cx)(d:List Expr)(t:TT):Prop:=
 ∀(a:List (Addr×Obj)) (s:W9) (b:St) (H:Hp) (Q:Bool->Hp->Prop),Inv X a b H s->t b H Q->
  wpAny (model X.prog X.w) X.A (forIn d true λ c r=>if r=true then do let ok <- isTrue c X.env (eval c X.env);pure (Qr ok) else pure (Qr r)) (TP X a b Q) X.xe s
def IK:TT:=λ _ H Q=>Q true H
theorem Fd {X:Cx}:CK X [] IK:=λ a s b H Q c h=>by
 simp only [List.forIn_nil];exact Yq ⟨H,c,h⟩
theorem XX {X:Cx}{c:Expr}{t:TT}(d:PT X c t):CK X [c] t:=λ a s e H Q g h=>by
 simp only [yn,List.forIn_nil,if_true];exact ZA (ZA (Jn (d a s e H Q g h) (λ b s' f=>Yq (Yq f)) λ _ _ x=>x))
def Ir (r:TG)(tt:TT)(j:TE)(k:It)(l:St)(n:Hp)(Q:VK):Prop:=∃h:Nat->Nat->St->List V->Hp->Prop,(∃m,h 0 m l [] n)/\∀i m e c H,h i m e c H->c.length<=Y3/\
 ((k.stop i H/\∀p,H p=none->Q (.ref p) (upd H p (.lst c)))\/
   (k.go i H/\∀x f,k.yld i H x f->r x e f λ a o=>tt a o λ b g=>if b=true then j a g λ y q=>∃d,d < m/\h (i+1) d a (c++[y]) q else ∃d,d < m/\h (i+1) d a c g))
def Jh (c:TI)(f:TG)(tt:TT)(d:TE)(a:List (Option Nat)):TE:=λ b H Q=>c b H λ g e=>Ir f tt d g (Js a b) e Q
theorem jA {X:Cx}{tg a7 iter:Expr}{Y:List Expr}{a:Scope}{pos:Pos}{f1:TI}{k5:TG}{tt:TT}{f2:TE}{cl:List (Str×Addr)}(D:List Str)(P:List (Option Nat))(f3:X.calm=true)(hi:PI X tg iter f1)
  (h1:∀C k g R l,PG (Ci X a cl D C k g R l) tg k5) (h2:∀C k g R l,CK (Ci X a cl D C k g R l) Y tt) (h3:∀C k g R l,PE (Ci X a cl D C k g R l) a7 f2)
  (a8:CapOk X a cl) (hcell:∀y∈a.names,y.2≠.cell) (S:a.kind=.function) (b4:∀y∈a.names,y.2=.local->a.names.lookup y.1=some .local) (h4:P.length=D.length)
  (d6:∀(i j:Nat),P[i]?=some (some j)->∃y:Str,D[i]?=some y/\X.N[j]?=some y/\(xz a X.env).names.lookup y=some .cell/\X.env.scope.names.lookup y=some .cell)
  (h5:∀x,JW iter X.env x=pure x) {g:List (Addr×Obj)} {s:W9} {b5:St} {H:Hp} {Q:VK} {use:Option (Value->Sem Unit)} {QQ:Value->W9->Prop}
  (f4:∀(C G:Addr) (k:List Addr) (R b3:W9) (l c2:Hp) (pl:List (Addr×Obj)) (F:St) (items:Array Value) (t:List V),Inv X g b5 l R->(∀b∈k,FpOk X g l b)->Inv (Ci X a cl D C k g R l) pl F c2 b3->b3.heap.PlainList G items->c2 G=none->R.heap.get? G=none->G≠C->
   Vals t items.toList->t.length<=Y3->(∀p,c2 p=none->Q (.ref p) (upd c2 p (.lst t)))->compPost (model X.prog X.w) X.A X.xe use QQ (.ref G) C (.ok .next) b3)
  (k8:Inv X g b5 H s) (h:Jh f1 k5 tt f2 P b5 H Q):wpAny (model X.prog X.w) X.A (comprehension (.ListComp a7 [⟨tg,iter,Y,0⟩] a pos) a X.env (firstIterPos [⟨tg,iter,Y,0⟩] pos) (newList []) false (eval iter X.env) use) QQ X.xe s:=by
 refine wpAny_comprehension_free (use:=use) rfl h5 a8.clos S b4 (thn (hi g s b5 H _ k8 h) λ k9 a3 I=>thn I λ k6 f d7=>?_)
 obtain ⟨it,k,b6,l2,l,rfl,Z,T,c9,c3,h6,⟨h7,h8⟩,turn⟩:=d7;have b7:∀b∈k,b < f.heap.objs.size:=λ b q=>by obtain ⟨o,e,_⟩:=T.obj _ _ c9 b q;exact ZU e
 refine zk (wpAny_newFunctionEnv hcell (by intro y h9;simp at h9) (λ I L J=>?_) S)
 dsimp only at L J ⊢
 generalize b8:f.heap.push { cls:=.type "list",dict:=none,data:=.seq ([]:List Value).toArray }=a0 at L J ⊢;have d8:a0.objs.size=f.heap.objs.size+1:=by rw [<- b8,jS]
 have a9:f.heap.objs.size≠a0.objs.size:=by rw [d8];exact XV (wv _)
 have d9:f.heap.objs.size<=a0.objs.size:=by rw [d8];exact qV _
 have b0:∀b,b < f.heap.objs.size->b≠a0.objs.size:=λ b q=>by rw [d8];exact XV (Nat.lt_succ_of_lt q)
 have old:∀b o,f.heap.get? b=some o->I.get? b=some o:=λ b o e=>J.extBut b o (b0 b (ZU e)) (ZE _ (b8▸ZE _ e))
 have e0:I.PlainList f.heap.objs.size #[]:=⟨_,J.extBut _ _ a9 (ZE _ (b8▸XU _ rfl))⟩;have U:f.heap.get? f.heap.objs.size=none:=Ni (ZK _);have f5:l f.heap.objs.size=none:=Z.hok.fresh (ZK _);generalize b1:f.heap.objs.size=G at *;generalize k7:a0.objs.size=C at *;have d0:∀b∈k,b≠G:=λ b q=>XV (b7 b q)
 have W:∀{B:Hp} {pl:List (Addr×Obj)},(∀p∈pl,p.1=G)->(∀b∈k,B b=none)->∀b∈k,FpOk (Ci X a cl D C k g f l) pl B b:=λ {B pl} f6 i0 b q=>by
  obtain ⟨l0,i1,f7,l1,i2,i3⟩:=c3 b q;refine ⟨i0 b q,b0 b (b7 b q),Xv Z i1 f7,.inl q,λ y c e=>i2 y c (a8.sub y c e),λ p K=>?_⟩
  rcases YE.mp K with K | K
  ·exact i3 p K
  ·rw [f6 p K];exact (d0 b q).symm
 have f8:∀n s',(∃i F t,∃(items:Array Value),∃B,Inv (Ci X a cl D C k g f l) [] F B s'/\b6 i s'.heap/\(∀b∈k,B b=none)/\s'.heap.PlainList G items/\Vals t items.toList/\B G=none/\h6 i n F t B)->
   wpAny (model X.prog X.w) X.A (pyNext (.ref it)) (λ r a3=>match r with
   | none=>compPost (model X.prog X.w) X.A X.xe use QQ (.ref G) C (.ok .next) a3
   | some v=>wpAny (model X.prog X.w) X.A (xy tg (.ref it) v) (λ _ c4=>wpAny (model X.prog X.w) X.A (FR tg (NN a cl C X.env) v) (λ _ c5=>
     wpAny (model X.prog X.w) X.A (forIn Y true λ c r=>if r=true then do let ok <- isTrue c (NN a cl C X.env) (eval c (NN a cl C X.env));pure (Qr ok) else pure (Qr r)) (λ ok E=>
      if ok=true then wpAny (model X.prog X.w) X.A (eval a7 (NN a cl C X.env)) (λ x e1=>
       wpAny (model X.prog X.w) X.A (call (.builtin "list.append") [.ref G,x]) (λ _ a4=>∃m,m < n/\∃i F t,∃(items:Array Value),∃B,Inv (Ci X a cl D C k g f l) [] F B a4/\b6 i a4.heap/\(∀b∈k,B b=none)/\a4.heap.PlainList G items/\Vals t items.toList/\B G=none/\h6 i m F t B) (λ _ _=>False) e1) (λ _ _=>False) E
      else ∃m,m < n/\∃i F t,∃(items:Array Value),∃B,Inv (Ci X a cl D C k g f l) [] F B E/\b6 i E.heap/\(∀b∈k,B b=none)/\E.heap.PlainList G items/\Vals t items.toList/\B G=none/\h6 i m F t B) (λ _ _=>False) c5) (λ _ _=>False) c4) (λ _ _=>False) a3) (λ _ _=>False) s':=by
  rintro n e2 ⟨i,O,t,items,b9,i4,d1,d2,f9,b2,g0,i5⟩
  obtain ⟨i6,i7⟩:=turn i n O t b9 i5;obtain ⟨a5,c6⟩:=id f9;have e3:G∉frs X.stack:=λ z=>by
   obtain ⟨_,o,e,_⟩:=Z.stack.mem z;rw [U] at e;cases e
  have d3:Inv (Ci X a cl D C k g f l) [(G,{ cls:=.type "list",data:=.seq items a5 })] O b9 e2:=i4.pins_of λ p K=>by
   have e:p=(G,{ cls:=.type "list",data:=.seq items a5 }):=by simpa using K
   subst e;exact ⟨c6,g0,a9,e3,λ v z=>by cases z⟩
  have one:∀p∈[(G,({ cls:=.type "list",data:=.seq items a5 }:Obj))],p.1=G:=λ p K=>by
   have e:p=(G,{ cls:=.type "list",data:=.seq items a5 }):=by simpa using K
   subst e;rfl
  rcases i7 with ⟨stop,i8⟩ | ⟨go,step⟩
  ·refine thn (T.done (Ci X a cl D C k g f l) rfl rfl rfl f3 i _ e2 O b9 (λ _ _=>False) d3 (W one d2) d1 stop) λ r b3 ⟨e4,g1⟩=>?_
   subst e4;obtain ⟨i9,g2,_⟩:=g1.pin _ (YA _ (W1.mpr rfl));exact f4 C G k f b3 l b9 _ O items t Z c3 g1 ⟨a5,i9⟩ g2 (b1▸U) a9 b2 i6 i8
  ·refine thn (T.item (Ci X a cl D C k g f l) rfl rfl rfl f3 i _ e2 O b9 (λ _ _=>False) d3 (W one d2) d1 go) λ r b3 ⟨u,e4,j0⟩=>?_
   subst e4;refine thn j0 λ _ g3 ⟨x,g4,j1,j2,j3,c0,g5⟩=>?_
   have g6:=j1.pinned (W one g5) (T.obj _ _ c0);refine thn (h1 C k g f l _ g3 O g4 x u _ g6 j2 (step x g4 j3)) λ _ j4 ⟨M,j5,j6,j7⟩=>?_
   refine thn (h2 C k g f l _ j4 M j5 _ j6 j7) λ b j8 ⟨g7,g8,c7⟩=>?_
   have back:∀{a1:Hp} {a2:W9},Inv (Ci X a cl D C k g f l) ([(G,({ cls:=.type "list",data:=.seq items a5 }:Obj))]++pinsAt k g3.heap) M a1 a2->
     Inv (Ci X a cl D C k g f l) [] M a1 a2/\b6 (i+1) a2.heap/\(∀b∈k,a1 b=none)/\a2.heap.PlainList G items/\a1 G=none:=λ {a1 a2} a6=>by
    refine ⟨a6.pins_of (λ p K=>nomatch K),T.keep _ _ _ c0 λ b q o e=>(a6.pin (b,o) (YA _ (YA _ (Qh q e)))).1,λ b q=>?_,?_,?_⟩
    ·obtain ⟨o,e,d⟩:=T.obj _ _ c0 b q;exact (a6.pin (b,o) (YA _ (YA _ (Qh q e)))).2.1
    ·exact ⟨a5,(a6.pin _ (YA _ (UQ _ (W1.mpr rfl)))).1⟩
    ·exact (a6.pin _ (YA _ (UQ _ (W1.mpr rfl)))).2.1
   cases b with
   | false=>
    rw [if_neg ZH] at c7;obtain ⟨e5,e6,j9⟩:=c7;obtain ⟨e7,e8,e9,f0,c8⟩:=back g8;rw [if_neg ZH];exact ⟨e5,e6,i+1,M,t,items,g7,e7,e8,e9,f0,b2,c8,j9⟩
   | true=>
    rw [if_pos rfl] at c7;rw [if_pos rfl];refine thn (h3 C k g f l _ j8 M g7 _ g8 c7) λ v a2 ⟨y,a1,a6,k0,e5,e6,k1⟩=>?_
    obtain ⟨e7,e8,e9,f0,c8⟩:=back a6;have g9:items.size<=Y3:=by
     have e:t.length=items.size:=by simpa using b2.length
     omega
    refine wpAny_list_append_plain (hsz:=g9) f0 λ k2 h0 d4=>?_
    have nc:∀y c,cl.lookup y=some c->c≠G:=λ y c e z=>by
     obtain ⟨v,o,c6,_⟩:=Z.cell y c (a8.sub y c e);rw [z,U] at c6;cases c6
    have np:∀p∈(X.pn++g)++[],p.1≠G:=λ p K z=>by
     rw [YY] at K;have e:=(Z.pin p K).1;rw [z,U] at e;cases e
    have k3:Inv (Ci X a cl D C k g f l) [] M a1 { a2 with heap:=k2 }:=e7.turned (it:=G) (t':=a2.toks) (λ b o q e=>d4.extBut b o q e) c8 a9 (.inr (ME b1)) nc np
    refine ⟨e5,e6,i+1,M,t++[y],items.push v,a1,k3,T.keep _ _ _ e8 λ b q o e=>d4.extBut b o (d0 b q) e,e9,h0,?_,c8,k1⟩
    rw [Array.toList_push];exact b2.append (.cons k0 .nil)
 have k4:Inv (Ci X a cl D C k g f l) [] (Js P b5) l { f with heap:=I,toks:=f.toks+([]:List (Str×Value)).length }:=
  tY Z c3 (λ b q=>b1▸b7 b q) S a8 (by rw [b1];exact d9) rfl Z.bare old L h4 d6
 have d5:b6 0 I:=T.keep _ _ _ c9 λ b _ o e=>old b o e
 have c1:∀E:W9,E={ f with heap:=I,toks:=f.toks+([]:List (Str×Value)).length }->
   GL (model X.prog X.w) X.A (.compLoop (.ListComp a7 [⟨tg,iter,Y,0⟩] a pos) 0 (.ref it) (.ref G) (NN a cl C X.env)) (compPost (model X.prog X.w) X.A X.xe use QQ (.ref G) C) E:=by
  rintro E rfl
  exact vV _ f8 h7 ⟨0,_,[],#[],l,k4,d5,λ b q=>(c3 b q).1,e0,.nil,f5,h8⟩
 exact codeAny_compStart_list (c1 _ rfl) (T.self X.A 0 _ _ _ d5 (c1 _ rfl))
theorem Fz {X:Cx}{tg n iter:Expr}{o:List Expr}{a:Scope}{pos:Pos}{r:TI}{S:TG}{tt:TT}{t:TE}{cl:List (Str×Addr)}(d:List Str)(c:List (Option Nat))(B:X.calm=true)(hi:PI X tg iter r)
  (D:∀C e b f g,PG (Ci X a cl d C e b f g) tg S) (E:∀C e b f g,CK (Ci X a cl d C e b f g) o tt) (F:∀C e b f g,PE (Ci X a cl d C e b f g) n t)
  (u:CapOk X a cl) (hcell:∀y∈a.names,y.2≠.cell) (l:a.kind=.function) (k:∀y∈a.names,y.2=.local->a.names.lookup y.1=some .local) (G:c.length=d.length)
  (p:∀(i j:Nat),c[i]?=some (some j)->∃y:Str,d[i]?=some y/\X.N[j]?=some y/\(xz a X.env).names.lookup y=some .cell/\X.env.scope.names.lookup y=some .cell)
  (I:∀x,JW iter X.env x=pure x:=by intro _;rfl):
  PE X (.ListComp n [⟨tg,iter,o,0⟩] a pos) (Jh r S tt t c):=by
 intro b s V H Q W h;rw [eval_ListComp];refine jA (use:=none) d c B hi D E F u hcell l k G p I (λ C T e f Y g Z pl U items a0 J K v w z q A L M O=>?_) W h
 obtain ⟨m,P,_⟩:=v.loc;exact ⟨m,P,λ h' R=>⟨.ref T,_,dJ J K v w z q A L M R,rfl,O T z⟩⟩
def iD (i:Nat)(t:TE):TS:=λ c a H=>t a H λ v b=>c.nx (a.set i (some v)) b
theorem cu {X:Cx}{tg n iter:Expr}{q:List Expr}{a:Scope}{pos B D:Pos}{U:TI}{d0:TG}{tt:TT}{V:TE}{cl:List (Str×Addr)}{y:Str}{i:Nat}(W:X.N.Nodup)(Y:X.N[i]?=some y)(a8:Loc X.env.scope y)(r:List Str)(f:List (Option Nat))(a9:X.calm=true)(hi:PI X tg iter U)
  (b0:∀C t d k u,PG (Ci X a cl r C t d k u) tg d0) (b1:∀C t d k u,CK (Ci X a cl r C t d k u) q tt) (b2:∀C t d k u,PE (Ci X a cl r C t d k u) n V)
  (Z:CapOk X a cl) (hcell:∀y∈a.names,y.2≠.cell) (G:a.kind=.function) (E:∀y∈a.names,y.2=.local->a.names.lookup y.1=some .local) (b3:f.length=r.length)
  (Q:∀(i j:Nat),f[i]?=some (some j)->∃y:Str,r[i]?=some y/\X.N[j]?=some y/\(xz a X.env).names.lookup y=some .cell/\X.env.scope.names.lookup y=some .cell)
  (b4:∀x,JW iter X.env x=pure x:=by intro _;rfl) (a0:js (.ListComp n [⟨tg,iter,q,0⟩] a pos) (some (.Name y D)) B.line X.env=pure true:=by rfl)
  (a1:X.fn y=true\/X.env.scope.names.lookup y=some .local:=by first | exact .inl rfl | exact .inr rfl | assumption):
  PS X (.Assign [.Name y D] (.ListComp n [⟨tg,iter,q,0⟩] a pos) B) (iD i (Jh U d0 tt V f)):=by
 intro d s R H d3 d4 h;rw [exec_Assign_Name_used _ _ _ _ a0];refine ZA (wW (ZA ?_));show wpAny _ X.A (do let _ <- comprehension (.ListComp n [⟨tg,iter,q,0⟩] a pos) a X.env _ (newList []) false (eval iter X.env) (some (FR (.Name y D) X.env))) _ _ s
 refine ZA (Jn (jA (use:=some (FR (.Name y D) X.env)) (QQ:=λ _ s'=>SP X d d3 .next s') r f a9 hi b0 b1 b2 Z hcell G E b3 Q b4
  (λ C g t k S u I pl d1 items J w b5 K a2 a3 T O b6 b7 b8=>?_) d4 h) (λ _ s' b9=>Yq (Yq b9)) λ _ _ e=>e)
 have F:k.heap.objs.size<=C:=K.ok.above;obtain ⟨m,c0,_⟩:=K.loc;obtain ⟨L,es,c2,a4,P,M⟩:=id c0;have d2:Inv X d R (upd I g (.lst J)) S:=dJ w b5 K a2 a3 T O b6 b7 (MO ..);have a5:upd I g (.lst J) C=none:=by rw [BK (UX O)];exact K.free
 have c1:C≠X.env.locals:=MD (Y7 w.lt F);have c3:C∉X.fs:=w.nofs F;have c4:Inv X (d++[(C,L)]) R (upd I g (.lst J)) S:=d2.pins_of λ p l=>by
  rcases YE.mp l with l | l
  ·exact d2.pin p (YA _ l)
  ·have e:p=(C,L):=by simpa using l
   subst e;exact ⟨a4,a5,c1,c3,λ v z=>by rw [P] at z;cases z⟩
 show wpAny _ X.A (FR (.Name y D) X.env (.ref g)) _ _ S;refine wpAny_assign_Name (K7 c4 W Y a8 (show RelV (.ref g) (Wp g) from rfl) (λ a6 a7=>?_) a1)
 obtain ⟨c5,_⟩:=a7.pin (C,L) (YA _ (YA _ (W1.mpr rfl)));refine ⟨m,⟨L,es,c2,c5,P,M⟩,λ h' c6=>?_⟩
 have c7:Inv X d (R.set i (some (.ref g))) (upd I g (.lst J)) a6:=a7.unpinned;refine ⟨_,_,c7.turned (it:=C) (t':=a6.toks) (λ b o c8 e=>c6.extBut b o c8 e) a5 c1 (.inr (Zo w.sz F)) (λ x c e z=>?_) (λ p l z=>?_),b8 g a3⟩
 ·obtain ⟨v,o,c9,_⟩:=w.cell x c e;exact absurd (ZU c9) (by rw [z];exact Nat.not_lt.mpr F)
 ·have e:=(w.pin p l).1;exact absurd (ZU e) (by rw [z];exact Nat.not_lt.mpr F)
theorem SqT.keep {K:FrG}{H b:Hp}{a:Addr}{xs:List V}(s:Same H b)(h:SqT K H a xs):SqT K b a xs:=by
 rcases h with (h | ⟨o,h⟩) | h
 ·exact .inl (.inl (s _ _ h))
 ·exact .inl (.inr ⟨o,s _ _ h⟩)
 ·exact .inr h
theorem SqL.keep {K:FrG}{H b:Hp}{a:Addr}{xs:List V}(s:Same H b)(h:SqL K H a xs):SqL K b a xs:=s.seq h
mutual
theorem DV.keep {K:FrG}{H a:Hp}(s:Same H a):∀{v:V} {d:U2},DV K H v d->DV K a v d
 | _,_,.non=>.non
 | _,_,.bl b=>.bl b
 | _,_,.int i=>.int i
 | _,_,.str x=>.str x
 | _,_,.lst h q=>.lst (h.keep s) (DVs.keep s q)
 | _,_,.tup h q=>.tup (h.keep s) (DVs.keep s q)
 | _,_,.dct h=>.dct (s _ _ h)
theorem DVs.keep {K:FrG}{H a:Hp}(s:Same H a):∀{vs:List V} {ds:List U2},DVs K H vs ds->DVs K a vs ds
 | _,_,.nil=>.nil
 | _,_,.cons h q=>.cons (DV.keep s h) (DVs.keep s q)
end
section
variable {K:FrG}{H:Hp}{v:V}{vs:List V}{d d1 d2 d3 d4:U2}{ds:List U2}
theorem DVs.len:∀{vs:List V} {ds:List U2},DVs K H vs ds->vs.length=ds.length
 | _,_,.nil=>rfl
 | _,_,.cons _ q=>by rw [X9,X9,DVs.len q]
theorem DVs.nil_of (h:DVs K H vs []):vs=[]:=by cases h;rfl
theorem DVs.cons_of (h:DVs K H vs (d::ds)):∃x xs,vs=x::xs/\DV K H x d/\DVs K H xs ds:=by
 cases h with
 | cons h q=>exact ⟨_,_,rfl,h,q⟩
theorem DV.tup_of (h:DV K H v (.tuple ds)):∃a xs,v=.ref a/\SqT K H a xs/\DVs K H xs ds:=by
 cases h with
 | tup h q=>exact ⟨_,_,rfl,h,q⟩
theorem DV.lst_of (h:DV K H v (.list ds)):∃a xs,v=.ref a/\SqL K H a xs/\DVs K H xs ds:=by
 cases h with
 | lst h q=>exact ⟨_,_,rfl,h,q⟩
theorem DVs.one (h:DVs K H vs [d1]):∃x,vs=[x]/\DV K H x d1:=by
 cases h with
 | cons h q=>cases q;exact ⟨_,rfl,h⟩
theorem DVs.two (h:DVs K H vs [d1,d2]):∃x y,vs=[x,y]/\DV K H x d1/\DV K H y d2:=by
 cases h with
 | cons h q=>
  obtain ⟨y,rfl,a⟩:=q.one;exact ⟨_,_,rfl,h,a⟩
theorem DVs.three (h:DVs K H vs [d1,d2,d3]):∃x y z,vs=[x,y,z]/\DV K H x d1/\DV K H y d2/\DV K H z d3:=by
 cases h with
 | cons h q=>
  obtain ⟨y,z,rfl,a,b⟩:=q.two;exact ⟨_,_,_,rfl,h,a,b⟩
theorem DVs.four (h:DVs K H vs [d1,d2,d3,d4]):∃x y z u,vs=[x,y,z,u]/\DV K H x d1/\DV K H y d2/\DV K H z d3/\DV K H u d4:=by
 cases h with
 | cons h q=>
  obtain ⟨y,z,u,rfl,a,b,c⟩:=q.three;exact ⟨_,_,_,_,rfl,h,a,b,c⟩
theorem DV.t2 (h:DV K H v (.tuple [d1,d2])):∃a x y,v=.ref a/\SqT K H a [x,y]/\DV K H x d1/\DV K H y d2:=by
 obtain ⟨a,xs,rfl,b,q⟩:=h.tup_of;obtain ⟨x,y,rfl,c,e⟩:=q.two;exact ⟨a,x,y,rfl,b,c,e⟩
theorem DV.t3 (h:DV K H v (.tuple [d1,d2,d3])):∃a x y z,v=.ref a/\SqT K H a [x,y,z]/\DV K H x d1/\DV K H y d2/\DV K H z d3:=by
 obtain ⟨a,xs,rfl,b,q⟩:=h.tup_of;obtain ⟨x,y,z,rfl,c,e,f⟩:=q.three;exact ⟨a,x,y,z,rfl,b,c,e,f⟩
theorem DV.t4 (h:DV K H v (.tuple [d1,d2,d3,d4])):∃a x y z u,v=.ref a/\SqT K H a [x,y,z,u]/\DV K H x d1/\DV K H y d2/\DV K H z d3/\DV K H u d4:=by
 obtain ⟨a,xs,rfl,b,q⟩:=h.tup_of;obtain ⟨x,y,z,u,rfl,c,e,f,g⟩:=q.four;exact ⟨a,x,y,z,u,rfl,b,c,e,f,g⟩
theorem DV.int_of {i:Int}(h:DV K H v (.int i)):v=.int i:=by cases h;rfl
theorem DV.str_of {x:Str}(h:DV K H v (.str x)):v=.str x:=by cases h;rfl
theorem DV.bl_of {b:Bool}(h:DV K H v (.bool b)):v=.bl b:=by cases h;rfl
theorem DV.non_of (h:DV K H v .none):v=.non:=by cases h;rfl
theorem DVs.get:∀{vs:List V} {ds:List U2} {i:Nat} {v:V},DVs K H vs ds->vs[i]?=some v->∃d,ds[i]?=some d/\DV K H v d
 | _,_,_,_,.nil,e=>by simp at e
 | _,_,0,_,.cons h _,e=>by simp at e;subst e;exact ⟨_,rfl,h⟩
 | _,_,i+1,v,.cons _ q,e=>by
  obtain ⟨d,a,b⟩:=DVs.get (i:=i) (v:=v) q (by simpa using e)
  exact ⟨d,by simpa using a,b⟩
theorem DVs.append:∀{vs a:List V} {ds es:List U2},DVs K H vs ds->DVs K H a es->DVs K H (vs++a) (ds++es)
 | _,_,_,_,.nil,q=>q
 | _,_,_,_,.cons h t,q=>.cons h (DVs.append t q)
theorem DVs.take:∀{vs:List V} {ds:List U2} (n:Nat),DVs K H vs ds->DVs K H (vs.take n) (ds.take n)
 | _,_,0,_=>.nil
 | _,_,_+1,.nil=>.nil
 | _,_,n+1,.cons h t=>.cons h (DVs.take n t)
theorem DVs.drop:∀{vs:List V} {ds:List U2} (n:Nat),DVs K H vs ds->DVs K H (vs.drop n) (ds.drop n)
 | _,_,0,h=>h
 | _,_,_+1,.nil=>.nil
 | _,_,n+1,.cons _ t=>DVs.drop n t
end
def KC:U2->String
 | .none=>"NoneType"
 | .bool _=>"bool"
 | .int _=>"int"
 | .str _=>"str"
 | .list _=>"list"
 | .tuple _=>"tuple"
 | .dict _=>"dict"
section
variable {X:Cx}
theorem Fv:CallR X (.builtin "isinstance") (λ xs H Q=>∃x d c b,xs=[x,.ty c]/\DV X.K H x d/\Bu (KC d) c=some b/\Q (.bl b) H):=by
 intro k s m H xs us Q j r h;obtain ⟨x,d,c,b,rfl,hd,e,q⟩:=h;obtain ⟨u,v,rfl,f,l⟩:=vals2 r;cases (show v=jv c from l)
 have g:=uA (K:=X.K) e;have a:∀tk,EP X k m Q (.bool b) { s with toks:=tk }:=λ tk=>⟨.bl b,H,j.tok _,rfl,q⟩
 cases hd with
 | non=>exact M7 j f .non g a
 | bl b=>exact M7 j f (.bl b) g a
 | int i=>exact M7 j f (.int i) g a
 | str x=>exact M7 j f (.str x) g a
 | lst h _=>
  cases f
  obtain ⟨its,l,⟨o,n,e1,e2,_⟩,_⟩:=j.list h;exact WG qS j.kIn ⟨o,e1,e2⟩ g (λ z=>nomatch z) a
 | tup h _=>
  cases f
  obtain ⟨its,l,⟨o,e1,e2,_⟩,_⟩:=j.tuple h;exact WG My j.kIn ⟨o,e1,e2⟩ g (λ z=>nomatch z) a
 | dct h=>exact M7 j f (.dK h) g a
end
section
variable {X:Cx}{K:FrG}
theorem YW (a:X.K=K:=by rfl):IxR X (rIxT K):=a▸Al
end
def Mt (K:FrG)(a:Addr):It:=
 ⟨λ i H=>∃xs x,SqL K H a xs/\xs[i]?=some x,λ i H x b=>∃p v,H p=none/\x=.ref p/\(∀xs,SqL K H a xs->xs[i]?=some v)/\b=upd H p (.tup [.int i,v]),λ i H=>∃xs,SqL K H a xs/\xs.length<=i⟩
theorem AS6 {P:Yf}{w:World}{K:FrG}{M:List Expr}{x1}{N:Pos}(a e it:Addr)(J:e≠it):Turn P w K (.Tuple M x1 N) (Mt K a) [e,it] e (λ i h=>(∃old,IsEnum h e it (i:Int) old)/\h.IsListIter it a i) where
 mem:=by simp
 obj:=λ i h ⟨⟨old,st⟩,b2,b3,c7,d'⟩ b f=>by
  rcases X2.mp f with z | z
  ·subst z;exact ⟨_,st,λ v q=>by cases q⟩
  ·have z:b=it:=by simpa using z
   subst z;exact ⟨b2,b3,λ v q=>by rw [d'] at q;cases q⟩
 keep:=λ i h h' ⟨⟨old,st⟩,g⟩ k=>⟨⟨old,k e (by simp) _ st⟩,g.at λ o q=>k it (by simp) o q⟩
 item:=by
  intro X O Q R a1 i l s a2 H E C hf ⟨⟨old,st⟩,g⟩ S;subst O Q R;obtain ⟨xs,x,D,T⟩:=S;obtain ⟨its,U,p,b4⟩:=C.list D;obtain ⟨u,b5,b6⟩:=U.get T;obtain ⟨a3,a4,c8,b7,b8,b9⟩:=hf e (by simp)
  obtain ⟨F,G,c0,V,W,Y⟩:=hf it (by simp)
  refine wpAny_pyNext_enum_item st g p.isList (x:=u) (by simpa using b5) J λ c9 a5 Z a6 c6 a7=>?_
  refine ⟨_,rfl,?_⟩;refine wpAny_letOwnedTupleGo_enum a5 λ a0 a8 t=>?_
  have A:∀b o,s.heap.get? b=some o->b≠s.heap.objs.size:=λ b o q=>XV (ZU q)
  have B:∀b o,b≠e->b≠it->s.heap.get? b=some o->a0.get? b=some o:=λ b o L a9 q=>t.extBut b o L (a7 b o L a9 q)
  have I:∀b o,H b=some o->b≠e/\b≠it:=λ b o q=>⟨(λ z=>by rw [z,a3] at q;cases q),λ z=>by rw [z,F] at q;cases q⟩
  have j:H s.heap.objs.size=none:=C.hok.fresh (ZK _);have b0:a0.get? s.heap.objs.size=some { cls:=.type "tuple",data:=.seq #[.int i s.toks,u] }:=t.extBut _ _ (MD (ZU st)) a6;have d0:Inv X l a2 (upd H s.heap.objs.size (.tup [.int i,x])) { s with heap:=a0,toks:=s.toks+1 }:=by
   refine C.step (g':=s.gens) (d':=s.drawn) (ch:=[e,it]) (λ b f=>?_) (λ b o _ _ d q n=>B b o (λ z=>d (by simp [z])) (λ z=>d (by simp [z])) q) (λ b o _ _ d q n=>⟨o.slots,B b o (λ z=>d (by simp [z])) (λ z=>d (by simp [z])) q⟩)
    (λ b o _ q n=>by rw [BK (A b o q)];exact n) (λ b o d q=>⟨o,B b o (λ z=>d (by simp [z])) (λ z=>d (by simp [z])) q⟩)
    (λ b b1 q=>by rw [BK (Bt q j)];exact q) (λ b o y q=>by rw [BK (Bt q j)];exact q) (λ b ps q=>⟨#[],by rw [BK (Bt q j),q];simp⟩) (λ m c1=>?_) (λ b o q=>?_) C.bare
   ·rcases X2.mp f with z | z
    ·subst z;exact ⟨b7,a4,b8,b9⟩
    ·have z:b=it:=by simpa using z
     subst z;exact ⟨V,G,W,Y⟩
   ·obtain ⟨o,es,c2,c3,r⟩:=c1;exact ⟨o,es,c2,B _ o (UX a4) (UX G) c3,r⟩
   ·by_cases f:b=s.heap.objs.size
    ·subst f;rw [Ar] at q;cases q
     exact ⟨by show 2<=Y3;decide,[.int i s.toks,u],.cons ⟨_,rfl⟩ (.cons b6 .nil),_,b0,rfl,_,rfl⟩
    ·rw [BK f] at q;refine (C.hok b o q).stay (λ c v d z=>B c v ?_ ?_ z) (λ c z=>by rw [BK (Bt z j)];exact z) λ c b1 z=>by rw [BK (Bt z j)];exact z
     ·rcases d with z | z
      ·rw [z];exact (I b o q).1
      ·exact (I c _ z).1
     ·rcases d with z | z
      ·rw [z];exact (I b o q).2
      ·exact (I c _ z).2
  refine ⟨.ref s.heap.objs.size,_,d0,rfl,⟨s.heap.objs.size,x,j,rfl,(λ b1 c4=>by rw [C.list_inj c4 D];exact T),rfl⟩,⟨⟨u,?_⟩,?_⟩,λ b f=>?_⟩
  ·have z:((i+1:Nat):Int)=(i:Int)+1:=by push_cast;rfl
   rw [z];exact a8
  ·exact Z.extBut t.extBut (UX J)
  ·rcases X2.mp f with z | z
   ·subst z;rw [BK (A _ _ st)];exact a3
   ·have z:b=it:=by simpa using z
    subst z;obtain ⟨o,q,_⟩:=g;rw [BK (A _ _ q)];exact F
 done:=by
  intro X O Q R a1 i l s a2 H E C hf ⟨⟨old,st⟩,g⟩ S;subst O Q R;obtain ⟨xs,D,T⟩:=S;obtain ⟨its,U,p,b4⟩:=C.list D;obtain ⟨F,G,c0,V,W,Y⟩:=hf it (by simp)
  have hl:=U.length;exact wpAny_pyNext_enum_end (C.ok.hd a1) st g p.isList (by simp;omega) λ h' c5=>⟨rfl,C.turned (t':=s.toks) (λ b o f e=>c5 b o f e) F G V W Y⟩
 self:=λ _ _ _ _ _ ⟨⟨old,st⟩,_⟩ h=>wpAny_pyIter_enum st h
section
variable {X:Cx}{elts:List Expr}{x1:Nat}{tpos:Pos}
def AH4 (K:FrG)(c:TA):TI:=λ d H e=>c d H λ vs b=>∃a,vs=[.ref a]/\(∃xs,SqL K b a xs)/\e (Mt K a) b
theorem N8 {a:Expr}{g:TA}{p pos:Pos}(l:Gl X "enumerate")(m:X.mg "enumerate"=none)(n:PA X [a] g)(o:XA [a] X.env=[(false,eval a X.env)]:=by rfl):PI X (.Tuple elts x1 tpos) (.Call (.Name "enumerate" p) [a] [] pos) (AH4 X.K g):=by
 intro f s i H E B h;refine Call_ (Je B l m boot_enumerate (QA (thn (n pos f s i H _ B h) λ us c ⟨vs,j,d,t,v⟩=>?_) o rfl))
 obtain ⟨a,e,⟨xs,w⟩,q⟩:=v;subst e;obtain ⟨u,rfl,r⟩:=vals1 t;cases r
 obtain ⟨its,C,p,D⟩:=d.list w;refine call_enumerate_list p.isList λ h' k hi hsz x=>?_
 have y:Inv X f i j { c with heap:=h' }:=d.kept (t':=c.toks) x
 refine wpAny_pyIter_enum k ⟨c.heap.objs.size+1,[c.heap.objs.size+1,c.heap.objs.size],_,_,j,rfl,y,AS6 a _ _ (Nat.succ_ne_self _),⟨⟨_,k⟩,hi⟩,λ b A=>?_,q⟩
 rcases X2.mp A with z | z
 ·subst z;exact d.fpOk (qV _) (d.hok.fresh (qV _))
 ·have z:b=c.heap.objs.size:=by simpa using z
  subst z;exact d.fpOk (ZK _) (d.hok.fresh (ZK _))
end
theorem Le {K:FrG}{a:Addr}{xs:List V}{w:TG}{tb:TS}{k:Ends}{b:St}{H:Hp}(c:Nat->St->Hp->Prop)(o:c 0 b H)(hl:∀i b H,i<=xs.length->c i b H->SqL K H a xs)
  (s:∀i x b H p,xs[i]?=some x->c i b H->H p=none->w (.ref p) b (upd H p (.tup [.int i,x])) λ f j=>tb { k with nx:=c (i+1),ct:=c (i+1),bk:=k.nx } f j) (hd:∀b H,c xs.length b H->k.nx b H):
  ∃t:Nat->Nat->St->Hp->Prop,(∃m,t 0 m b H)/\∀i m b H,t i m b H->
   ((Mt K a).stop i H/\k.nx b H)\/((Mt K a).go i H/\∃N:St->Hp->Prop,(∀g d,N g d->∃l,l < m/\t (i+1) l g d)/\∀x d,(Mt K a).yld i H x d->w x b d λ f j=>tb { k with nx:=N,ct:=N,bk:=k.nx } f j):=by
 refine ⟨λ i m b H=>m=xs.length - i/\i<=xs.length/\c i b H,⟨xs.length,by simp,WO _,o⟩,?_⟩
 rintro i m b H ⟨rfl,hi,p⟩
 have q:=hl i b H hi p;by_cases h:i < xs.length
 ·refine .inr ⟨⟨xs,xs[i],q,by simp [h]⟩,c (i+1),λ g d u=>⟨xs.length - (i+1),by omega,rfl,h,u⟩,λ x d y=>?_⟩
  obtain ⟨r,v,n,rfl,y,rfl⟩:=y;exact s i v b H r (y xs q) p n
 ·have e:i=xs.length:=by omega
  subst e;exact .inl ⟨⟨xs,q,ZK _⟩,hd b H p⟩
def Nx (n:Nat)(b:Nat->St->List V->Hp->Prop)(i:Nat)(c:St)(d:List V)(H:Hp):Prop:=∃a,a < n - i/\(a=n - (i+1)/\i+1<=n/\b (i+1) c d H)
theorem nx {n:Nat}{a:Nat->St->List V->Hp->Prop}{i:Nat}{b:St}{c:List V}{H:Hp}(hi:i < n)(h:a (i+1) b c H):Nx n a i b c H:=⟨n - (i+1),by omega,rfl,hi,h⟩
theorem CT {a:Type}{xs:List a}{i:Nat}{x:a}(h:xs[i]?=some x):i < xs.length:=(Yn.mp h).1
theorem Pq {K:FrG}{a:Addr}{xs:List V}{w:TG}{tt:TT}{j:TE}{Q:VK}{d:St}{H:Hp}(f:Nat->St->List V->Hp->Prop)(o:f 0 d [] H)(s:∀i d c H,i<=xs.length->f i d c H->c.length<=Y3/\SqL K H a xs)
  (t:∀i x d c H,xs[i]?=some x->f i d c H->w x d H λ g u=>tt g u λ b k=>if b=true then j g k λ y v=>Nx xs.length f i g (c++[y]) v else Nx xs.length f i g c k)
  (hd:∀d c H p,f xs.length d c H->H p=none->Q (.ref p) (upd H p (.lst c))):
  Ir w tt j (Itl K a) d H Q:=by
 refine ⟨λ i m d c H=>m=xs.length - i/\i<=xs.length/\f i d c H,⟨xs.length,by simp,WO _,o⟩,?_⟩
 rintro i m h c H ⟨rfl,hi,p⟩
 obtain ⟨z,q⟩:=s i h c H hi p;refine ⟨z,?_⟩;by_cases l:i < xs.length
 ·refine .inr ⟨⟨xs,xs[i],q,by simp [l]⟩,λ x A y=>?_⟩
  obtain ⟨rfl,y⟩:=y;exact t i x h c _ (y xs q) p
 ·have e:i=xs.length:=by omega
  subst e;exact .inl ⟨⟨xs,q,ZK _⟩,λ r n=>hd h c _ r p n⟩
theorem Ag5 {K:FrG}{a:Addr}{xs:List V}{w:TG}{tt:TT}{j:TE}{Q:VK}{d:St}{H:Hp}(f:Nat->St->List V->Hp->Prop)(o:f 0 d [] H)(s:∀i d c H,i<=xs.length->f i d c H->c.length<=Y3/\SqT K H a xs)
  (t:∀i x d c H,xs[i]?=some x->f i d c H->w x d H λ g u=>tt g u λ b k=>if b=true then j g k λ y v=>Nx xs.length f i g (c++[y]) v else Nx xs.length f i g c k)
  (hd:∀d c H p,f xs.length d c H->H p=none->Q (.ref p) (upd H p (.lst c))):
  Ir w tt j (Itt K a) d H Q:=by
 refine ⟨λ i m d c H=>m=xs.length - i/\i<=xs.length/\f i d c H,⟨xs.length,by simp,WO _,o⟩,?_⟩
 rintro i m h c H ⟨rfl,hi,p⟩
 obtain ⟨z,q⟩:=s i h c H hi p;refine ⟨z,?_⟩;by_cases l:i < xs.length
 ·refine .inr ⟨⟨xs,xs[i],q,by simp [l]⟩,λ x A y=>?_⟩
  obtain ⟨rfl,y⟩:=y;exact t i x h c _ (y xs q) p
 ·have e:i=xs.length:=by omega
  subst e;exact .inl ⟨⟨xs,q,ZK _⟩,λ r n=>hd h c _ r p n⟩
theorem pY {lo:Int}{n:Nat}{u:TG}{tt:TT}{j:TE}{Q:VK}{c:St}{H:Hp}(d:Nat->St->List V->Hp->Prop)(l:d 0 c [] H)(o:∀i c a H,i<=n->d i c a H->a.length<=Y3)
  (q:∀i c a H,i < n->d i c a H->u (.int (lo+i)) c H λ f s=>tt f s λ b k=>if b=true then j f k λ y t=>Nx n d i f (a++[y]) t else Nx n d i f a k)
  (hd:∀c a H p,d n c a H->H p=none->Q (.ref p) (upd H p (.lst a))):
  Ir u tt j (Itr lo n) c H Q:=by
 refine ⟨λ i m c a H=>m=n - i/\i<=n/\d i c a H,⟨n,by simp,WO _,l⟩,?_⟩
 rintro i m g a H ⟨rfl,hi,p⟩
 refine ⟨o i g a H hi p,?_⟩;by_cases h:i < n
 ·refine .inr ⟨h,λ x v y=>?_⟩
  obtain ⟨rfl,rfl⟩:=y;exact q i g a _ h p
 ·have e:i=n:=by omega
  subst e;exact .inl ⟨ZK _,λ r n=>hd g a _ r p n⟩
theorem Io {K:FrG}{a:Addr}{xs:List V}{o:TG}{f:TE}{Q:VK}{b:St}{H:Hp}(d:Nat->St->List V->Hp->Prop)(g:d 0 b [] H)(h:∀i b c H,i<=xs.length->d i b c H->c.length<=Y3/\SqL K H a xs)
  (j:∀i x b c H,xs[i]?=some x->d i b c H->o x b H λ e k=>f e k λ y l=>Nx xs.length d i e (c++[y]) l)
  (hd:∀b c H p,d xs.length b c H->H p=none->Q (.ref p) (upd H p (.lst c))):Ir o IK f (Itl K a) b H Q:=
 Pq d g h (λ i x b c H m n=>by
  have:=j i x b c H m n
  simpa only [IK,if_true] using this) hd
theorem R1 {K:FrG}{a:Addr}{xs:List V}{o:TG}{f:TE}{Q:VK}{b:St}{H:Hp}(d:Nat->St->List V->Hp->Prop)(g:d 0 b [] H)(h:∀i b c H,i<=xs.length->d i b c H->c.length<=Y3/\SqT K H a xs)
  (j:∀i x b c H,xs[i]?=some x->d i b c H->o x b H λ e k=>f e k λ y l=>Nx xs.length d i e (c++[y]) l)
  (hd:∀b c H p,d xs.length b c H->H p=none->Q (.ref p) (upd H p (.lst c))):Ir o IK f (Itt K a) b H Q:=
 Ag5 d g h (λ i x b c H m n=>by
  have:=j i x b c H m n
  simpa only [IK,if_true] using this) hd
theorem wY {lo:Int}{n:Nat}{o:TG}{e:TE}{Q:VK}{a:St}{H:Hp}(c:Nat->St->List V->Hp->Prop)(f:c 0 a [] H)(g:∀i a b H,i<=n->c i a b H->b.length<=Y3)
  (h:∀i a b H,i < n->c i a b H->o (.int (lo+i)) a H λ d j=>e d j λ y k=>Nx n c i d (b++[y]) k)
  (hd:∀a b H p,c n a b H->H p=none->Q (.ref p) (upd H p (.lst b))):Ir o IK e (Itr lo n) a H Q:=
 pY c f g (λ i a b H l m=>by
  have:=h i a b H l m
  simpa only [IK,if_true] using this) hd
theorem G3 {a:List (Option Nat)}{P:Nat->Nat->Prop}(h:a.all (·.isNone)=true):∀i j,a[i]?=some (some j)->P i j:=λ i j e=>by
 have:=GV.mp h _ (ZB e);cases this
theorem RoomB.room {k:Nat}{A:WB}(r:RoomB true k A):Room k A:=⟨r.hd rfl,r.dp,r.un⟩
structure MC (P:Yf)(w:World)(K:FrG)(mg:Str->Option Value)(base:Heap)(k:Nat)(C:Addr)(m:Str)(ps:List Str)(sp:Sp):Prop where
 ex:∃(f:Addr) (fd:UK),FnB P w K mg base true k f fd ps sp/\Meth K C m f/\Binds K fd ps []
 cl:Cls K C
structure MtFn (K:FrG)(C:Addr)(m qual:Str)(st:Stmt):Prop where
 ex:∃(f:Addr) (fd:UK),Fun K m qual st f fd/\Meth K C m f
 cl:Cls K C
theorem MtFn.mc {P:Yf}{w:World}{K:FrG}{mg:Str->Option Value}{base:Heap}{C:Addr}{m b:Str}{st:Stmt}{N ps:List Str}{k:Nat}{sp:Sp}(T:MtFn K C m b st)(x:FnScope N ps (defScope st))
  (i:∀(kV d e:Value) (g:Option Addr) (a ct:Value) (us:List Value),us.length=ps.length->ul (YO m b (defArgs st) (defBody st) (defScope st) .none kV d e g a ct) ⟨us,[]⟩=pure (ps.zip us))
  (len:∀vs H Q E,sp vs H Q E->vs.length=ps.length)
  (c:∀(f:Addr) (a:Value) (A:WB) (outer:List Env) (s:W9) (H:Hp) (vs:List V) (Q:VK) (E:XK),RoomB true k (A.deeper (wo b (defScope st) s.heap.objs.size f a))->sp vs H Q E->
   ∃t,PSs (Er true P w K mg base N b (defScope st) f a A outer s H E).nox (defBody st) t/\t { nx:=λ _ j=>Q .non j,rt:=Q } (start N vs) H):MC P w K mg base (k+1) C m ps sp:=by
 obtain ⟨f,fd,u,n⟩:=T.ex;obtain ⟨y,z,kV,d,e,g,a,ct,v,rfl,l,o⟩:=id u.ex;refine ⟨⟨f,_,M5 l o x len λ A outer s H vs Q E p h=>?_,n,u.binds i⟩,T.cl⟩
 obtain ⟨t,q,r⟩:=c f a A outer s H vs Q E p h;exact ⟨t,q.nox,r⟩
structure MkC (P:Yf)(w:World)(K:FrG)(mg:Str->Option Value)(base:Heap)(k:Nat)(x:Str)(C:Addr)(ps:List Str)(sp:Sp):Prop where
 ex:∃(f:Addr) (fd:UK),FnB P w K mg base true k f fd ps sp/\Mk K C f/\Binds K fd ps []
 mg:mg x=some (.ref C)
structure MkFn (K:FrG)(mg:Str->Option Value)(x:Str)(C:Addr)(qual:Str)(st:Stmt):Prop where
 ex:∃(f:Addr) (fd:UK),Fun K "__init__" qual st f fd/\Mk K C f
 mg:mg x=some (.ref C)
theorem MkFn.mkc {P:Yf}{w:World}{K:FrG}{mg:Str->Option Value}{base:Heap}{x:Str}{C:Addr}{b:Str}{st:Stmt}{N ps:List Str}{k:Nat}{sp:Sp}(T:MkFn K mg x C b st)(v:FnScope N ps (defScope st))
  (i:∀(kV d e:Value) (g:Option Addr) (a ct:Value) (us:List Value),us.length=ps.length->ul (YO "__init__" b (defArgs st) (defBody st) (defScope st) .none kV d e g a ct) ⟨us,[]⟩=pure (ps.zip us))
  (len:∀vs H Q E,sp vs H Q E->vs.length=ps.length)
  (c:∀(f:Addr) (a:Value) (A:WB) (outer:List Env) (s:W9) (H:Hp) (vs:List V) (Q:VK) (E:XK),RoomB true k (A.deeper (wo b (defScope st) s.heap.objs.size f a))->sp vs H Q E->
   ∃t,PSs (Er true P w K mg base N b (defScope st) f a A outer s H E).nox (defBody st) t/\t { nx:=λ _ j=>Q .non j,rt:=Q } (start N vs) H):MkC P w K mg base (k+1) x C ps sp:=by
 obtain ⟨f,fd,r,m⟩:=T.ex;obtain ⟨y,z,kV,d,e,g,a,ct,u,rfl,l,n⟩:=id r.ex;refine ⟨⟨f,_,M5 l n v len λ A outer s H vs Q E o h=>?_,m,r.binds i⟩,T.mg⟩
 obtain ⟨t,p,q⟩:=c f a A outer s H vs Q E o h;exact ⟨t,p.nox,q⟩
section
variable {X:Cx}{k:Nat}{C:Addr}{ps:List Str}{sp:Sp}{x m:Str}{p pos apos:Pos}{e o:Expr}{es:List Expr}{ta:TE}{t:TA}
def qW (P:Yf)(w:World)(K:FrG)(mg:Str->Option Value)(base:Heap)(k:Nat)(m:Str)(ta:TE)(t:TA):TE:=λ b H Q=>ta b H λ x c=>∃a C d fs ps sp,x=.ref a/\c a=some (.ins C d fs)/\fs.lookup m=none/\
 MC P w K mg base k C m ps sp/\t b c λ vs f=>sp (x::vs) f Q E0
theorem Cd {pl:Sem Bool}(y:PE X o ta)(z:RoomB true k X.A)(B:PA X (e::es) t)
  (c:XA (e::es) X.env=(false,eval e X.env)::XA es X.env:=by rfl) (d:(yY pos (XA es X.env)).any (·.1)=false:=by rfl)
  (D:eval (.Call (.Attribute o m apos) (e::es) [] pos) X.env=(do
   let g <- eval o X.env
   standAt apos.atName
   let (f,first) <- holding [g] (getMethod g m pl)
   callWith pos f first (yY pos (XA (e::es) X.env)) (backToKw pos (GM [] X.env))):=by rfl):
  PE X (.Call (.Attribute o m apos) (e::es) [] pos) (qW X.prog X.w X.K X.mg X.base k m ta t):=by
 intro b s i H Q O h;refine Nc (pl:=pl) (thn (y b s i H _ O h) λ u F ⟨x,G,j,I,a,C,P,fs,ps,sp,ex,J,l,M,q⟩=>?_) D
 subst ex;obtain rfl:u=Wp a:=I;obtain ⟨f,fd,R,n,L⟩:=M.ex;refine o8 j J M.cl n l ?_;refine yb (first:=[.ref a]) (h₀:=X.base) O.ok.mod.kin n.kp (thn (B pos b F i G _ j q) λ us S ⟨vs,T,v,r,N⟩=>⟨v.kIn,?_⟩) c d
 exact ik (us:=.ref a::us) (vs:=.ref a::vs) (dvs:=[]) (ds:=[]) (E:=E0) R.ok z.room L .nil Ah v (.cons rfl r) (by rw [YY];exact N)
theorem JX {pl:Sem Bool}(i:PE X o ta)(j:RoomB true k X.A)
  (n:eval (.Call (.Attribute o m apos) [] [] pos) X.env=(do
   let d <- eval o X.env
   standAt apos.atName
   let (f,first) <- holding [d] (getMethod d m pl)
   callWith pos f first (yY pos (XA [] X.env)) (backToKw pos (GM [] X.env))):=by rfl):
  PE X (.Call (.Attribute o m apos) [] [] pos) (qW X.prog X.w X.K X.mg X.base k m ta tNil):=by
 intro b s r H Q B h;refine Nc (pl:=pl) (thn (i b s r H _ B h) λ u D ⟨x,F,c,v,a,C,G,fs,ps,sp,ex,y,l,M,q⟩=>?_) n
 subst ex;obtain rfl:u=Wp a:=v;obtain ⟨f,fd,I,g,z⟩:=M.ex;refine o8 c y M.cl g l ?_;exact NY (first:=[.ref a]) c.kIn g.kp (ik (us:=[.ref a]) (vs:=[.ref a]) (dvs:=[]) (ds:=[]) (E:=E0) I.ok j.room z .nil Ah c (.cons rfl .nil) q)
theorem Jt (M:MkC X.prog X.w X.K X.mg X.base k x C ps sp)(c:RoomB true (k+1) X.A)(d:PA X (e::es) t)(g:Gl X x:=by rfl)(a:(x == ("__debug__":Str))=false:=by decide)
  (h:XA (e::es) X.env=(false,eval e X.env)::XA es X.env:=by rfl) (b:(yY pos (XA es X.env)).any (·.1)=false:=by rfl):
  PE X (.Call (.Name x p) (e::es) [] pos) (tMake C sp [] E0 t):=by
 obtain ⟨f,fd,l,i,j⟩:=M.ex;exact zu i l.ok c.room g M.mg j .nil Ah d a h b
theorem Ft {f:Str}(a:PE X e ta)(b:wZ e f X.env (eval e X.env)=eval e X.env:=by rfl):PE X (.Attribute e f pos) (tFld X.K ta f):=uZ a b
theorem J0 {f:Str}{b:Pos}{a:Expr}{c:TE}(d:PE X o ta)(hv:PE X a c)(g:js a (some (.Attribute o f b)) pos.line X.env=pure false:=by rfl):PS X (.Assign [.Attribute o f b] a pos) (sFld X.K ta c f):=zy d hv g
end
end L2
namespace Fr
theorem AK3 {r:Rat}{t b:Int}(h:b≠0)(e:r=XB t b):r.num.natAbs<=t.natAbs/\r.den<=b.natAbs:=by
 subst e;have a:=zK t b h;have c:=uQ (t:=t) h;rw [Uk h] at a;rw [qC h,YV] at c;exact ⟨a,c⟩
structure Bd (k:Nat)(q:Rat):Prop where
 n:q.num.natAbs < 2 ^ k
 d:q.den < 2 ^ k
theorem Cy {m n:Nat}(h:m<=n):2 ^ m<=2 ^ n:=zi (by decide) h
theorem Bd.mono {m n:Nat}{q:Rat}(h:Bd m q)(le:m<=n):Bd n q:=⟨Y7 h.n (Cy le),Y7 h.d (Cy le)⟩
theorem Bd.neg {n:Nat}{q:Rat}(h:Bd n q):Bd n (-q):=⟨by rw [Nt,Jf];exact h.n,by rw [Nw];exact h.d⟩
theorem Bd.of {n:Nat}{t b:Int}(a:b≠0)(c:t.natAbs < 2 ^ n)(d:b.natAbs < 2 ^ n):Bd n (XB t b):=by
 obtain ⟨e,f⟩:=AK3 a (rfl:XB t b=XB t b);exact ⟨by omega,by omega⟩
theorem XC {a b m n:Nat}(c:a < 2 ^ m)(d:b < 2 ^ n):a * b < 2 ^ (m+n):=by
 rw [NC];exact ww c d
theorem Cr {x y:Int}{m n:Nat}(a:x.natAbs < 2 ^ m)(b:y.natAbs < 2 ^ n):(x * y).natAbs < 2 ^ (m+n):=by
 rw [WH];exact XC a b
theorem cj {x y:Int}{n:Nat}(a:x.natAbs < 2 ^ n)(b:y.natAbs < 2 ^ n):(x+y).natAbs < 2 ^ (n+1):=by
 have:=Int.natAbs_add_le x y;rw [jj];omega
theorem mq {x y:Int}{n:Nat}(a:x.natAbs < 2 ^ n)(b:y.natAbs < 2 ^ n):(x - y).natAbs < 2 ^ (n+1):=by
 rw [jj];omega
theorem Bd.dn {n:Nat}{q:Rat}(h:Bd n q):((q.den:Int)).natAbs < 2 ^ n:=by rw [YV];exact h.d
theorem TJ (p q:Rat):(p.den:Int) * (q.den:Int)≠0:=yl (GD p) (GD q)
section
variable {m n:Nat}{p q:Rat}(hp:Bd m p)(hq:Bd n q)
include hp hq
theorem Bd.add:Bd (m+n+1) (p+q):=by
 rw [<- Z6];refine Bd.of (TJ p q) (cj (Cr hp.n hq.dn) ?_) (Y7 (Cr hp.dn hq.dn) (Cy (by omega)))
 have:=Cr hq.n hp.dn;rw [FF m n];exact this
theorem Bd.sub:Bd (m+n+1) (p - q):=by
 rw [<- gM];refine Bd.of (TJ p q) (mq (Cr hp.n hq.dn) ?_) (Y7 (Cr hp.dn hq.dn) (Cy (by omega)))
 have:=Cr hq.n hp.dn;rw [FF m n];exact this
theorem Bd.mul:Bd (m+n) (p * q):=by
 rw [<- RK];exact Bd.of (TJ p q) (Cr hp.n hq.n) (Cr hp.dn hq.dn)
theorem Bd.div (a:q≠0):Bd (m+n) (p / q):=by
 rw [<- nF];refine Bd.of (yl (GD p) λ e=>a ((qZ q).mp e)) (Cr hp.n hq.dn) (Cr hp.dn hq.n)
end
structure Rb (n:Nat)(y u:Rat):Prop where
 ex:∃(Y U:Int) (N:Nat),N≠0/\N < 2 ^ n/\Y.natAbs < 2 ^ n/\U.natAbs < 2 ^ n/\y=XB Y N/\u=XB U N
theorem Rb.mono {m n:Nat}{y u:Rat}(h:Rb m y u)(le:m<=n):Rb n y u:=by
 obtain ⟨d,U,N,a,e,f,g,b,c⟩:=h.ex;have:=Cy le;exact ⟨d,U,N,a,by omega,by omega,by omega,b,c⟩
theorem Rb.y {n:Nat}{y u:Rat}(h:Rb n y u):Bd n y:=by
 obtain ⟨g,U,N,c,d,a,e,b,f⟩:=h.ex;rw [b];exact Bd.of (by omega) a (by omega)
theorem Rb.u {n:Nat}{y u:Rat}(h:Rb n y u):Bd n u:=by
 obtain ⟨g,U,N,c,d,e,a,f,b⟩:=h.ex;rw [b];exact Bd.of (by omega) a (by omega)
theorem Rb.of {n:Nat}{y u:Rat}(a:Bd n y)(b:Bd n u):Rb (n+n) y u:=by
 refine ⟨y.num * (u.den:Int),u.num * (y.den:Int),y.den * u.den,?_,?_,Cr a.n b.dn,Cr b.n a.dn,?_,?_⟩
 ·exact Nat.mul_ne_zero y.den_nz u.den_nz
 ·exact XC a.d b.d
 ·rw [show ((y.den * u.den:Nat):Int)=(y.den:Int) * (u.den:Int) by simp,xh (GD u),GF]
 ·rw [show ((y.den * u.den:Nat):Int)=(u.den:Int) * (y.den:Int) by simp [Int.mul_comm],xh (GD y),GF]
theorem vB (b U dn:Int)(N dd:Int)(a:N≠0)(c:dd≠0):XB b N+XB dn dd * XB U N=XB (b * dd+dn * U) (N * dd):=by
 rw [wr,Na _ _ a (yl c a)];rw [show b * (dd * N)+dn * U * N=(b * dd+dn * U) * N by rw [Int.add_mul,Int.mul_assoc b],show N * (dd * N)=(N * dd) * N by rw [Int.mul_assoc],xh a]
theorem AL2 (b dd N:Int)(c:N≠0)(a:dd≠0):XB b N=XB (b * dd) (N * dd):=(xh a).symm
theorem Rb.gap {n m:Nat}{y u d:Rat}(h:Rb n y u)(hd:Bd m d):Rb (n+m+1) (y+d * u) u:=by
 obtain ⟨j,U,N,e,f,g,a,i,b⟩:=h.ex;have c:(N:Int)≠0:=by omega
 refine ⟨j * (d.den:Int)+d.num * U,U * (d.den:Int),N * d.den,Nat.mul_ne_zero e d.den_nz,Y7 (XC f hd.d) (Cy (by omega)),cj (Cr g hd.dn) ?_,Y7 (Cr a hd.dn) (Cy (by omega)),?_,?_⟩
 ·have:=Cr hd.n a;rw [FF n m];exact this
 ·have:=vB j U d.num N (d.den:Int) c (GD d);rw [GF,<- i,<- b] at this;rw [this];simp
 ·rw [b,AL2 U (d.den:Int) N c (GD d)];simp
theorem Rb.swap {n:Nat}{y u:Rat}(h:Rb n y u):Rb n u y:=by
 obtain ⟨g,U,N,a,b,c,d,e,f⟩:=h.ex;exact ⟨U,g,N,a,b,d,c,f,e⟩
theorem Rb.glass {n m:Nat}{y u d:Rat}(h:Rb n y u)(hd:Bd m d):Rb (n+m+1) y (u - d * y):=by
 have:=(h.swap.gap hd.neg).swap;rw [show u - d * y=u+-d * y by rw [Rat.neg_mul,Rat.sub_eq_add_neg]]
 exact this
end Fr
namespace Op
open Fr
inductive Pc where
 | gap (d:Rat)
 | glass (p:Rat)
 | stop (lo hi:Rat)
abbrev Ab:=Rat×Rat
def Pc.lets:Pc->Ab->Bool
 | .stop lo hi,r=>!decide (r.1 < lo) && !decide (hi < r.1)
 | _,_=>true
def Pc.bent:Pc->Ab->Ab
 | .gap d,r=>(r.1+d * r.2,r.2)
 | .glass p,r=>(r.1,r.2 - p * r.1)
 | .stop _ _,r=>r
def Pc.ok:Pc->Prop
 | .stop lo hi=>¬ hi < lo
 | _=>True
def Pc.bd (m:Nat):Pc->Prop
 | .gap d=>Bd m d
 | .glass p=>Bd m p
 | .stop lo hi=>Bd m lo/\Bd m hi
abbrev RB (n:Nat)(r:Ab):Prop:=Rb n r.1 r.2
theorem HB {n m:Nat}{r:Ab}:∀{p:Pc},p.bd m->RB n r->RB (n+m+1) (p.bent r)
 | .gap _,b,h=>Rb.gap h b
 | .glass _,b,h=>Rb.glass h b
 | .stop _ _,_,h=>Rb.mono h (by omega)
def wk:Nat->List Pc->Ab->List Ab×Option Nat
 | _,[],_=>([],none)
 | i,p::ps,r=>if p.lets r=true then (p.bent r::(wk (i+1) ps (p.bent r)).1,(wk (i+1) ps (p.bent r)).2) else ([],some i)
def walk (ps:List Pc)(r:Ab):List Ab×Option Nat:=(r::(wk 0 ps r).1,(wk 0 ps r).2)
theorem Hz {i:Nat}{p:Pc}{ps:List Pc}{r:Ab}(h:p.lets r=true):wk i (p::ps) r=(p.bent r::(wk (i+1) ps (p.bent r)).1,(wk (i+1) ps (p.bent r)).2):=by
 rw [wk,if_pos h]
theorem N7 {i:Nat}{p:Pc}{ps:List Pc}{r:Ab}(h:p.lets r=false):wk i (p::ps) r=([],some i):=by
 rw [wk,if_neg (by rw [h];exact ZH)]
structure At (ps:List Pc)(r:Ab)(i:Nat)(tr:List Ab)(cur:Ab):Prop where
 eq:wk 0 ps r=(tr++(wk i (ps.drop i) cur).1,(wk i (ps.drop i) cur).2)
 last:(r::tr).getLast?=some cur
theorem AT9 (ps:List Pc)(r:Ab):At ps r 0 [] r:=⟨rfl,rfl⟩
theorem At.step {ps:List Pc}{r b:Ab}{i:Nat}{c:List Ab}{p:Pc}(a:At ps r i c b)(d:ps[i]?=some p)(h:p.lets b=true):At ps r (i+1) (c++[p.bent b]) (p.bent b):=by
 obtain ⟨hi,e⟩:=Yn.mp d;have hd:ps.drop i=p::ps.drop (i+1):=by rw [<- e];exact UE hi
 refine ⟨?_,?_⟩
 ·rw [a.eq,hd,Hz h];simp
 ·rw [<- wx];exact UA
theorem At.stop {ps:List Pc}{r b:Ab}{i:Nat}{c:List Ab}{p:Pc}(a:At ps r i c b)(d:ps[i]?=some p)(h:p.lets b=false):walk ps r=(r::c,some i):=by
 obtain ⟨hi,e⟩:=Yn.mp d;have hd:ps.drop i=p::ps.drop (i+1):=by rw [<- e];exact UE hi
 unfold walk;rw [a.eq,hd,N7 h];simp
theorem At.done {ps:List Pc}{r b:Ab}{c:List Ab}(a:At ps r ps.length c b):walk ps r=(r::c,none):=by
 unfold walk;rw [a.eq,wf (ZK _)];simp [wk]
theorem wM {m:Nat}(ps:List Pc):∀(i n:Nat) (r:Ab),(∀p∈ps,p.bd m)->RB n r->∀x∈(wk i ps r).1,RB (n+ps.length * (m+1)) x:=by
 induction ps with
 | nil=>intro i n r _ _ x a;simp [wk] at a
 | cons p ps d=>
  intro i n r b h x a;cases hl:p.lets r with
  | false=>rw [N7 hl] at a;simp at a
  | true=>
   rw [Hz hl] at a;have c:=HB (b p U1) h;have e:(ps.length+1) * (m+1)=ps.length * (m+1)+(m+1):=by rw [zj,Nat.one_mul]
   rcases X2.mp a with rfl | a
   ·exact Rb.mono c (by rw [X9,e];omega)
   ·exact Rb.mono (d (i+1) _ _ (λ q f=>b q (Y9 _ f)) c x a) (by rw [X9,e];omega)
theorem Ad5 {m n:Nat}{ps:List Pc}{r:Ab}(b:∀p∈ps,p.bd m)(h:RB n r):∀x∈(walk ps r).1,RB (n+ps.length * (m+1)) x:=by
 intro x a;rcases X2.mp a with rfl | a
 ·exact Rb.mono h (by omega)
 ·exact wM ps 0 n r b h x a
end Op
namespace Lib
open PySem L2 Fr Op
def Aj (q:Rat):U2:=.tuple [.int q.num,.int (q.den:Int)]
def BX (r:Ab):U2:=.tuple [Aj r.1,Aj r.2]
def CV:Pc->U2
 | .gap d=>.tuple [.str "gap",Aj d]
 | .glass p=>.tuple [.str "glass",Aj p]
 | .stop lo hi=>.tuple [.str "stop",Aj lo,Aj hi]
def Ec (ps:List Pc):U2:=.list (ps.map CV)
def cT:Option Nat->U2
 | none=>.none
 | some i=>.int (i:Int)
section
variable {K:FrG}{H:Hp}{v:V}
theorem _root_.L2.DV.fr {q:Rat}(h:DV K H v (Aj q)):∃a,v=.ref a/\SqT K H a [.int q.num,.int (q.den:Int)]:=by
 obtain ⟨a,x,y,rfl,b,c,d⟩:=DV.t2 h;rw [c.int_of,d.int_of] at b;exact ⟨a,rfl,b⟩
theorem AG8 {q:Rat}{a:Addr}(h:SqT K H a [.int q.num,.int (q.den:Int)]):DV K H (.ref a) (Aj q):=.tup h (.cons (.int _) (.cons (.int _) .nil))
theorem I9 {t b:Int}{p:Addr}(a:b≠0):DV K (upd H p (.tup [.int (Fr.lt t b),.int (Fr.lb t b)])) (.ref p) (Aj (XB t b)):=by
 rw [sU a];exact AG8 (SqT.of Ar)
end
theorem _root_.Fr.Bd.sm {n:Nat}{q:Rat}(h:Bd n q)(a:n<=4000):Sm q:=⟨Y7 h.n (by unfold Cq;exact Cy a),Y7 h.d (by unfold Cq;exact Cy a)⟩
structure Flat (n:Nat)(d:U2):Prop where
 c:d.canLay0=true
 d:d.depth<=n
theorem Flat.sh {n:Nat}{d:U2}(h:Flat n d)(a:n<=64):we d=true:=by
 unfold we;rw [h.c,Bool.true_and];exact decide_eq_true (Zo h.d a)
theorem M6 {n:Nat}:∀{ds:List U2},(∀d∈ds,Flat n d)->WI ds=true/\U2.depthAll ds<=n
 | [],_=>⟨rfl,WO _⟩
 | d::ds,h=>by
  obtain ⟨b,e⟩:=M6 (λ x f=>h x (Y9 _ f))
  have a:=h d U1;refine ⟨?_,?_⟩
  ·rw [WI,a.c,b];rfl
  ·rw [U2.depthAll];exact Nat.max_le.mpr ⟨a.d,e⟩
theorem vC {n:Nat}{ds:List U2}(h:∀d∈ds,Flat n d):Flat (n+1) (.tuple ds):=⟨(M6 h).1,by rw [U2.depth];exact xl (M6 h).2⟩
theorem Xi {n:Nat}{ds:List U2}(h:∀d∈ds,Flat n d):Flat (n+1) (.list ds):=⟨(M6 h).1,by rw [U2.depth];exact xl (M6 h).2⟩
theorem Im (q:Rat):Flat 1 (Aj q):=⟨rfl,by show 1<=1;exact ZK _⟩
theorem Ul (r:Ab):Flat 2 (BX r):=vC λ d hd=>by
 simp only [X2,YN,or_false] at hd;rcases hd with rfl | rfl
 ·exact Im _
 ·exact Im _
theorem bQ {a:Type}{n:Nat}{f:a->U2}(h:∀x,Flat n (f x))(l:List a):∀d∈l.map f,Flat n d:=λ d hd=>by
 obtain ⟨x,_,rfl⟩:=XW.mp hd;exact h x
section
variable {K:FrG}{H:Hp}{x y:V}{d:U2}{Q:VK}
theorem Xo {p q:Rat}(a:DV K H x (Aj p))(b:DV K H y (Aj q))(k:Q (.bl (decide (p=q))) H):Ma K x y H Q:=
 ⟨_,_,a,b,(Im p).sh (by decide),(Im q).sh (by decide),by unfold Aj;rw [Qy];exact k⟩
theorem Af7 {p q:Rat}(a:DV K H x (Aj p))(b:DV K H y (Aj q))(k:Q (.bl (!decide (p=q))) H):Sy K x y H Q:=
 ⟨_,_,a,b,(Im p).sh (by decide),(Im q).sh (by decide),by unfold Aj;rw [Qy];exact k⟩
end
mutual
def Gu:U2->Bool
 | .list _=>false
 | .dict _=>false
 | .tuple ds=>Hj ds
 | .none=>true
 | .bool _=>true
 | .int _=>true
 | .str _=>true
def Hj:List U2->Bool
 | []=>true
 | d::ds=>Gu d && Hj ds
end
def Gd (H a:Hp):Prop:=∀b xs,(H b=some (.tup xs)->a b=some (.tup xs))/\∀o,H b=some (.frz o (.tup xs))->a b=some (.frz o (.tup xs))
theorem HW {H:Hp}{l:Addr}{xs:List V}(h:H l=some (.lst xs))(o:HO):Gd H (upd H l o):=λ b a=>⟨λ e=>by rw [BK (λ z=>by rw [z,h] at e;cases e)];exact e,λ o e=>by rw [BK (λ z=>by rw [z,h] at e;cases e)];exact e⟩
mutual
theorem Fg {K:FrG}{H a:Hp}(s:Gd H a):∀{v:V} {d:U2},Gu d=true->DV K H v d->DV K a v d
 | _,_,_,.non=>.non
 | _,_,_,.bl b=>.bl b
 | _,_,_,.int i=>.int i
 | _,_,_,.str x=>.str x
 | _,_,n,.lst h q=>nomatch n
 | _,_,n,.tup h q=>.tup (by
   rcases h with (h | ⟨o,h⟩) | h
   ·exact .inl (.inl ((s _ _).1 h))
   ·exact .inl (.inr ⟨o,(s _ _).2 o h⟩)
   ·exact .inr h) (Cv s n q)
 | _,_,n,.dct h=>nomatch n
theorem Cv {K:FrG}{H a:Hp}(s:Gd H a):∀{vs:List V} {ds:List U2},Hj ds=true->DVs K H vs ds->DVs K a vs ds
 | _,_,_,.nil=>.nil
 | _,_,n,.cons h q=>.cons (Fg s (by rw [Hj] at n;exact (WS.mp n).1) h) (Cv s (by rw [Hj] at n;exact (WS.mp n).2) q)
end
theorem DY {a:Type}{f:a->U2}(h:∀x,Gu (f x)=true):∀l:List a,Hj (l.map f)=true
 | []=>rfl
 | x::l=>by rw [YB,Hj,h x,DY h l];rfl
theorem G5 (r:Ab):Gu (BX r)=true:=rfl
theorem KD:∀p:Pc,Gu (CV p)=true
 | .gap _=>rfl
 | .glass _=>rfl
 | .stop _ _=>rfl
inductive PR (K:FrG)(R:List U2->U2->Prop)(vs:List V)(H:Hp)(Q:VK)(zz3:XK):Prop | mk:∀ds d,(DVs K H vs ds)->(R ds d)->(∀v H',Same H H'->DV K H' v d->Q v H')->PR K R vs H Q zz3
inductive JV (g:Rat->Rat->Rat)(ds:List U2)(d:U2):Prop | mk:∀p q,(ds=[Aj p,Aj q])->(Sm p)->(Sm q)->(d=Aj (g p q))->JV g ds d
inductive Vo (ds:List U2)(d:U2):Prop | mk:∀p q,(ds=[Aj p,Aj q])->(Sm p)->(Sm q)->(d=.bool (decide (p < q)))->Vo ds d
theorem DV.upd2 {K:FrG}{H:Hp}{r:Addr}{x y:V}{a b:U2}(c:H r=none)(d:DV K H x a)(e:DV K H y b):DV K (upd H r (.tup [x,y])) (.ref r) (.tuple [a,b]):=
 .tup (SqT.of Ar) (.cons (d.keep (Am c _)) (.cons (e.keep (Am c _)) .nil))
theorem DV.upd3 {K:FrG}{H:Hp}{r:Addr}{x y z:V}{b c d:U2}(a:H r=none)(e:DV K H x b)(f:DV K H y c)(g:DV K H z d):DV K (upd H r (.tup [x,y,z])) (.ref r) (.tuple [b,c,d]):=
 .tup (SqT.of Ar) (.cons (e.keep (Am a _)) (.cons (f.keep (Am a _)) (.cons (g.keep (Am a _)) .nil)))
theorem DV.upd4 {K:FrG}{H:Hp}{r:Addr}{x y z u:V}{b c d e:U2}(a:H r=none)(f:DV K H x b)(g:DV K H y c)(h:DV K H z d)(i:DV K H u e):DV K (upd H r (.tup [x,y,z,u])) (.ref r) (.tuple [b,c,d,e]):=
 .tup (SqT.of Ar) (.cons (f.keep (Am a _)) (.cons (g.keep (Am a _)) (.cons (h.keep (Am a _)) (.cons (i.keep (Am a _)) .nil))))
def Ah5:U2->Bool
 | .tuple [.int t,.int b]=>decide (1<=b) && decide (Fr.gcd t b=1)
 | _=>false
def O7:U2->Bool
 | .int _=>true
 | _=>false
def Ad8:U2->Bool
 | .tuple _=>true
 | _=>false
theorem AO6 (d:U2):∃b c,Bu (KC d) "int"=some b/\Bu (KC d) "bool"=some c/\(b && !c)=O7 d:=by
 cases d with
 | none=>exact ⟨false,false,by show Bu "NoneType" "int"=_;decide+kernel,by show Bu "NoneType" "bool"=_;decide+kernel,rfl⟩
 | bool b=>exact ⟨true,true,by show Bu "bool" "int"=_;decide+kernel,by show Bu "bool" "bool"=_;decide+kernel,rfl⟩
 | int i=>exact ⟨true,false,by show Bu "int" "int"=_;decide+kernel,by show Bu "int" "bool"=_;decide+kernel,rfl⟩
 | str x=>exact ⟨false,false,by show Bu "str" "int"=_;decide+kernel,by show Bu "str" "bool"=_;decide+kernel,rfl⟩
 | list xs=>exact ⟨false,false,by show Bu "list" "int"=_;decide+kernel,by show Bu "list" "bool"=_;decide+kernel,rfl⟩
 | tuple xs=>exact ⟨false,false,by show Bu "tuple" "int"=_;decide+kernel,by show Bu "tuple" "bool"=_;decide+kernel,rfl⟩
 | dict xs=>exact ⟨false,false,by show Bu "dict" "int"=_;decide+kernel,by show Bu "dict" "bool"=_;decide+kernel,rfl⟩
theorem Qt (d:U2):Bu (KC d) "tuple"=some (Ad8 d):=by
 cases d with
 | none=>show Bu "NoneType" "tuple"=some false;decide+kernel
 | bool b=>show Bu "bool" "tuple"=some false;decide+kernel
 | int i=>show Bu "int" "tuple"=some false;decide+kernel
 | str x=>show Bu "str" "tuple"=some false;decide+kernel
 | list xs=>show Bu "list" "tuple"=some false;decide+kernel
 | tuple xs=>show Bu "tuple" "tuple"=some true;decide+kernel
 | dict xs=>show Bu "dict" "tuple"=some false;decide+kernel
def Af0:U2->Bool
 | .list _=>true
 | _=>false
theorem xQ (d:U2):Bu (KC d) "list"=some (Af0 d):=by
 cases d with
 | none=>show Bu "NoneType" "list"=some false;decide+kernel
 | bool b=>show Bu "bool" "list"=some false;decide+kernel
 | int i=>show Bu "int" "list"=some false;decide+kernel
 | str x=>show Bu "str" "list"=some false;decide+kernel
 | list xs=>show Bu "list" "list"=some true;decide+kernel
 | tuple xs=>show Bu "tuple" "list"=some false;decide+kernel
 | dict xs=>show Bu "dict" "list"=some false;decide+kernel
def Qe:U2->Bool
 | .str _=>true
 | _=>false
theorem yL {d:U2}(h:Qe d=true):∃x,d=.str x:=by
 cases d with
 | str i=>exact ⟨i,rfl⟩
 | _=>cases h
theorem KY (d:U2):Bu (KC d) "str"=some (Qe d):=by
 cases d with
 | none=>show Bu "NoneType" "str"=some false;decide+kernel
 | bool b=>show Bu "bool" "str"=some false;decide+kernel
 | int i=>show Bu "int" "str"=some false;decide+kernel
 | str x=>show Bu "str" "str"=some true;decide+kernel
 | list xs=>show Bu "list" "str"=some false;decide+kernel
 | tuple xs=>show Bu "tuple" "str"=some false;decide+kernel
 | dict xs=>show Bu "dict" "str"=some false;decide+kernel
inductive pJ (K:FrG)(vs:List V)(H:Hp)(Q:VK)(zz3:XK):Prop | mk:∀v d,(vs=[v])->(DV K H v d)->(Q (.bl (O7 d)) H)->pJ K vs H Q zz3
inductive jd (ds:List U2)(d:U2):Prop | mk:∀p q,(ds=[Aj p,Aj q])->(Sm p)->(Sm q)->(q≠0)->(d=Aj (p / q))->jd ds d
theorem Bj {b:Bool}{A c:Prop}(a:b=true)(h:A):if b=true then A else c:=by rw [if_pos a];exact h
theorem BL {b:Bool}{A c:Prop}(a:b=false)(h:c):if b=true then A else c:=by rw [if_neg (by rw [a];exact ZH)];exact h
theorem Q9 (n d:Nat):HT.sIx n d (some 1)=min 1 n:=HT.HR n d 1
theorem Ua (xs:List V):cutV xs (some 1) none=xs.drop 1:=by
 unfold cutV;rw [Q9,HT.Lf];cases xs with
 | nil=>rfl
 | cons x r=>
  rw [show min 1 (x::r).length=1 by simp only [X9];omega]
  exact QD (by simp)
theorem DK (x y:Str):decide (V.str x=V.str y)=decide (x=y):=by
 by_cases h:x=y
 ·subst h;simp
 ·have:¬ V.str x=V.str y:=λ z=>h (V.str.inj z)
  rw [decide_eq_false h,decide_eq_false this]
inductive ObAt (K:FrG)(CG CL CS:Addr)(H:Hp):V->Pc->Prop
 | gap {a dx:Addr} {x:V} {d:Rat}:H a=some (.ins CG dx [("length",x)])->DV K H x (Aj d)->ObAt K CG CL CS H (.ref a) (.gap d)
 | glass {a dx:Addr} {x:V} {d:Rat}:H a=some (.ins CL dx [("strength",x)])->DV K H x (Aj d)->ObAt K CG CL CS H (.ref a) (.glass d)
 | stop {a dx:Addr} {x y:V} {lo hi:Rat}:H a=some (.ins CS dx [("low",x),("high",y)])->DV K H x (Aj lo)->DV K H y (Aj hi)->ObAt K CG CL CS H (.ref a) (.stop lo hi)
theorem ObAt.keep {K:FrG}{a b c:Addr}{H d:Hp}(s:Same H d):∀{v:V} {p:Pc},ObAt K a b c H v p->ObAt K a b c d v p
 | _,_,.gap h x=>.gap (s _ _ h) (x.keep s)
 | _,_,.glass h x=>.glass (s _ _ h) (x.keep s)
 | _,_,.stop h x y=>.stop (s _ _ h) (x.keep s) (y.keep s)
inductive Tr (C:Addr)(f:Str)(vs:List V)(H:Hp)(Q:VK)(zz3:XK):Prop | mk:∀a dx x,(vs=[.ref a,x])->(H a=some (.ins C dx []))->(Q .non (upd H a (.ins C dx [(f,x)])))->Tr C f vs H Q zz3
inductive q9 (C:Addr)(f g:Str)(vs:List V)(H:Hp)(Q:VK)(zz3:XK):Prop | mk:∀a dx x y,(vs=[.ref a,x,y])->(H a=some (.ins C dx []))->(Q .non (upd H a (.ins C dx [(f,x),(g,y)])))->q9 C f g vs H Q zz3
inductive Ut (vs:List V)(H:Hp)(Q:VK)(zz3:XK):Prop | mk:∀x y,(vs=[x,y])->(Q (.bl true) H)->Ut vs H Q zz3
inductive iw (vs:List V)(H:Hp)(Q:VK)(zz3:XK):Prop | mk:∀x y,(vs=[x,y])->(Q y H)->iw vs H Q zz3
inductive Qs (K:FrG)(CG CL CS:Addr)(R:Pc->Ab->U2)(C:Pc->Prop)(vs:List V)(H:Hp)(Q:VK)(zz3:XK):Prop | mk:∀(o y:V) (p:Pc) (r:Ab) (n m:Nat),(vs=[o,y])->(C p)->(ObAt K CG CL CS H o p)->(DV K H y (BX r))->(RB n r)->(p.bd m)->(n+m<=3900)->(∀v H',Same H H'->DV K H' v (R p r)->Q v H')->Qs K CG CL CS R C vs H Q zz3
def yQ:Pc->Prop
 | .gap _=>True
 | _=>False
def rZ:Pc->Prop
 | .glass _=>True
 | _=>False
def isStop:Pc->Prop
 | .stop _ _=>True
 | _=>False
inductive fY (K:FrG)(CG CL CS:Addr)(vs:List V)(H:Hp)(Q:VK)(zz3:XK):Prop | mk:∀v p,(vs=[v])->(DV K H v (CV p))->(∀a H',Same H H'->ObAt K CG CL CS H' (.ref a) p->Q (.ref a) H')->fY K CG CL CS vs H Q zz3
structure Good (m:Nat)(ps:List Pc):Prop where
 len:ps.length<=60
 ok:∀p∈ps,p.ok
 bd:∀p∈ps,p.bd m
inductive aK (K:FrG)(vs:List V)(H:Hp)(Q:VK)(zz3:XK):Prop | mk:∀v ps m,(vs=[v])->(DV K H v (Ec ps))->(Good m ps)->(m<=4000)->(∀H',Same H H'->Q .non H')->aK K vs H Q zz3
inductive qK (K:FrG)(vs:List V)(H:Hp)(Q:VK)(zz3:XK):Prop | mk:∀(b y:V) (ps:List Pc) (r:Ab) (n m:Nat),(vs=[b,y])->(DV K H b (Ec ps))->(Good m ps)->(DV K H y (BX r))->(RB n r)->(n+ps.length * (m+1)+m<=3900)->(∀t l rs at_ H',Same H H'->H l=none->H' l=some (.lst rs)->H' t=some (.tup [.ref l,at_])->DVs K H' rs ((walk ps r).1.map BX)->DV K H' at_ (cT (walk ps r).2)->Q (.ref t) H')->qK K vs H Q zz3
theorem JD {ps:List Pc}{i:Nat}{d:U2}(h:(ps.map CV)[i]?=some d):∃p,ps[i]?=some p/\d=CV p:=by
 rw [ZN] at h;cases e:ps[i]? with
 | none=>rw [e] at h;cases h
 | some p=>rw [e] at h;exact ⟨p,rfl,(XM h).symm⟩
theorem AP1 (xs:List V)(lo hi:Nat):(cutV xs (some (lo:Int)) (some (hi:Int))).length<=hi - lo:=by
 unfold cutV;rw [HT.HR,HT.HR,YR];omega
theorem sJ (xs:List V)(hi:Nat):(cutV xs none (some (hi:Int))).length<=hi:=by
 unfold cutV;rw [HT.HR,HT.Lf,YR];omega
theorem yU (ns:List Int)(lo hi:Option Int):∃a:List Int,cutV (ns.map V.int) lo hi=a.map V.int:=by
 unfold cutV;rw [<- List.map_drop,<- List.map_take];exact ⟨_,rfl⟩
theorem pF (q:Rat):Aj (-q)=.tuple [.int (0 - q.num),.int (q.den:Int)]:=by
 unfold Aj;rw [Nt,Nw,FK]
theorem aU {vs:List V}{v:V}(h:vs.getLast?=some v):atI vs (-1)=some v:=by
 obtain ⟨a,rfl⟩:=List.getLast?_eq_some_iff.mp h;exact Ad7 a v
theorem DVs.last {K:FrG}{H:Hp}{vs:List V}{ds:List U2}{d:U2}(h:DVs K H vs ds)(hd:ds.getLast?=some d):∃v,vs.getLast?=some v/\DV K H v d:=by
 have hl:=h.len;have e:ds[ds.length - 1]?=some d:=by rw [<- QZ];exact hd
 have hi:ds.length - 1 < vs.length:=by
  have:=(Yn.mp e).1;omega
 obtain ⟨d',a,hv⟩:=DVs.get h (ZO hi);rw [e] at a;cases a
 refine ⟨_,?_,hv⟩;rw [QZ,hl];exact ZO hi
theorem AZ9 (z:Str):(if false=true then !inV (.str z) [.str "gap",.str "glass"] else inV (.str z) [.str "gap",.str "glass"])=(decide (z="gap") || decide (z="glass")):=by
 rw [if_neg ZH];unfold inV;simp only [JI,List.any_nil,Bool.or_false];have h:∀w:Str,eqV (.str w) (.str z)=decide (z=w):=λ w=>by
  show decide (w=z)=decide (z=w);exact decide_eq_decide.mpr ⟨Eq.symm,Eq.symm⟩
 rw [h,h]
theorem Dv {x:V}{xs:List V}:atI (x::xs) 0=some x:=Bh (j:=0) rfl
end Lib
namespace Op
open Fr
def lastOf (w:List Ab)(r:Ab):Ab:=(r::w).getLast (by simp)
theorem AW0 (a r:Ab)(w:List Ab):lastOf (a::w) r=lastOf w a:=by
 unfold lastOf;rw [xb (by simp)]
theorem tK (w:List Ab)(r:Ab):(r::w).getLast?=some (lastOf w r):=WE _
theorem xf (ps:List Pc):∀(i:Nat) (r:Ab) (j:Nat),(wk i ps r).2=some j->i<=j/\j < i+ps.length/\(wk i ps r).1.length=j - i:=by
 induction ps with
 | nil=>intro i r j h;cases h
 | cons p ps b=>
  intro i r j a;cases h:p.lets r with
  | true=>
   rw [Hz h] at a ⊢;obtain ⟨d,e,c⟩:=b _ _ _ a;simp only [X9,c];omega
  | false=>
   rw [N7 h] at a ⊢;cases a
   simp
def behind (ps:List Pc)(r:Ab):Option Ab:=if (walk ps r).2=none then some (lastOf (wk 0 ps r).1 r) else none
theorem qX (ps:List Pc)(r:Ab):(walk ps r).1.getLast?=some (lastOf (wk 0 ps r).1 r):=tK _ _
theorem bV {ps:List Pc}{r:Ab}{j:Nat}(h:(walk ps r).2=some j):j < ps.length/\(walk ps r).1.length=j+1:=by
 obtain ⟨a,b,c⟩:=xf ps 0 r j h;refine ⟨by omega,?_⟩
 show ((wk 0 ps r).1).length+1=_;omega
end Op
namespace Lib
open PySem L2 Fr Op
theorem Aa4 (xs:List V)(k:Nat):cutV xs none (some (k:Int))=xs.take k:=by
 unfold cutV;rw [HT.HR,HT.Lf,qh,Nat.sub_zero,<- List.take_take];rw [YU]
theorem qz (xs:List V)(k:Nat):cutV xs (some (k:Int)) none=xs.drop k:=by
 unfold cutV;rw [HT.HR,HT.Lf];by_cases h:k<=xs.length
 ·rw [xw h];exact QD (by rw [JF];exact ZK _)
 ·rw [Nat.min_eq_right (by omega),wf (ZK _),wf (by omega),List.take_nil]
theorem AV8 {K:FrG}{H:Hp}{v:V}:∀{o:Option Nat},DV K H v (cT o)->decide (v=.non)=o.isNone
 | none,h=>by obtain rfl:=h.non_of;rfl
 | some i,h=>by obtain rfl:=h.int_of;rfl
end Lib
namespace Op
open Fr
def Pc.isStop:Pc->Bool
 | .stop _ _=>true
 | _=>false
def Cj (ps:List Pc):List Pc:=ps.filter λ p=>!p.isStop
def BV (ps:List Pc)(r:Ab):Ab:=ps.foldl (λ r p=>p.bent r) r
def both (r s:Ab):Ab:=(r.1+s.1,r.2+s.2)
def times (k:Rat)(r:Ab):Ab:=(k * r.1,k * r.2)
theorem qL (p:Pc)(r s:Ab):p.bent (both r s)=both (p.bent r) (p.bent s):=by
 cases p with
 | gap d=>simp only [Pc.bent,both];refine Uv ?_ rfl;show r.1+s.1+d * (r.2+s.2)=r.1+d * r.2+(s.1+d * s.2);grind
 | glass d=>simp only [Pc.bent,both];refine Uv rfl ?_;show r.2+s.2 - d * (r.1+s.1)=r.2 - d * r.1+(s.2 - d * s.1);grind
 | stop _ _=>rfl
theorem Yy (p:Pc)(k:Rat)(r:Ab):p.bent (times k r)=times k (p.bent r):=by
 cases p with
 | gap d=>simp only [Pc.bent,times];refine Uv ?_ rfl;show k * r.1+d * (k * r.2)=k * (r.1+d * r.2);grind
 | glass d=>simp only [Pc.bent,times];refine Uv rfl ?_;show k * r.2 - d * (k * r.1)=k * (r.2 - d * r.1);grind
 | stop _ _=>rfl
theorem AH7 (ps:List Pc):∀r s:Ab,BV ps (both r s)=both (BV ps r) (BV ps s):=by
 induction ps with
 | nil=>intro r s;rfl
 | cons p ps a=>intro r s;show BV ps (p.bent (both r s))=_;rw [qL,a];rfl
theorem dX (ps:List Pc):∀(k:Rat) (r:Ab),BV ps (times k r)=times k (BV ps r):=by
 induction ps with
 | nil=>intro k r;rfl
 | cons p ps a=>intro k r;show BV ps (p.bent (times k r))=_;rw [Yy,a];rfl
theorem Nj (ps:List Pc):∀r:Ab,BV (Cj ps) r=BV ps r:=by
 induction ps with
 | nil=>intro r;rfl
 | cons p ps a=>
  intro r;cases p with
  | gap d=>exact a _
  | glass d=>exact a _
  | stop lo hi=>exact a _
theorem oM (ps:List Pc):∀(i:Nat) (r:Ab),(wk i ps r).2=none->lastOf (wk i ps r).1 r=BV ps r:=by
 induction ps with
 | nil=>intro i r _;rfl
 | cons p ps b=>
  intro i r a;cases h:p.lets r with
  | true=>
   rw [Hz h] at a ⊢;rw [AW0,b _ _ a];rfl
  | false=>rw [N7 h] at a;cases a
theorem AW6 {ps:List Pc}{r:Ab}(h:(walk ps r).2=none):behind ps r=some (BV ps r):=by
 unfold behind;rw [if_pos h,oM ps 0 r h]
theorem xn (ps:List Pc):∀(i:Nat) (r:Ab),(∀p∈ps,p.isStop=false)->(wk i ps r).2=none:=by
 induction ps with
 | nil=>intro i r _;rfl
 | cons p ps b=>
  intro i r a;have hl:p.lets r=true:=by
   have:=a p U1;cases p with
   | stop _ _=>cases this
   | _=>rfl
  rw [Hz hl];exact b _ _ λ q c=>a q (Y9 _ c)
theorem km (ps:List Pc):∀p∈Cj ps,p.isStop=false:=λ p a=>by
 have:=(UN.mp a).2
 simpa using this
theorem AV3 (ps:List Pc)(r:Ab):behind (Cj ps) r=some (BV ps r):=by
 rw [AW6 (xn _ 0 r (km ps)),Nj]
theorem lO {n m:Nat}(ps:List Pc):∀(n:Nat) (r:Ab),(∀p∈ps,p.bd m)->RB n r->RB (n+ps.length * (m+1)) (BV ps r):=by
 induction ps with
 | nil=>intro n r _ h;simpa [BV] using h
 | cons p ps b=>
  intro n r a h;have c:=HB (a p U1) h;have:=b _ _ (λ q d=>a q (Y9 _ d)) c
  refine Rb.mono this ?_;rw [X9,zj,Nat.one_mul];omega
end Op
namespace Lib
open PySem L2 Fr Op
theorem j5 (ps:List Pc):(Cj ps).length<=ps.length:=yX _ _
theorem AO1 {ps:List Pc}{i:Nat}{p:Pc}(h:ps[i]?=some p):Cj (ps.take (i+1))=if p.isStop then Cj (ps.take i) else Cj (ps.take i)++[p]:=by
 unfold Cj;rw [Xe,h,List.filter_append];cases a:p.isStop with
 | true=>simp [a]
 | false=>simp [a]
end Lib
namespace L2
open PySem PySem.Spec PyProof.Rows
theorem vP (env:Env):∀(l:List (Str×UM)) (b:List (Str×Addr)),(∀y∈l,y.2=.free->∃c,env.cells.lookup y.1=some c)->
  ∃cl,(forIn l b λ (x:Str×UM) (cs:List (Str×Addr))=>(if (x.2 == zt)=true then (cellOf env x.1 >>= λ a=>pure (Qr ((x.1,a)::cs))) else pure (Qr cs):Sem (ForInStep (List (Str×Addr)))))=pure cl/\
   (∀y c,cl.lookup y=some c->b.lookup y=some c\/env.cells.lookup y=some c)/\(∀y c,b.lookup y=some c->∃g,cl.lookup y=some g)/\∀y∈l,y.2=.free->∃c,cl.lookup y.1=some c:=by
 intro l
 induction l with
 | nil=>intro b _;exact ⟨b,rfl,λ y c e=>.inl e,λ y c e=>⟨c,e⟩,λ _ h=>nomatch h⟩
 | cons x r p=>
  intro b h;obtain ⟨n,k⟩:=x;have q:∀y∈r,y.2=.free->∃c,env.cells.lookup y.1=some c:=λ y d=>h y (Y9 _ d)
  rw [yn];by_cases j:k=.free
  ·subst j;obtain ⟨c,s⟩:=h (n,.free) U1 rfl;have t:cellOf env n=pure c:=by unfold cellOf;rw [show env.cells.lookup n=some c from s]
   rw [if_pos (by rfl),t,pure_bind,pure_bind]
   obtain ⟨cl,e,m,i,o⟩:=p ((n,c)::b) q;refine ⟨cl,e,λ y g d=>?_,λ y g d=>?_,λ y d hf=>?_⟩
   ·rcases m y g d with z | z
    ·rw [List.lookup_cons] at z
     split at z
     ·rename_i f
      have f:y=n:=by simpa using f
      subst f;cases z
      exact .inr s
     ·exact .inl z
    ·exact .inr z
   ·by_cases f:y=n
    ·subst f;exact i y c (by simp)
    ·have u:(y == n)=false:=by simpa using f
     exact i y g (by rw [List.lookup_cons,u];exact d)
   ·rcases X2.mp d with z | z
    ·subst z;exact i n c (by simp)
    ·exact o y z hf
  ·have v:¬ (k == zt)=true:=by simpa using j
   rw [if_neg v,pure_bind];obtain ⟨cl,e,m,i,o⟩:=p b q;refine ⟨cl,e,m,i,λ y d hf=>?_⟩
   rcases X2.mp d with z | z
   ·subst z;exact absurd hf j
   ·exact o y z hf
theorem uw {X:Cx}{a:Scope}(hcell:∀y∈a.names,y.2≠.cell)(hf:∀y∈a.names,y.2=.free->∃c,X.env.cells.lookup y.1=some c):∃cl,CapOk X a cl:=by
 obtain ⟨cl,e,j,q,l⟩:=vP X.env a.names [] hf;refine ⟨cl,?_,λ y c f=>?_,λ y f=>?_⟩
 ·unfold closureFor;rw [show (pure cl:Sem _)=(pure cl >>= λ cs=>pure cs) by rw [pure_bind],<- e]
 ·rcases j y c f with z | z
  ·simp at z
  ·exact z
 ·have d:∃k,(y,k)∈(xz a X.env).names/\(k=.cell\/k=.free):=by
   rcases f with z | z
   ·exact ⟨_,Uf z,.inl rfl⟩
   ·exact ⟨_,Uf z,.inr rfl⟩
  obtain ⟨k,d,m⟩:=d;unfold xz at d;obtain ⟨⟨n,g⟩,h,b⟩:=XW.mp d;have i:g=.free:=by
   by_cases z:g=.free
   ·exact z
   ·have o:(g == zt)=false:=by simpa using z
    simp only [o,wc,qk,if_false,Prod.mk.injEq] at b;obtain ⟨_,rfl⟩:=b;rcases m with rfl | rfl
    ·exact absurd rfl (hcell _ h)
    ·exact absurd rfl z
  subst i;have p:n=y:=by
   dsimp only at b
   split at b
   ·exact (Prod.mk.inj b).1
   ·exact (Prod.mk.inj b).1
  subst p;exact l _ h rfl
theorem Pg {X:Cx}{a:Scope}{n:Nat}(b:X.env.cells=cellsFrom n X.env.scope.names []:=by rfl)(hcell:∀y∈a.names,y.2≠.cell)(hf:∀y∈a.names,y.2=.free->X.env.scope.names.lookup y.1=some .cell):∃cl,CapOk X a cl:=
 uw hcell λ y c d=>by
  rw [b];exact WR (hf y c d)
section
variable {X:Cx}{tg elt iter:Expr}{ifs:List Expr}{scope:Scope}{pos spos py:Pos}{wi:TI}{g:TG}{tt:TT}{te:TE}
theorem xW (c:List Str)(b:List (Option Nat))(n:X.calm=true)(hi:PI X tg iter wi)
  (o:∀cl C d a e f,PG (Ci X scope cl c C d a e f) tg g) (p:∀cl C d a e f,CK (Ci X scope cl c C d a e f) ifs tt) (q:∀cl C d a e f,PE (Ci X scope cl c C d a e f) elt te)
  (h:∃cl,CapOk X scope cl) (hcell:∀y∈scope.names,y.2≠.cell) (l:scope.kind=.function) (k:∀y∈scope.names,y.2=.local->scope.names.lookup y.1=some .local) (r:b.length=c.length)
  (m:∀(i j:Nat),b[i]?=some (some j)->∃y:Str,c[i]?=some y/\X.N[j]?=some y/\(xz scope X.env).names.lookup y=some .cell/\X.env.scope.names.lookup y=some .cell)
  (s:∀x,JW iter X.env x=pure x:=by intro _;rfl):
  PE X (.ListComp elt [⟨tg,iter,ifs,0⟩] scope pos) (Jh wi g tt te b):=by
 obtain ⟨cl,h⟩:=h;exact Fz c b n hi (o cl) (p cl) (q cl) h hcell l k r m s
theorem Wq {y:Str}{i:Nat}(n:X.N.Nodup)(o:X.N[i]?=some y)(r:Loc X.env.scope y)(c:List Str)(b:List (Option Nat))(s:X.calm=true)(hi:PI X tg iter wi)
  (t:∀cl C d a e f,PG (Ci X scope cl c C d a e f) tg g) (u:∀cl C d a e f,CK (Ci X scope cl c C d a e f) ifs tt) (v:∀cl C d a e f,PE (Ci X scope cl c C d a e f) elt te)
  (h:∃cl,CapOk X scope cl) (hcell:∀y∈scope.names,y.2≠.cell) (l:scope.kind=.function) (k:∀y∈scope.names,y.2=.local->scope.names.lookup y.1=some .local) (w:b.length=c.length)
  (m:∀(i j:Nat),b[i]?=some (some j)->∃y:Str,c[i]?=some y/\X.N[j]?=some y/\(xz scope X.env).names.lookup y=some .cell/\X.env.scope.names.lookup y=some .cell)
  (z:∀x,JW iter X.env x=pure x:=by intro _;rfl) (p:js (.ListComp elt [⟨tg,iter,ifs,0⟩] scope pos) (some (.Name y py)) spos.line X.env=pure true:=by rfl)
  (q:X.fn y=true\/X.env.scope.names.lookup y=some .local:=by first | exact .inl rfl | exact .inr rfl | assumption):
  PS X (.Assign [.Name y py] (.ListComp elt [⟨tg,iter,ifs,0⟩] scope pos) spos) (iD i (Jh wi g tt te b)):=by
 obtain ⟨cl,h⟩:=h;exact cu n o r c b s hi (t cl) (u cl) (v cl) h hcell l k w m z p q
end
end L2
namespace Lib
open PySem L2 Fr Op
theorem flat_nil:Flat 1 (.list []):=Xi λ _ h=>nomatch h
inductive iB (K:FrG)(vs:List V)(H:Hp)(Q:VK)(zz3:XK):Prop | mk:∀v q,(vs=[v])->(DV K H v (Aj q))->(Q (.bl true) H)->iB K vs H Q zz3
inductive aq (K:FrG)(vs:List V)(H:Hp)(Q:VK)(zz3:XK):Prop | mk:∀(v:V) (p:Pc) (m:Nat),(vs=[v])->(DV K H v (CV p))->(p.ok)->(p.bd m)->(m<=4000)->(∀H',Same H H'->Q (.bl true) H')->aq K vs H Q zz3
inductive PSh (m:Nat):Str->List Rat->Prop where
 | stop {lo hi:Rat}:¬ hi < lo->Bd m lo->Bd m hi->PSh m "stop" [lo,hi]
 | one {w:Str} {d:Rat}:decide (w="stop")=false->(decide (w="gap") || decide (w="glass"))=true->PSh m w [d]
theorem AP0 {m:Nat}:∀{p:Pc},p.ok->p.bd m->∃w es,CV p=.tuple (.str w::es.map Aj)/\PSh m w es
 | .gap d,_,_=>⟨"gap",[d],rfl,.one (by decide) (by decide)⟩
 | .glass d,_,_=>⟨"glass",[d],rfl,.one (by decide) (by decide)⟩
 | .stop lo hi,h,b=>⟨"stop",[lo,hi],rfl,.stop h b.1 b.2⟩
theorem PSh.len {m:Nat}{w:Str}{es:List Rat}:PSh m w es->0 < es.length/\es.length<=2
 | .stop ..=>⟨by simp,by simp⟩
 | .one ..=>⟨by simp,by simp⟩
theorem AY2 (n:Nat):(XE n true).all id=true:=by simp
theorem tE (n:Nat):(XE n true).map V.bl=XE n (V.bl true):=by simp
theorem qm {es:List Rat}{i:Nat}{d:U2}(h:(es.map Aj)[i]?=some d):∃q,d=Aj q:=by
 rw [ZN] at h;cases e:es[i]? with
 | none=>rw [e] at h;cases h
 | some q=>rw [e] at h;cases h;exact ⟨q,rfl⟩
theorem Ln {K:FrG}{H:Hp}{x y:V}{p q:Rat}{a:List (Option V)}{Q:VK}(b:DV K H x (Aj p))(c:DV K H y (Aj q))(k:Q (.bl (decide (p=q))) H):tC y a H (λ y d=>Ma K x y d Q):=Xo b c k
end Lib
namespace Op
open Fr
structure Tab where
 a:Rat
 b:Rat
 c:Rat
 d:Rat
def Tab.det (t:Tab):Rat:=t.a * t.d - t.b * t.c
def Tab.by (t:Tab)(r:Ab):Ab:=(t.a * r.1+t.b * r.2,t.c * r.1+t.d * r.2)
def e1:Ab:=(1,0)
def e2:Ab:=(0,1)
def tabOf (ps:List Pc):Tab:=⟨(BV ps e1).1,(BV ps e2).1,(BV ps e1).2,(BV ps e2).2⟩
theorem aQ (r:Ab):r=both (times r.1 e1) (times r.2 e2):=by
 unfold both times e1 e2;refine Uv ?_ ?_
 ·show r.1=r.1 * 1+r.2 * 0;grind
 ·show r.2=r.1 * 0+r.2 * 1;grind
theorem Vg (ps:List Pc)(r:Ab):BV ps r=(tabOf ps).by r:=by
 have e:BV ps r=both (times r.1 (BV ps e1)) (times r.2 (BV ps e2)):=by
  rw [<- dX,<- dX,<- AH7,<- aQ]
 rw [e];unfold both times Tab.by tabOf
 refine Uv ?_ ?_
 ·show r.1 * (BV ps e1).1+r.2 * (BV ps e2).1=(BV ps e1).1 * r.1+(BV ps e2).1 * r.2;grind
 ·show r.1 * (BV ps e1).2+r.2 * (BV ps e2).2=(BV ps e1).2 * r.1+(BV ps e2).2 * r.2;grind
theorem WY (p:Pc)(r s:Ab):(p.bent r).1 * (p.bent s).2 - (p.bent s).1 * (p.bent r).2=r.1 * s.2 - s.1 * r.2:=by
 cases p with
 | gap d=>show (r.1+d * r.2) * s.2 - (s.1+d * s.2) * r.2=_;grind
 | glass d=>show r.1 * (s.2 - d * s.1) - s.1 * (r.2 - d * r.1)=_;grind
 | stop _ _=>rfl
theorem zW (ps:List Pc):∀r s:Ab,(BV ps r).1 * (BV ps s).2 - (BV ps s).1 * (BV ps r).2=r.1 * s.2 - s.1 * r.2:=by
 induction ps with
 | nil=>intro r s;rfl
 | cons p ps a=>intro r s;show (BV ps (p.bent r)).1 * (BV ps (p.bent s)).2 - (BV ps (p.bent s)).1 * (BV ps (p.bent r)).2=_;rw [a,WY]
theorem Pu (ps:List Pc):(tabOf ps).det=1:=by
 have:=zW ps e1 e2;unfold Tab.det tabOf;show (BV ps e1).1 * (BV ps e2).2 - (BV ps e2).1 * (BV ps e1).2=1;rw [this];unfold e1 e2
 grind
theorem Lp (ps qs:List Pc)(r:Ab):BV (ps++qs) r=BV qs (BV ps r):=wh ..
def Tab.then (t u:Tab):Tab:=⟨u.a * t.a+u.b * t.c,u.a * t.b+u.b * t.d,u.c * t.a+u.d * t.c,u.c * t.b+u.d * t.d⟩
theorem uf (ps qs:List Pc):tabOf (ps++qs)=(tabOf ps).then (tabOf qs):=by
 unfold Tab.then;have a:BV (ps++qs) e1=(tabOf qs).by (BV ps e1):=by rw [Lp,Vg qs]
 have b:BV (ps++qs) e2=(tabOf qs).by (BV ps e2):=by rw [Lp,Vg qs]
 show Tab.mk _ _ _ _=_;rw [a,b];rfl
structure Tb (n:Nat)(t:Tab):Prop where
 a:Bd n t.a
 b:Bd n t.b
 c:Bd n t.c
 d:Bd n t.d
theorem Ti {m:Nat}{ps:List Pc}(a:∀p∈ps,p.bd m):Tb (2+ps.length * (m+1)) (tabOf ps):=by
 have d:RB 2 e1:=⟨1,0,1,by decide,by decide,by decide,by decide,by decide+kernel,by decide+kernel⟩
 have e:RB 2 e2:=⟨0,1,1,by decide,by decide,by decide,by decide,by decide+kernel,by decide+kernel⟩
 have b:=lO (n:=0) ps 2 e1 a d;have c:=lO (n:=0) ps 2 e2 a e;exact ⟨b.y,c.y,b.u,c.u⟩
end Op
namespace Lib
open PySem L2 Fr Op
def GK (t:Tab):U2:=.tuple [Aj t.a,Aj t.b,Aj t.c,Aj t.d]
def jk:Option Rat->U2
 | none=>.none
 | some q=>Aj q
inductive lV (ds:List U2)(d:U2):Prop | mk:∀t n,(ds=[GK t])->(Tb n t)->(n<=1900)->(d=.bool (decide (t.det=1)))->lV ds d
inductive qi (ds:List U2)(d:U2):Prop | mk:∀t n,(ds=[GK t])->(Tb n t)->(n<=1900)->(t.det=1)->(d=.none)->qi ds d
inductive nP (ds:List U2)(d:U2):Prop | mk:∀r s:Ab,(ds=[BX r,BX s])->(d=GK ⟨r.1,s.1,r.2,s.2⟩)->nP ds d
inductive jg (ds:List U2)(d:U2):Prop | mk:∀ps m,(ds=[Ec ps])->(Good m ps)->(2+ps.length * (m+1)+m<=3900)->(d=GK (tabOf ps))->jg ds d
inductive jH (ds:List U2)(d:U2):Prop | mk:∀t r n,(ds=[GK t,BX r])->(Tb n t)->(Bd n r.1)->(Bd n r.2)->(n<=1900)->(d=BX (t.by r))->jH ds d
def spread (t:Tab)(s:Rat):Ab:=(t.a * s+t.b,t.c * s+t.d)
inductive nH (ds:List U2)(d:U2):Prop | mk:∀t s n,(ds=[GK t,Aj s])->(Tb n t)->(Bd n s)->(n<=1900)->(d=BX (spread t s))->nH ds d
def img (t:Tab)(s:Rat):Option Rat:=if (spread t s).2=0 then none else some (0 - (spread t s).1 / (spread t s).2)
def RD (t:Tab)(s:Rat):Option Rat:=if (spread t s).2=0 then none else some (1 / (spread t s).2)
inductive eF (ds:List U2)(d:U2):Prop | mk:∀t s n,(ds=[GK t,Aj s])->(Tb n t)->(t.det=1)->(Bd n s)->(n<=450)->(d=jk (img t s))->eF ds d
inductive oO (ds:List U2)(d:U2):Prop | mk:∀t s n,(ds=[GK t,Aj s])->(Tb n t)->(t.det=1)->(Bd n s)->(n<=450)->(d=jk (RD t s))->oO ds d
theorem Ff (n:Nat)(a:1<=n):Bd n (0:Rat):=⟨by show (0:Int).natAbs < 2 ^ n;exact NA (by decide),Y7 (by decide:(0:Rat).den < 2 ^ 1) (Cy a)⟩
theorem HY (n:Nat)(a:1<=n):Bd n (1:Rat):=⟨Y7 (by decide:(1:Rat).num.natAbs < 2 ^ 1) (Cy a),Y7 (by decide:(1:Rat).den < 2 ^ 1) (Cy a)⟩
theorem fM {t:Tab}{s:Rat}{n:Nat}(h:Tb n t)(e:Bd n s):Bd (3 * n+1) (spread t s).1/\Bd (3 * n+1) (spread t s).2:=⟨((h.a.mul e).add h.b).mono (by omega),((h.c.mul e).add h.d).mono (by omega)⟩
theorem nQ {t u:Tab}(a:t.a=u.a)(b:t.b=u.b)(c:t.c=u.c)(d:t.d=u.d):t=u:=by
 cases t;cases u;cases a;cases b;cases c;cases d;rfl
theorem wF (n i m:Nat):n+i * (m+1)+m+1<=n+(i+1) * (m+1):=by rw [zj];omega
theorem xZ {a:Type}{b:List a}{i:Nat}{x:a}(h:b.length<=i):(b++[x]).length<=i+1:=by rw [X1];exact xl h
theorem mW {n i m k:Nat}(h:n+k * (m+1)+m<=3900)(hi:i < k):n+i * (m+1)+m<=3900:=by
 have:i * (m+1)<=k * (m+1):=YP _ (XT hi);omega
theorem KR {n m:Nat}(h:n+m<=3900):n<=4000:=by omega
theorem Om {n m:Nat}(h:n+m<=3900):m<=4000:=by omega
theorem fW {n m:Nat}(h:n+m<=3900):m+n<=4000:=by omega
theorem AP6 {K:FrG}{H:Hp}{vs:List V}{r:Ab}{a:List Ab}(h:DVs K H vs ((r::a).map BX))(b:a.length<=60):vs.length < Y3:=by
 have:=h.len;rw [Y2,X9] at this;exact small1000 (by omega)
theorem by1 {b:Type}{p:List b->Prop}(h:∀a,p [a]):∀us:List b,us.length=1->p us
 | [_],_=>h _
theorem Bm {c:Type}{p:List c->Prop}(h:∀a b,p [a,b]):∀us:List c,us.length=2->p us
 | [_,_],_=>h _ _
theorem JM {d:Type}{p:List d->Prop}(h:∀a b c,p [a,b,c]):∀us:List d,us.length=3->p us
 | [_,_,_],_=>h _ _ _
theorem by4 {e:Type}{p:List e->Prop}(h:∀a b c d,p [a,b,c,d]):∀us:List e,us.length=4->p us
 | [_,_,_,_],_=>h _ _ _ _
theorem uK {f:Type}{p:List f->Prop}(h:∀a b c d e,p [a,b,c,d,e]):∀us:List f,us.length=5->p us
 | [_,_,_,_,_],_=>h _ _ _ _ _
theorem yP {ps:List Pc}{i:Nat}{a:Pc}(h:ps[i]?=some a)(r:Ab):BV (ps.take (i+1)) r=a.bent (BV (ps.take i) r):=by
 rw [Xe,h,Lp];rfl
def SD (d:Addr)(H a:Hp):Prop:=∀b o,b≠d->H b=some o->a b=some o
theorem SD.trans {d:Addr}{H e f:Hp}(a:SD d H e)(b:SD d e f):SD d H f:=λ c o n h=>b c o n (a c o n h)
theorem SD.t {d:Addr}{H a:Hp}{xs:List V}(s:SD d H a)(h:H d=some (.lst xs)):Gd H a:=λ b c=>⟨λ e=>s b _ (λ z=>by rw [z,h] at e;cases e) e,λ o e=>s b _ (λ z=>by rw [z,h] at e;cases e) e⟩
theorem Qp {H:Hp}{d:Addr}{o:HO}:SD d H (upd H d o):=λ b u n h=>by rw [BK n];exact h
inductive n6 (K:FrG)(vs:List V)(H:Hp)(Q:VK)(zz3:XK):Prop | mk:∀(a:Addr) (ns:List Int) (k:Int),(vs=[.ref a,.int k])->(SqL K H a (ns.map V.int))->(0<=k)->(∀z:Int,Q (.int z) H)->n6 K vs H Q zz3
inductive bA (vs:List V)(H:Hp)(Q:VK)(zz3:XK):Prop | mk:∀t b:Int,(vs=[.int t,.int b])->(0 < b)->(b.natAbs < lim)->(∀p,H p=none->Q (.ref p) (upd H p (.tup [.int (Fr.lt t b),.int (Fr.lb t b)])))->bA vs H Q zz3
theorem Nf (q:Rat):Gu (Aj q)=true:=rfl
section
variable {K:FrG}{H H1 H2 H':Hp}{v x y z u:V}{p:Addr}{d d1 d2 d3 d4:U2}{xs:List V}{o:HO}
theorem Dn (a:Same H1 H2)(b:Same H H1):Same H H2:=b.trans a
theorem HD (a:H1 p=none)(b:Same H H1):Same H (upd H1 p o):=b.trans (Am a o)
theorem Ie (h:DV K H v d)(s:Same H H'):DV K H' v d:=h.keep s
theorem Ht (h:SqT K H p xs)(s:Same H H'):SqT K H' p xs:=h.keep s
end
theorem yC {qs:List Pc}(h:∀p∈qs,p.isStop=false):Cj qs=qs:=by
 unfold Cj;exact List.filter_eq_self.mpr λ p a=>by rw [h p a];rfl
theorem uJ (e:Rat):tabOf [.gap e]=⟨1,e,0,1⟩:=by
 refine nQ ?_ ?_ rfl rfl
 ·show 1+e * 0=(1:Rat);grind
 ·show 0+e * 1=e;grind
theorem vo (e:Rat):tabOf [.glass e]=⟨1,0,-e,1⟩:=by
 refine nQ rfl rfl ?_ ?_
 ·show 0 - e * 1=-e;grind
 ·show 1 - e * 0=(1:Rat);grind
theorem Tb.mono {n m:Nat}{t:Tab}(h:Tb n t)(le:n<=m):Tb m t:=⟨h.a.mono le,h.b.mono le,h.c.mono le,h.d.mono le⟩
theorem ye {ps:List Pc}{r:Ab}{j:Nat}(h:(walk ps r).2=some j):behind ps r=none:=if_neg (by rw [h];simp)
structure Lim where
 k:Nat
 a:Rat
 b:Rat
 lo:Rat
 hi:Rat
def FQ (l:Lim):U2:=.tuple [.int (l.k:Int),Aj l.a,Aj l.b,Aj l.lo,Aj l.hi]
def lim1 (i:Nat)(p:Pc)(h s:Ab):List Lim:=match p with
 | .stop lo hi=>[⟨i,h.1,s.1,lo,hi⟩]
 | _=>[]
def En:Nat->List Pc->Ab->Ab->List Lim
 | _,[],_,_=>[]
 | i,p::ps,h,s=>lim1 i p h s++En (i+1) ps (p.bent h) (p.bent s)
def Bg (ps:List Pc):List Lim:=En 0 ps e1 e2
theorem iy (p:Pc):∀(ps:List Pc) (i:Nat) (h s:Ab),En i (ps++[p]) h s=En i ps h s++lim1 (i+ps.length) p (BV ps h) (BV ps s)
 | [],i,h,s=>by show lim1 i p h s++[]=[]++lim1 (i+0) p h s;rw [YY];rfl
 | q::ps,i,h,s=>by
  show lim1 i q h s++En (i+1) (ps++[p]) (q.bent h) (q.bent s)=lim1 i q h s++En (i+1) ps (q.bent h) (q.bent s)++_;rw [iy p ps,Xs,X9,show i+1+ps.length=i+(ps.length+1) by omega]
  rfl
theorem AQ0 {ps:List Pc}{i:Nat}{p:Pc}(h:ps[i]?=some p):Bg (ps.take (i+1))=Bg (ps.take i)++lim1 i p (BV (ps.take i) e1) (BV (ps.take i) e2):=by
 have hi:=(Yn.mp h).1;unfold Bg;rw [Xe,h];show En 0 (ps.take i++[p]) e1 e2=_;rw [iy,YR,xw (XT hi),Nat.zero_add]
theorem Yg (ps:List Pc):∀(i:Nat) (h s:Ab),(En i ps h s).length<=ps.length:=by
 induction ps with
 | nil=>intro i h s;exact ZK _
 | cons p ps a=>
  intro i h s;show (lim1 i p h s++En (i+1) ps _ _).length<=ps.length+1;rw [X1];have:=a (i+1) (p.bent h) (p.bent s);cases p with
  | gap d=>show 0+_<=_;omega
  | glass d=>show 0+_<=_;omega
  | stop lo hi=>show 1+_<=_;omega
theorem uL (l:Lim):Gu (FQ l)=true:=rfl
def Lim.bad (l:Lim)(r:Ab):Bool:=decide (l.a * r.1+l.b * r.2 < l.lo) || decide (l.hi < l.a * r.1+l.b * r.2)
def JK:List Lim->Ab->Option Nat
 | [],_=>none
 | l::ls,r=>if l.bad r=true then some l.k else JK ls r
def comb (h s r:Ab):Ab:=both (times r.1 h) (times r.2 s)
theorem rD (p:Pc)(h s r:Ab):p.bent (comb h s r)=comb (p.bent h) (p.bent s) r:=by
 unfold comb;rw [qL,Yy,Yy]
theorem AO9 (h s r:Ab):(comb h s r).1=h.1 * r.1+s.1 * r.2:=by
 show r.1 * h.1+r.2 * s.1=_
 grind
theorem oU:∀(ps:List Pc) (i:Nat) (h s r:Ab),JK (En i ps h s) r=(wk i ps (comb h s r)).2
 | [],i,h,s,r=>rfl
 | p::ps,i,h,s,r=>by
  have a:=oU ps (i+1) (p.bent h) (p.bent s) r;rw [<- rD] at a;cases p with
  | gap d=>rw [Hz (by rfl)];exact a
  | glass d=>rw [Hz (by rfl)];exact a
  | stop lo hi=>
   show (if (Lim.mk i h.1 s.1 lo hi).bad r=true then some i else JK (En (i+1) ps _ _) r)=_
   have e:(Lim.mk i h.1 s.1 lo hi).bad r=!(Pc.stop lo hi).lets (comb h s r):=by
    show (decide (h.1 * r.1+s.1 * r.2 < lo) || decide (hi < h.1 * r.1+s.1 * r.2))=!(!decide ((comb h s r).1 < lo) && !decide (hi < (comb h s r).1))
    rw [AO9];cases decide (h.1 * r.1+s.1 * r.2 < lo)<;>cases decide (hi < h.1 * r.1+s.1 * r.2)<;>rfl
   rw [e];cases hl:(Pc.stop lo hi).lets (comb h s r) with
   | true=>rw [if_neg (by decide),Hz hl];exact a
   | false=>rw [if_pos (by decide),N7 hl]
theorem ir (ps:List Pc)(r:Ab):JK (Bg ps) r=(walk ps r).2:=by
 unfold Bg walk;rw [oU];have:comb e1 e2 r=r:=(aQ r).symm;rw [this]
structure LimOk (n:Nat)(l:Lim):Prop where
 a:Bd n l.a
 b:Bd n l.b
 lo:Bd n l.lo
 hi:Bd n l.hi
 z:l.a=0->l.b≠0
theorem jP {m:Nat}:∀(ps:List Pc) (i n:Nat) (h s:Ab),(∀p∈ps,p.bd m)->RB n h->RB n s->h.1 * s.2 - s.1 * h.2=1->∀l∈En i ps h s,LimOk (n+ps.length * (m+1)+m) l
 | [],i,n,h,s,_,_,_,_=>λ l hl=>nomatch hl
 | p::ps,i,n,h,s,k,o,r,t=>λ l hl=>by
  have c:=k p U1;have e:(p::ps).length * (m+1)=ps.length * (m+1)+(m+1):=by rw [X9,zj,Nat.one_mul]
  rcases YE.mp hl with f | f
  ·cases p with
   | gap d=>cases f
   | glass d=>cases f
   | stop lo hi=>
    have c:Bd m lo/\Bd m hi:=c;cases W1.mp f
    refine ⟨o.y.mono (by omega),r.y.mono (by omega),c.1.mono (by omega),c.2.mono (by omega),λ g j=>?_⟩
    have g:h.1=0:=g;have j:s.1=0:=j;rw [g,j] at t
    grind
  ·have:=jP ps (i+1) (n+m+1) (p.bent h) (p.bent s) (λ q u=>k q (Y9 _ u)) (HB c o) (HB c r) (by rw [WY];exact t) l f
   exact ⟨this.a.mono (by omega),this.b.mono (by omega),this.lo.mono (by omega),this.hi.mono (by omega),this.z⟩
theorem Rx:RB 2 e1:=⟨1,0,1,by decide,by decide,by decide,by decide,by decide+kernel,by decide+kernel⟩
theorem Y6:RB 2 e2:=⟨0,1,1,by decide,by decide,by decide,by decide,by decide+kernel,by decide+kernel⟩
theorem AQ1 {m:Nat}{ps:List Pc}(a:∀p∈ps,p.bd m):∀l∈Bg ps,LimOk (2+ps.length * (m+1)+m) l:=jP ps 0 2 e1 e2 a Rx Y6 (by show (1:Rat) * 1 - 0 * 0=1;grind)
inductive jh (K:FrG)(vs:List V)(H:Hp)(Q:VK)(zz3:XK):Prop | mk:∀(v:V) (ps:List Pc) (m:Nat),(vs=[v])->(DV K H v (Ec ps))->(Good m ps)->(2+ps.length * (m+1)+m<=3900)->(∀l rs H',Same H H'->H l=none->H' l=some (.lst rs)->DVs K H' rs ((Bg ps).map FQ)->Q (.ref l) H')->jh K vs H Q zz3
theorem DV.upd5 {K:FrG}{H:Hp}{r:Addr}{x y z u t:V}{b c d e f:U2}(a:H r=none)(g:DV K H x b)(h:DV K H y c)(i:DV K H z d)(j:DV K H u e)(k:DV K H t f):DV K (upd H r (.tup [x,y,z,u,t])) (.ref r) (.tuple [b,c,d,e,f]):=
 .tup (SqT.of Ar) (.cons (g.keep (Am a _)) (.cons (h.keep (Am a _)) (.cons (i.keep (Am a _)) (.cons (j.keep (Am a _)) (.cons (k.keep (Am a _)) .nil)))))
theorem DV.t5 {K:FrG}{H:Hp}{v:V}{l:Lim}(h:DV K H v (FQ l)):∃a x y z u,v=.ref a/\SqT K H a [.int (l.k:Int),x,y,z,u]/\DV K H x (Aj l.a)/\DV K H y (Aj l.b)/\DV K H z (Aj l.lo)/\DV K H u (Aj l.hi):=by
 obtain ⟨a,xs,rfl,d,c⟩:=DV.tup_of h;obtain ⟨r,s,rfl,e,f⟩:=c.cons_of;obtain ⟨g,i,j,m,rfl,n,o,p,q⟩:=f.four;obtain rfl:=e.int_of;exact ⟨a,g,i,j,m,rfl,d,n,o,p,q⟩
theorem jM {ls:List Lim}{i:Nat}{d:U2}(h:(ls.map FQ)[i]?=some d):∃l,ls[i]?=some l/\d=FQ l:=by
 rw [ZN] at h;cases e:ls[i]? with
 | none=>rw [e] at h;cases h
 | some p=>rw [e] at h;exact ⟨p,rfl,(XM h).symm⟩
end Lib
namespace Op
open Fr
def Tab.id:Tab:=⟨1,0,0,1⟩
theorem dj (x:Rat):x * ((x.den:Int):Rat)=(x.num:Rat):=by
 have b:((x.den:Int):Rat)≠0:=λ h=>by
  have:((x.den:Int):Rat)=((0:Int):Rat):=h;have:=Rat.intCast_inj.mp this;have:=x.den_nz;omega
 have c:x=(x.num:Rat) / ((x.den:Int):Rat):=by
  rw [<- JU];exact (xD x).symm
 have a:(x.num:Rat) / ((x.den:Int):Rat) * ((x.den:Int):Rat)=(x.num:Rat):=ql b;rw [<- c] at a;exact a
end Op
namespace Lib
open PySem L2 Fr Op
structure Tq (n:Nat)(t:Tab):Prop where
 ex:∃(N A B C D:Int),N≠0/\N.natAbs < 2 ^ n/\A.natAbs < 2 ^ n/\B.natAbs < 2 ^ n/\C.natAbs < 2 ^ n/\D.natAbs < 2 ^ n/\t.a * (N:Rat)=(A:Rat)/\t.b * (N:Rat)=(B:Rat)/\t.c * (N:Rat)=(C:Rat)/\t.d * (N:Rat)=(D:Rat)
theorem Tq.mono {n m:Nat}{t:Tab}(h:Tq n t)(le:n<=m):Tq m t:=by
 obtain ⟨N,A,b,C,c,a,d,f,g,i,j,e⟩:=h.ex;have p:2 ^ n<=2 ^ m:=Cy le;exact ⟨N,A,b,C,c,a,by omega,by omega,by omega,by omega,by omega,e⟩
theorem AK4 {N:Int}(h:N≠0):(N:Rat)≠0:=λ z=>h (Rat.intCast_inj.mp (show (N:Rat)=((0:Int):Rat) from z))
theorem Ux {x y n m:Nat}(a:x < 2 ^ n)(b:y < 2 ^ m):x * y < 2 ^ (n+m):=by
 rw [NC];exact Nat.mul_lt_mul_of_lt_of_lt a b
theorem R6 {a b c d:Int}{n m:Nat}(e:a.natAbs < 2 ^ n)(f:b.natAbs < 2 ^ m)(g:c.natAbs < 2 ^ n)(hd:d.natAbs < 2 ^ m):(a * b+c * d).natAbs < 2 ^ (n+m+1):=by
 have h:(a * b).natAbs < 2 ^ (n+m):=by rw [WH];exact Ux e f
 have i:(c * d).natAbs < 2 ^ (n+m):=by rw [WH];exact Ux g hd
 have j:=Int.natAbs_add_le (a * b) (c * d);have k:2 ^ (n+m+1)=2 ^ (n+m) * 2:=by rw [jj]
 omega
theorem Tq.then {n m:Nat}{t u:Tab}(h:Tq n t)(k:Tq m u):Tq (m+n+1) (t.then u):=by
 obtain ⟨N,A,F,C,G,H,I,l,o,p,q,e1,e2,r,s⟩:=h.ex;obtain ⟨e,f,g,i,j,J,K,v,w,x,y,z,B,D,E⟩:=k.ex;refine ⟨e * N,f * A+g * C,f * F+g * G,i * A+j * C,i * F+j * G,yl J H,?_,R6 v l w p,R6 v o w q,R6 x l y p,R6 x o y q,?_,?_,?_,?_⟩
 ·rw [WH];exact Y7 (Ux K I) (Cy (by omega))
 ·show (u.a * t.a+u.b * t.c) * ((e * N:Int):Rat)=((f * A+g * C:Int):Rat);rw [xx,Yb,Yb,Yb,<- e1,<- r,<- z,<- B];grind
 ·show (u.a * t.b+u.b * t.d) * ((e * N:Int):Rat)=((f * F+g * G:Int):Rat);rw [xx,Yb,Yb,Yb,<- e2,<- s,<- z,<- B];grind
 ·show (u.c * t.a+u.d * t.c) * ((e * N:Int):Rat)=((i * A+j * C:Int):Rat);rw [xx,Yb,Yb,Yb,<- e1,<- r,<- D,<- E];grind
 ·show (u.c * t.b+u.d * t.d) * ((e * N:Int):Rat)=((i * F+j * G:Int):Rat);rw [xx,Yb,Yb,Yb,<- e2,<- s,<- D,<- E];grind
theorem tq_id:Tq 1 Tab.id:=⟨1,1,0,0,1,by decide,by decide,by decide,by decide,by decide,by decide,ub _,wm _,wm _,ub _⟩
theorem Af8 {m:Nat}:∀{p:Pc},p.bd m->Tq (m+1) (tabOf [p])
 | .gap e,(b:Bd m e)=>by
  rw [uJ];have a:e.num.natAbs < 2 ^ (m+1):=Y7 b.n (Cy (by omega))
  have hd:(e.den:Int).natAbs < 2 ^ (m+1):=by rw [YV];exact Y7 b.d (Cy (by omega))
  refine ⟨e.den,e.den,e.num,0,e.den,by have:=e.den_nz;omega,hd,hd,a,NA (by decide),hd,ub _,dj e,wm _,ub _⟩
 | .glass e,(b:Bd m e)=>by
  rw [vo];have a:(-e.num).natAbs < 2 ^ (m+1):=by rw [Jf];exact Y7 b.n (Cy (by omega))
  have hd:(e.den:Int).natAbs < 2 ^ (m+1):=by rw [YV];exact Y7 b.d (Cy (by omega))
  refine ⟨e.den,e.den,0,-e.num,e.den,by have:=e.den_nz;omega,hd,hd,NA (by decide),a,hd,ub _,wm _,?_,ub _⟩
  show -e * ((e.den:Int):Rat)=((-e.num:Int):Rat);rw [JA,<- dj e];grind
 | .stop lo hi,_=>by
  have e:tabOf [.stop lo hi]=Tab.id:=rfl;rw [e];exact tq_id.mono (by omega)
theorem bJ {m:Nat}:∀{ps:List Pc},(∀p∈ps,p.bd m)->Tq (1+ps.length * (m+2)) (tabOf ps)
 | [],_=>by
  have e:tabOf []=Tab.id:=rfl;rw [e];exact tq_id.mono (by simp)
 | p::ps,h=>by
  have e:tabOf (p::ps)=(tabOf [p]).then (tabOf ps):=uf [p] ps;rw [e];exact (Tq.then (Af8 (h p U1)) (bJ λ q a=>h q (Y9 _ a))).mono (by rw [X9,zj];omega)
instance:DecidableEq Tab:=λ t u=>decidable_of_iff (t.a=u.a/\t.b=u.b/\t.c=u.c/\t.d=u.d) ⟨λ ⟨a,b,c,d⟩=>by (cases t;cases u;cases a;cases b;cases c;cases d;rfl),λ h=>by rw [h];exact ⟨rfl,rfl,rfl,rfl⟩⟩
end Lib
namespace L2
open PySem PySem.Spec PyProof.Rows
end L2
namespace Lib
open PySem L2 Fr Op
def pb (a:Bool):Nat:=cond a 50 12
theorem xU (a:Bool):12<=pb a:=by cases a<;>decide
theorem lM (a:Bool):pb a<=4000:=by cases a<;>decide
structure Lamp where
 h:Rat
 s:Rat
 f:Rat
 l:Rat
structure LpB (n:Nat)(x:Lamp):Prop where
 h:Bd n x.h
 s:Bd n x.s
 f:Bd n x.f
 l:Bd n x.l
 o:¬ x.l < x.f
def Eo (h s u:Rat):Ab:=(h+s * u,u)
def hgt (t:Tab)(h s u T:Rat):Rat:=(t.by (Eo h s u)).1+T * (t.by (Eo h s u)).2
def JQ (p q:Rat):U2:=if q < p then .tuple [Aj q,Aj p] else .tuple [Aj p,Aj q]
inductive mF (ds:List U2)(d:U2):Prop | mk:∀p q,(ds=[Aj p,Aj q])->(Sm p)->(Sm q)->(d=JQ p q)->mF ds d
def pairD (p q:Rat):U2:=.tuple [Aj p,Aj q]
inductive cJ (ds:List U2)(d:U2):Prop | mk:∀t h s u T n m k,(ds=[GK t,pairD h s,Aj u,Aj T])->(Tb n t)->(Bd m h)->(Bd m s)->(Bd m u)->(Bd k T)->(2 * (2 * n+4 * m+2)+k<=3800)->(d=Aj (hgt t h s u T))->cJ ds d
inductive kI (ds:List U2)(d:U2):Prop | mk:∀ps h s u0 u1 T n m k,(ds=[Ec ps,pairD h s,pairD u0 u1,Aj T])->(Good n ps)->(Bd m h)->(Bd m s)->(Bd m u0)->(Bd m u1)->(Bd k T)->(2 * (2 * (2+ps.length * (n+1)+n)+4 * m+2)+k<=3800)->(d=JQ (hgt (tabOf ps) h s u0 T) (hgt (tabOf ps) h s u1 T))->kI ds d
inductive fc (ds:List U2)(d:U2):Prop | mk:∀ps h s u0 u1 T n m k,(ds=[Ec ps,pairD h s,pairD u0 u1,Aj T])->(Good n ps)->(Bd m h)->(Bd m s)->(Bd m u0)->(Bd m u1)->(Bd k T)->(2 * (2 * (2+ps.length * (n+1)+n)+4 * m+2)+k<=3800)->(d=Aj (if hgt (tabOf ps) h s u1 T < hgt (tabOf ps) h s u0 T then hgt (tabOf ps) h s u0 T - hgt (tabOf ps) h s u1 T else hgt (tabOf ps) h s u1 T - hgt (tabOf ps) h s u0 T))->fc ds d
theorem wL {K:FrG}{H:Hp}{v:V}{p q:Rat}(h:DV K H v (JQ p q)):DV K H v (pairD (if q < p then q else p) (if q < p then p else q)):=by
 unfold JQ at h;by_cases c:q < p
 ·rw [if_pos c] at h ⊢;rw [if_pos c];exact h
 ·rw [if_neg c] at h ⊢;rw [if_neg c];exact h
theorem O2 {t:Tab}{h s u T:Rat}{n m k:Nat}(e:Tb n t)(g:Bd m h)(bs:Bd m s)(f:Bd m u)(i:Bd k T):Bd (2 * (2 * n+4 * m+2)+k+1) (hgt t h s u T):=by
 have by1:Bd (3 * m+1) (h+s * u):=(g.add (bs.mul f)).mono (by omega)
 have j:Bd (2 * n+4 * m+2) (t.by (Eo h s u)).1:=((e.a.mul by1).add (e.b.mul f)).mono (by omega)
 have l:Bd (2 * n+4 * m+2) (t.by (Eo h s u)).2:=((e.c.mul by1).add (e.d.mul f)).mono (by omega)
 exact (j.add (i.mul l)).mono (by omega)
def mn (p q:Rat):Rat:=if q < p then q else p
def mx (p q:Rat):Rat:=if q < p then p else q
theorem pK (u p q:Rat):u < mn p q↔u < p/\u < q:=by unfold mn;split<;>grind
theorem jt (u p q:Rat):mn p q < u↔p < u\/q < u:=by unfold mn;split<;>grind
theorem cV (u p q:Rat):mx p q < u↔p < u/\q < u:=by unfold mx;split<;>grind
theorem Wi (u p q:Rat):u < mx p q↔u < p\/u < q:=by unfold mx;split<;>grind
def FW (l:Lim)(h s f c:Rat):Option (Rat×Rat):=
 if l.a * s+l.b=0 then (if ¬ 0 < l.lo - l.a * h/\¬ l.hi - l.a * h < 0 then some (f,c) else none)
 else if mn c (mx ((l.lo - l.a * h) / (l.a * s+l.b)) ((l.hi - l.a * h) / (l.a * s+l.b))) < mx f (mn ((l.lo - l.a * h) / (l.a * s+l.b)) ((l.hi - l.a * h) / (l.a * s+l.b))) then none
 else some (mx f (mn ((l.lo - l.a * h) / (l.a * s+l.b)) ((l.hi - l.a * h) / (l.a * s+l.b))),mn c (mx ((l.lo - l.a * h) / (l.a * s+l.b)) ((l.hi - l.a * h) / (l.a * s+l.b))))
def K3 (o:Option (Rat×Rat))(u:Rat):Prop:=∃f a,o=some (f,a)/\¬ u < f/\¬ a < u
theorem O8 (f a u:Rat):K3 (some (f,a)) u↔¬ u < f/\¬ a < u:=⟨λ ⟨_,_,e,h⟩=>by cases e;exact h,λ h=>⟨f,a,rfl,h⟩⟩
theorem Pa (u:Rat):¬ K3 none u:=λ ⟨_,_,e,_⟩=>by cases e
theorem AN7 (l:Lim)(h s u:Rat):l.bad (Eo h s u)=false↔¬ l.a * h+(l.a * s+l.b) * u < l.lo/\¬ l.hi < l.a * h+(l.a * s+l.b) * u:=by
 have e:l.a * (Eo h s u).1+l.b * (Eo h s u).2=l.a * h+(l.a * s+l.b) * u:=by
  show l.a * (h+s * u)+l.b * u=_
  grind
 unfold Lim.bad;rw [e,ND,decide_eq_false_iff_not,decide_eq_false_iff_not]
theorem AY8 {x y r u:Rat}(h:¬ y < x)(g:¬ r=0):(¬ u < mn (x / r) (y / r)/\¬ mx (x / r) (y / r) < u)↔¬ r * u < x/\¬ y < r * u:=by
 by_cases a:0 < r
 ·have e1:u < x / r↔u * r < x:=qn a;have e2:y / r < u↔y < u * r:=qo a;have c:u < y / r↔u * r < y:=qn a;have d:x / r < u↔x < u * r:=qo a;rw [pK,cV,e1,e2,c,d]
  grind
 ·have b:0 < -r:=by grind
  have e:x / r=(-x) / (-r):=by grind
  have f:y / r=(-y) / (-r):=by grind
  have e1:u < (-x) / (-r)↔u * -r < -x:=qn b;have e2:(-y) / (-r) < u↔-y < u * -r:=qo b;have c:u < (-y) / (-r)↔u * -r < -y:=qn b;have d:(-x) / (-r) < u↔-x < u * -r:=qo b;rw [e,f,pK,cV,e1,e2,c,d]
  grind
theorem vh {l:Lim}(ord:¬ l.hi < l.lo)(h s f j u:Rat):K3 (FW l h s f j) u↔¬ u < f/\¬ j < u/\l.bad (Eo h s u)=false:=by
 rw [AN7];unfold FW;by_cases g:l.a * s+l.b=0
 ·rw [if_pos g,g];by_cases e:¬ 0 < l.lo - l.a * h/\¬ l.hi - l.a * h < 0
  ·rw [if_pos e,O8];grind
  ·rw [if_neg e];refine ⟨λ z=>absurd z (Pa u),λ z=>absurd ?_ e⟩
   grind
 ·rw [if_neg g];have k:=AY8 (x:=l.lo - l.a * h) (y:=l.hi - l.a * h) (r:=l.a * s+l.b) (u:=u) (by grind) g
  generalize (l.lo - l.a * h) / (l.a * s+l.b)=i at k;generalize (l.hi - l.a * h) / (l.a * s+l.b)=e1 at k;have m:(¬ (l.a * s+l.b) * u < l.lo - l.a * h/\¬ l.hi - l.a * h < (l.a * s+l.b) * u)↔(¬ l.a * h+(l.a * s+l.b) * u < l.lo/\¬ l.hi < l.a * h+(l.a * s+l.b) * u):=by grind
  rw [<- m,<- k];by_cases e:mn j (mx i e1) < mx f (mn i e1)
  ·rw [if_pos e];refine ⟨λ z=>absurd z (Pa u),λ ⟨a,b,c,d⟩=>absurd e ?_⟩
   rw [jt,Wi,Wi]
   grind
  ·rw [if_neg e,O8,Wi,jt]
   grind
def Ei:List Lim->Rat->Rat->Rat->Rat->Option (Rat×Rat)
 | [],_,_,f,a=>some (f,a)
 | l::ls,h,s,f,a=>match FW l h s f a with
  | none=>none
  | some (b,g')=>Ei ls h s b g'
theorem XQ:∀{ls:List Lim},(∀l∈ls,¬ l.hi < l.lo)->∀(h s f i u:Rat),K3 (Ei ls h s f i) u↔¬ u < f/\¬ i < u/\∀l∈ls,l.bad (Eo h s u)=false
 | [],_,h,s,f,i,u=>by
  show K3 (some (f,i)) u↔_;rw [O8];exact ⟨λ ⟨a,b⟩=>⟨a,b,λ _ h=>nomatch h⟩,λ ⟨a,b,_⟩=>⟨a,b⟩⟩
 | l::ls,m,h,s,f,i,u=>by
  have g:=vh (m l U1) h s f i u;have n:∀l∈ls,¬ l.hi < l.lo:=λ l hl=>m l (Y9 _ hl)
  show K3 (match FW l h s f i with | none=>none | some (j,g')=>Ei ls h s j g') u↔_
  cases e:FW l h s f i with
  | none=>
   rw [e] at g;refine ⟨λ z=>absurd z (Pa u),λ ⟨a,b,c⟩=>absurd (g.mpr ⟨a,b,c l U1⟩) (Pa u)⟩
  | some p=>
   obtain ⟨j,g'⟩:=p;rw [e,O8] at g;have o:=XQ n h s j g' u;refine o.trans ⟨λ ⟨a,b,c⟩=>?_,λ ⟨a,b,c⟩=>?_⟩
   ·obtain ⟨x,y,z⟩:=g.mp ⟨a,b⟩;refine ⟨x,y,λ k d=>?_⟩
    rcases X2.mp d with rfl | d
    ·exact z
    ·exact c k d
   ·obtain ⟨x,y⟩:=g.mpr ⟨a,b,c l U1⟩;exact ⟨x,y,λ k d=>c k (Y9 _ d)⟩
theorem lC:∀(ps:List Pc) (i:Nat) (h s:Ab),(∀p∈ps,p.ok)->∀l∈En i ps h s,¬ l.hi < l.lo
 | [],i,h,s,_=>λ l hl=>nomatch hl
 | p::ps,i,h,s,b=>λ l hl=>by
  rcases YE.mp hl with a | a
  ·cases p with
   | gap d=>cases a
   | glass d=>cases a
   | stop lo hi=>
    cases W1.mp a
    exact b _ U1
  ·exact lC ps (i+1) _ _ (λ q c=>b q (Y9 _ c)) l a
def Ew (ls:List Lim)(h s:Rat):List Rat:=ls.flatMap λ l=>if l.a * s+l.b=0 then [] else [(l.lo - l.a * h) / (l.a * s+l.b),(l.hi - l.a * h) / (l.a * s+l.b)]
theorem Yt (p q:Rat):mn p q=p\/mn p q=q:=by unfold mn;split<;>simp
theorem Ye (p q:Rat):mx p q=p\/mx p q=q:=by unfold mx;split<;>simp
theorem jy {l:Lim}{h s f i d g':Rat}(e:FW l h s f i=some (d,g')):d∈f::Ew [l] h s/\g'∈i::Ew [l] h s/\(¬ i < f->¬ g' < d):=by
 unfold FW at e;have eq:Ew [l] h s=if l.a * s+l.b=0 then [] else [(l.lo - l.a * h) / (l.a * s+l.b),(l.hi - l.a * h) / (l.a * s+l.b)]:=by unfold Ew;simp
 rw [eq];by_cases g:l.a * s+l.b=0
 ·rw [if_pos g] at e ⊢
  split at e
  ·cases e;exact ⟨by simp,by simp,λ h=>h⟩
  ·cases e
 ·rw [if_neg g] at e ⊢;generalize (l.lo - l.a * h) / (l.a * s+l.b)=c at e ⊢;generalize (l.hi - l.a * h) / (l.a * s+l.b)=e1 at e ⊢
  split at e
  ·cases e
  ·rename_i j
   injection e with e
   injection e with k m
   subst k m;refine ⟨?_,?_,λ _=>j⟩
   ·rcases Ye f (mn c e1) with z | z
    ·rw [z];simp
    ·rw [z];rcases Yt c e1 with z | z<;>rw [z]<;>simp
   ·rcases Yt i (mx c e1) with z | z
    ·rw [z];simp
    ·rw [z];rcases Ye c e1 with z | z<;>rw [z]<;>simp
theorem W7:∀{ls:List Lim} {h s f g d g':Rat},Ei ls h s f g=some (d,g')->d∈f::Ew ls h s/\g'∈g::Ew ls h s/\(¬ g < f->¬ g' < d)
 | [],h,s,f,g,d,g',e=>by
  have e:some (f,g)=some (d,g'):=e;cases e
  exact ⟨by simp,by simp,λ h=>h⟩
 | l::ls,h,s,f,g,d,g',e=>by
  have e:(match FW l h s f g with | none=>none | some (x,y)=>Ei ls h s x y)=some (d,g'):=e
  have eq:Ew (l::ls) h s=Ew [l] h s++Ew ls h s:=by unfold Ew;simp
  rw [eq];cases e1:FW l h s f g with
  | none=>rw [e1] at e;cases e
  | some p=>
   obtain ⟨x,y⟩:=p;rw [e1] at e;obtain ⟨a,b,c⟩:=jy e1;obtain ⟨i,b2,j⟩:=W7 e;refine ⟨?_,?_,λ z=>j (c z)⟩
   ·rcases X2.mp i with rfl | h
    ·rcases X2.mp a with rfl | h
     ·exact U1
     ·exact Y9 _ (UQ _ h)
    ·exact Y9 _ (YA _ h)
   ·rcases X2.mp b2 with rfl | h
    ·rcases X2.mp b with rfl | h
     ·exact U1
     ·exact Y9 _ (UQ _ h)
    ·exact Y9 _ (YA _ h)
theorem tO {ls:List Lim}{h s:Rat}{n m:Nat}(hl:∀l∈ls,LimOk n l)(f:Bd m h)(bs:Bd m s):∀q∈Ew ls h s,Bd (4 * n+2 * m+2) q:=by
 intro q c;unfold Ew at c;obtain ⟨l,g,c⟩:=GW.mp c;obtain ⟨e,o,i,j,_⟩:=hl l g;by_cases d:l.a * s+l.b=0
 ·rw [if_pos d] at c;cases c
 ·rw [if_neg d] at c;have k:=(e.mul bs).add o;simp only [X2,YN,or_false] at c;rcases c with rfl | rfl
  ·exact ((i.sub (e.mul f)).div k d).mono (by omega)
  ·exact ((j.sub (e.mul f)).div k d).mono (by omega)
def cP:Option (Rat×Rat)->U2
 | none=>.none
 | some (f,a)=>pairD f a
inductive ju (ds:List U2)(d:U2):Prop | mk:∀p q,(ds=[Aj p,Aj q])->(Sm p)->(Sm q)->(d=Aj (mn p q))->ju ds d
inductive gf (ds:List U2)(d:U2):Prop | mk:∀p q,(ds=[Aj p,Aj q])->(Sm p)->(Sm q)->(d=Aj (mx p q))->gf ds d
theorem Sd (p q:Rat):JQ p q=pairD (mn p q) (mx p q):=by
 unfold JQ mn mx
 split<;>rfl
inductive nM (ds:List U2)(d:U2):Prop | mk:∀l h s f g n m B,(ds=[FQ l,pairD h s,Aj f,Aj g])->(LimOk n l)->(Bd m h)->(Bd m s)->(Bd B f)->(Bd B g)->(4 * n+2 * m+2<=B)->(B<=3900)->(d=cP (FW l h s f g))->nM ds d
inductive nZ (ds:List U2)(d:U2):Prop | mk:∀f g,(ds=[Aj f,Aj g])->(Sm f)->(Sm g)->(¬ g < f)->(d=.none)->nZ ds d
inductive pP (ds:List U2)(d:U2):Prop | mk:∀ps h s f g n m B,(ds=[Ec ps,pairD h s,Aj f,Aj g])->(Good n ps)->(Bd m h)->(Bd m s)->(Bd B f)->(Bd B g)->(¬ g < f)->(4 * (2+ps.length * (n+1)+n)+2 * m+2<=B)->(B<=3900)->(d=cP (Ei (Bg ps) h s f g))->pP ds d
theorem wK {ls:List Lim}{i:Nat}{l:Lim}(hl:ls[i]?=some l)(h s f a:Rat):Ei (ls.drop i) h s f a=match FW l h s f a with | none=>none | some (f',g')=>Ei (ls.drop (i+1)) h s f' g':=by
 obtain ⟨hi,e⟩:=Yn.mp hl;rw [show ls.drop i=l::ls.drop (i+1) by rw [<- e];exact UE hi]
 rfl
theorem gk {K:FrG}{H:Hp}{x y:V}{n:Nat}{ds:List U2}{Q:VK}(a:DV K H x (.list ds))(b:DV K H y (.list []))(f:Flat n (.list ds))(k:Q (.bl ds.isEmpty) H)(c:n<=64:=by decide):Ma K x y H Q:=by
 refine ⟨_,_,a,b,f.sh c,flat_nil.sh (by decide),?_⟩
 have e:UZ (.list ds) (.list [])=ds.isEmpty:=by
  cases ds with
  | nil=>rfl
  | cons d ds=>simp [UZ,Md]
 rw [e];exact k
def ab (q:Rat):Rat:=if q < 0 then -q else q
theorem AQ3 (p q:Rat):ab (p * q)=ab p * ab q:=by
 unfold ab;by_cases a:p < 0<;>by_cases b:q < 0
 ·have h:0 < p * q:=by
   have:=WA (show 0 < -p by grind) (show 0 < -q by grind)
   grind
  rw [if_pos a,if_pos b,if_neg (by grind)];grind
 ·rw [if_pos a,if_neg b];by_cases z:q=0
  ·subst z;rw [if_neg (by grind)];grind
  ·have:=WA (show 0 < -p by grind) (show 0 < q by grind)
   rw [if_pos (by grind)];grind
 ·rw [if_neg a,if_pos b];by_cases z:p=0
  ·subst z;rw [if_neg (by grind)];grind
  ·have:=WA (show 0 < p by grind) (show 0 < -q by grind)
   rw [if_pos (by grind)];grind
 ·have:=ZR (show 0<=p by grind) (show 0<=q by grind)
  rw [if_neg a,if_neg b,if_neg (by grind)]
theorem ab_zero {q:Rat}:ab q=0↔q=0:=by unfold ab;split<;>grind
theorem O9 {n:Nat}{q:Rat}(h:Bd n q):Bd n (ab q):=by
 unfold ab
 split
 ·exact ⟨by rw [Nt,Jf];exact h.n,by rw [Nw];exact h.d⟩
 ·exact h
theorem Ab3 (q:Rat):Aj (ab q)=.tuple [.int (if q.num < 0 then -q.num else q.num),.int (q.den:Int)]:=by
 unfold ab;by_cases c:q < 0
 ·rw [if_pos c,if_pos (Int.not_le.mp λ z=>xi.mpr (NF.mp z) c),pF,FK]
 ·rw [if_neg c,if_neg (Int.not_lt.mpr (NF.mpr (xi.mp c)))];rfl
def Gf (t:Tab)(x:Lamp)(T:Rat):Rat:=ab (hgt t x.h x.s x.l T - hgt t x.h x.s x.f T)
theorem AT2 (t:Tab)(h s u v T:Rat):hgt t h s v T - hgt t h s u T=((spread t s).1+T * (spread t s).2) * (v - u):=by
 unfold hgt Eo Tab.by spread
 dsimp only
 grind
theorem mO (t:Tab)(x:Lamp)(T:Rat):Gf t x T=ab ((spread t x.s).1+T * (spread t x.s).2) * ab (x.l - x.f):=by
 unfold Gf;rw [AT2,AQ3]
theorem Ac8 (t:Tab)(x:Lamp)(T:Rat):(if hgt t x.h x.s x.l T < hgt t x.h x.s x.f T then hgt t x.h x.s x.f T - hgt t x.h x.s x.l T else hgt t x.h x.s x.l T - hgt t x.h x.s x.f T)=Gf t x T:=by
 unfold Gf ab
 split<;>split<;>grind
def growing (t:Tab)(x:Lamp):Rat:=(spread t x.s).2 * (x.l - x.f)
def mid (t:Tab)(s:Rat):Rat:=0 - (spread t s).1 / (spread t s).2
def reach (t:Tab)(x:Lamp)(m:Rat):Rat:=m / ab (growing t x)
def Zz (t:Tab)(x:Lamp)(m:Rat):U2:=if growing t x=0 then (if m < Gf t x 0 then .tuple [.str "none"] else .tuple [.str "all"]) else .tuple [.str "from",Aj (mid t x.s - reach t x m),Aj (mid t x.s+reach t x m)]
theorem oX {ps:List Pc}(a:Good 18 ps)(h:ps.length<=8):Tb 154 (tabOf ps):=Tb.mono (Ti (m:=18) a.bd) (by omega)
theorem t1 {K:FrG}{H:Hp}{v:V}{d:U2}(h:DV K H v (.tuple [d])):∃a x,v=.ref a/\SqT K H a [x]/\DV K H x d:=by
 obtain ⟨a,xs,rfl,c,b⟩:=DV.tup_of h;cases b with
 | cons e f=>cases f;exact ⟨a,_,rfl,c,e⟩
end Lib
namespace L2
open PySem PySem.Spec PyProof.Rows PySem.Builtin
end L2
namespace Lib
open PySem L2 Fr Op
structure DrG (H:Hp)(d c:Addr)(F:Nat):Prop where
 x:∃(i n t:Int) (L:List Int),H d=some (.lst [.ref c,.int i,.int n,.int t])/\H c=some (.lst (L.map V.int))/\0<=i/\i<=(L.length:Int)/\L.length<=64/\0<=n/\n < 2 ^ 40/\0<=t/\t+(F:Int)<=2 ^ 40
def SE (d c:Addr)(H a:Hp):Prop:=∀b o,b≠d->b≠c->H b=some o->a b=some o
theorem SE.refl (d c:Addr)(H:Hp):SE d c H H:=λ _ _ _ _ h=>h
theorem SE.trans {d c:Addr}{H f g:Hp}(a:SE d c H f)(b:SE d c f g):SE d c H g:=λ e o n m h=>b e o n m (a e o n m h)
theorem _root_.L2.Same.se {H a:Hp}(s:Same H a)(d c:Addr):SE d c H a:=λ b o _ _ h=>s b o h
theorem DrG.le {H:Hp}{d c:Addr}{o a:Nat}(h:DrG H d c o)(le:a<=o):DrG H d c a:=by
 obtain ⟨i,n,t,p,b,e,f,g,j,k,l,m,q⟩:=h.x;exact ⟨i,n,t,p,b,e,f,g,j,k,l,m,by omega⟩
theorem DrG.keep {H a:Hp}{d c:Addr}{g:Nat}(h:DrG H d c g)(s:Same H a):DrG a d c g:=by
 obtain ⟨i,n,t,j,b,e,f⟩:=h.x;exact ⟨i,n,t,j,s _ _ b,s _ _ e,f⟩
theorem DrG.nd {H:Hp}{d c p:Addr}{f:Nat}(h:DrG H d c f)(a:H p=none):p≠d:=λ e=>by
 obtain ⟨i,n,t,k,b,g,j⟩:=h.x;rw [e,b] at a;cases a
theorem DrG.nc {H:Hp}{d c p:Addr}{f:Nat}(h:DrG H d c f)(a:H p=none):p≠c:=λ e=>by
 obtain ⟨i,n,t,k,g,b,j⟩:=h.x;rw [e,b] at a;cases a
theorem DrG.t {H a:Hp}{d c:Addr}{j:Nat}(h:DrG H d c j)(s:SE d c H a):Gd H a:=by
 obtain ⟨i,n,t,m,f,g,k⟩:=h.x;exact λ b l=>⟨λ e=>s b _ (λ z=>by rw [z,f] at e;cases e) (λ z=>by rw [z,g] at e;cases e) e,λ o e=>s b _ (λ z=>by rw [z,f] at e;cases e) (λ z=>by rw [z,g] at e;cases e) e⟩
theorem DrG.dv {K:FrG}{H a:Hp}{d c:Addr}{e:Nat}{v:V}{x:U2}(h:DrG H d c e)(s:SE d c H a)(b:DV K H v x)(n:Gu x=true:=by rfl):DV K a v x:=Fg (h.t s) n b
theorem DrG.ne {H:Hp}{d c:Addr}{j:Nat}(h:DrG H d c j):c≠d:=λ e=>by
 obtain ⟨i,n,t,g,f,b,k⟩:=h.x;rw [e,f] at b;have b:=HO.lst.inj (XM b);cases g with
 | nil=>cases b
 | cons a g=>cases b
theorem DrG.keepD {H a:Hp}{d c l:Addr}{j:Nat}(h:DrG H d c j)(s:SD l H a)(hd:d≠l)(b:c≠l):DrG a d c j:=by
 obtain ⟨i,n,t,k,e,f,g⟩:=h.x;exact ⟨i,n,t,k,s _ _ hd e,s _ _ b f,g⟩
theorem oF {n:Nat}{i:Int}(a:0<=i)(b:i < n):ixN n i=some i.toNat:=by
 unfold ixN;rw [if_pos a,if_pos b]
theorem jG (a:List Int)(j:Nat)(z:Int):(a.map V.int).set j (.int z)=(a.set j z).map V.int:=by
 rw [List.map_set]
inductive jr (vs:List V)(H:Hp)(Q:VK)(zz3:XK):Prop | mk:∀(d c:Addr) (F:Nat) (m:Int),(vs=[.ref d,.int m])->(DrG H d c (F+1))->((0 < m/\m < 1073741824))->(∀(x:Int) H',0<=x->x < m->DrG H' d c F->SE d c H H'->Q (.int x) H')->jr vs H Q zz3
inductive jE (K:FrG)(vs:List V)(H:Hp)(Q:VK)(zz3:XK):Prop | mk:∀(a:Addr) (ns:List Int) (st:Int),(vs=[.ref a,.int st])->(SqL K H a (ns.map V.int))->(0<=st)->(st < 2 ^ 40)->(∀d c H',Same H H'->H d=none->H c=none->DrG H' d c 1000000->Q (.ref d) H')->jE K vs H Q zz3
inductive kh (K:FrG)(vs:List V)(H:Hp)(Q:VK)(zz3:XK):Prop | mk:∀(d c:Addr) (F:Nat) (far:Bool),(vs=[.ref d,.bl far])->(DrG H d c (F+7))->(∀v H' q,DrG H' d c F->SE d c H H'->DV K H' v (Aj q)->Bd (pb far) q->Q v H')->kh K vs H Q zz3
inductive pq (K:FrG)(vs:List V)(H:Hp)(Q:VK)(zz3:XK):Prop | mk:∀(d c:Addr) (F:Nat) (far:Bool),(vs=[.ref d,.bl far])->(DrG H d c (F+15))->(∀v H' p,DrG H' d c F->SE d c H H'->DV K H' v (CV p)->p.ok->p.bd (pb far)->Q v H')->pq K vs H Q zz3
theorem gq {t:Tab}{x:Lamp}(h:x.f=x.l)(T:Rat):Gf t x T=0:=by
 rw [mO,h];have:ab (x.l - x.l)=0:=ab_zero.mpr (by grind)
 rw [this,Rat.mul_zero]
end Lib
namespace L2
open PySem PySem.Spec PyProof.Rows PySem.Builtin
end L2
namespace L2
open PySem PySem.Spec PyProof.Rows
theorem uC:WZ "max"=some (.builtin "max"):=by decide+kernel
end L2
namespace Lib
open PySem L2 Fr Op
end Lib
namespace Op
open Fr
end Op
namespace Lib
open PySem L2 Fr Op
end Lib
namespace L2
open PySem PySem.Spec PyProof.Rows PySem.Builtin
section
variable {prog:Yf}{w:World}{A:WB}{E:Value->W9->Prop}
theorem oE {it l:Addr}{vs:Array Value}(ne:l≠it):∀(n i:Nat) (s:W9) (Q:List Value->W9->Prop),s.heap.IsListIter it l i->s.heap.IsList l vs->i+n<=vs.size->
  (∀h',h'.IsListIter it l (i+n)->ya it s.heap h'->Q ((vs.toList.drop i).take n) { s with heap:=h' })->wpAny (model prog w) A (draw (.ref it) n) Q E s
 | 0,i,s,Q,j,_,_,a=>by
  show wpAny _ A (pure []) Q E s;refine Yq ?_;have:=a s.heap j (MO ..);rw [NG] at this;exact this
 | n+1,i,s,Q,j,hl,le,a=>by
  have lt:i < vs.size:=by omega
  show wpAny _ A (pyNext (.ref it) >>= _) Q E s;refine ZA (wpAny_pyNext_list_item j hl (x:=vs[i]) (by simp [lt]) λ d j1 b1=>?_)
  refine ZA (QL (oE ne n (i+1) _ _ j1 (hl.extBut b1.extBut ne) (by omega) λ b c b2=>Yq ?_))
  have e:vs.toList.drop i=vs[i]::vs.toList.drop (i+1):=by simp [UE,lt]
  have r:=a b (by rw [show i+(n+1)=i+1+n by omega];exact c) (b1.trans b2)
  rw [e,List.take_succ_cons] at r;exact r
theorem AJ3 {s:W9}{l:Addr}{vs:Array Value}{Q:List Value->W9->Prop}(d:A.handled=none)(hl:s.heap.IsList l vs)
  (i:∀h',Heap.ExtBut s.heap.objs.size s.heap h'->Q vs.toList { s with heap:=h' }):wpAny (model prog w) A (unpackItems (.ref l) vs.size none) Q E s:=by
 have ne:l≠s.heap.objs.size:=by
  obtain ⟨o,f,_⟩:=hl;exact XV (ZU f)
 unfold unpackItems notIterableAtAll;refine ZA (ZA (wpAny_specialOf hl.typeIs F.slot_list_iter.lookup (Yq ?_)));simp only [qk,if_false];refine ZA (QL (GG hl ?_));refine ZA (QL (oE ne vs.size 0 _ _ ⟨_,XU _ rfl,rfl,rfl⟩ (MQ hl _) (by omega) λ g j1 b1=>?_))
 have e:List.take vs.size (List.drop 0 vs.toList)=vs.toList:=by
  rw [qh];exact QD (by simp)
 rw [e,if_neg (by simp)]
 have a:g.IsList l vs:=(MQ hl _).extBut b1.extBut ne;refine ZA (QL (wpAny_pyNext_list_end d j1 a (by simp) λ h b2=>?_))
 simp only [Option.isSome_none,qk,if_false];exact Yq (i h λ b o c x=>b2 b o c (b1.extBut b o c (ZE _ x)))
theorem yZ {s:W9}{env:Env}{a:List Expr}{x1}{pos:Pos}{l:Addr}{vs:Array Value}{Q:Unit->W9->Prop}(c:A.handled=none)(hl:s.heap.IsList l vs)
  (d:(zv a env).length=vs.size) (b:(zv a env).findIdx? (·.1)=none)
  (e:∀h',Heap.ExtBut s.heap.objs.size s.heap h'->wpAny (model prog w) A (GS ((zv a env).map (·.2)) vs.toList) Q E { s with heap:=h' }):
  wpAny (model prog w) A (FR (.Tuple a x1 pos) env (.ref l)) Q E s:=by
 rw [arm_assign_Tuple];refine ZA (wW ?_);unfold unpack;rw [d,b];exact ZA (QL (AJ3 c hl e))
end
section
variable {X:Cx}{pos:Pos}
inductive Sw (K:FrG)(n:Nat)(t:TGs)(v:V)(σ:St)(H:Hp)(Q:St->Hp->Prop):Prop | mk:∀a xs,(v=.ref a)->(SqL K H a xs)->(xs.length=n)->(t xs σ H Q)->Sw K n t v σ H Q
theorem W0 {es:List Expr}{k:Nat}{t:TGs}{n:Nat}(i:X.calm=true)(h:PGs X es t)
  (j:(zv es X.env).length=n:=by rfl) (f:(zv es X.env).findIdx? (·.1)=none:=by rfl):PG X (.Tuple es k pos) (Sw X.K n t):=by
 intro c s l H v u Q m r d;obtain ⟨a,xs,rfl,p,hl,d⟩:=d;cases r
 obtain ⟨its,g,q,x⟩:=m.list p;refine yZ (m.ok.hd i) q.isList (by simp [j,<- hl,g.length]) f λ h' w=>?_
 exact h c _ l H xs _ Q (m.kept (t':=s.toks) λ b o e=>w b o (XV (ZU e)) e) (by simpa using g) d
end
end L2
namespace Op
open Fr
end Op
namespace Lib
open PySem L2 Fr Op
theorem SD.same {a H c:Hp}{d:Addr}(f:Same a H)(hd:a d=none)(s:SD d H c):Same a c:=λ b o e=>s b o (λ z=>by rw [z,hd] at e;cases e) (f _ _ e)
def lU (ps:List Pc):Prop:=∀p∈ps,p.isStop=false
theorem vR {ps:List Pc}(h:lU ps)(r:Ab):behind ps r=some (BV ps r):=by
 have:=AV3 ps r;rw [yC h] at this;exact this
theorem AQ2 (r s:Ab):UZ (BX r) (BX s)=decide (r=s):=by
 have e:UZ (BX r) (BX s)=(decide (r.1=s.1) && decide (r.2=s.2)):=by
  rw [<- Qy,<- Qy];simp [BX,Aj,UZ,Md]
 rw [e];by_cases h:r=s
 ·subst h;simp
 ·rw [decide_eq_false h];by_cases a:r.1=s.1
  ·by_cases b:r.2=s.2
   ·exact absurd (Uv a b) h
   ·simp [b]
  ·simp [a]
end Lib
namespace L2
open PySem PySem.Spec PyProof.Rows PySem.Builtin
end L2
namespace Op
open Fr
end Op
namespace Lib
open PySem L2 Fr Op
theorem Yi {a:List Ab}{i:Nat}{d:U2}(h:(a.map BX)[i]?=some d):∃r,a[i]?=some r/\d=BX r:=by
 rw [ZN] at h;cases e:a[i]? with
 | none=>rw [e] at h;cases h
 | some r=>rw [e] at h;exact ⟨r,rfl,(XM h).symm⟩
end Lib
namespace Op
open Fr Lib
end Op
namespace Lib
open PySem L2 Fr Op
end Lib
namespace L2
open PySem PySem.Spec PyProof.Rows PySem.Builtin
end L2
namespace Lib
open PySem L2 Fr Op
end Lib
namespace L2
open PySem PySem.Spec PyProof.Rows
end L2
namespace Lib
open PySem L2 Fr Op
end Lib
namespace L2
open PySem PySem.Spec PyProof.Rows
end L2
namespace Lib
open PySem L2 Fr Op
end Lib
namespace L2
open PySem PySem.Spec PyProof.Rows
end L2
namespace L2
open PySem PySem.Spec PyProof.Rows PySem.Builtin
open PySem.AutoSeq1 (wpAny_loadPart')
end L2
namespace L2
open PySem PySem.Spec PySem.Calls PyProof.Rows PySem.W Builtin Builtin.ObjectAttr
end L2
namespace L2
open PySem PySem.Spec PySem.Calls PyProof.Rows PySem.W
end L2
namespace Lib
open PySem L2 Fr Op
end Lib
namespace L2
open PySem PySem.Spec PyProof.Rows
end L2
namespace L2
open PySem PySem.Spec PyProof.Rows PySem.Builtin PySem.Builtin.Str
end L2
namespace Lib
open PySem L2 Fr Op
end Lib
namespace L2
open PySem PySem.Spec PyProof.Rows PySem.Builtin PySem.SeqAt
inductive fV (K:FrG)(neg:Bool)(x:V)(y:V)(H:Hp)(Q:VK):Prop | mk:∀p xs dx ds,(y=.ref p)->(SqL K H p xs)->(DV K H x dx)->(DVs K H xs ds)->(dx.canLay0=true)->(dx.depth<=60)->(WI ds=true)->(Q (.bl (if neg then !ds.any (λ d=>UZ d dx) else ds.any (λ d=>UZ d dx))) H)->fV K neg x y H Q
theorem iC {h:Heap}:∀{us:List Value} {ds:List U2} {a:List Addr},ReadsAll h us ds a->∀u∈us,∃d a,d∈ds/\Reads h u d a
 | _,_,_,.nil,u,b=>nomatch b
 | _,_,_,.cons r c,u,b=>by
  rcases X2.mp b with rfl | b
  ·exact ⟨_,_,U1,r⟩
  ·obtain ⟨d,a,hd,e⟩:=iC c u b;exact ⟨d,a,Y9 _ hd,e⟩
theorem VR:∀{ds:List U2},WI ds=true->∀d∈ds,d.canLay0=true
 | [],_,d,h=>nomatch h
 | e::ds,c,d,h=>by
  rw [WI] at c;rcases X2.mp h with rfl | h
  ·exact (WS.mp c).1
  ·exact VR (WS.mp c).2 d h
noncomputable def Jy (h:Heap) (a:U2) (u:Value):Bool:=@dite Bool (∃d b,Reads h u d b/\d.canLay0=true) (Classical.propDecidable _) (λ c=>UZ (Classical.choose c) a) (λ _=>false)
theorem j9 {h:Heap}{b d:U2}{u:Value}{a:List Addr}(r:Reads h u d a)(c:d.canLay0=true):Jy h b u=UZ d b:=by
 unfold Jy;have e:∃d a,Reads h u d a/\d.canLay0=true:=⟨d,a,r,c⟩;rw [dif_pos e];obtain ⟨f,g,_⟩:=Classical.choose_spec e;rw [<- PySem.SeqAt.Reads.unique d _ u a f c r g]
theorem gO {h:Heap}{a:U2}:∀{us:List Value} {ds:List U2} {b:List Addr},ReadsAll h us ds b->WI ds=true->us.any (Jy h a)=ds.any (λ d=>UZ d a)
 | _,_,_,.nil,_=>rfl
 | _,_,_,.cons r e,c=>by
  rw [WI] at c;rw [JI,JI,gO e (WS.mp c).2,j9 r (WS.mp c).1]
section
variable {X:Cx}
theorem gR (z:X.A.units+64 < cLine):OpR X (UU .NotIn) (fV X.K true):=by
 intro i s B H x y v u Q g j ry h;obtain ⟨p,xs,a,ds,rfl,k,l,hd,c,dp,cs,q⟩:=h;cases ry
 obtain ⟨its,r,pl,C⟩:=g.list k;obtain ⟨m,n⟩:=l.reads g c j;obtain ⟨D,e⟩:=DVs.reads g hd cs r;refine SeqAt.notIn_listAt (Jy s.heap a) pl.isList (λ w o=>?_) ⟨.bl _,H,g,rfl,?_⟩
 ·obtain ⟨d,t,b,f⟩:=iC e w (by simpa using o)
  rw [j9 f (VR cs d b)];refine eqAt_reads d a X.A.in1 s w v t m f n (VR cs d b) c ?_;have:X.A.in1.units=X.A.units+1:=rfl;have:=Nat.min_le_right d.depth a.depth;omega
 ·rw [show its.toArray.any (Jy s.heap a)=its.any (Jy s.heap a) by simp,gO e cs]
  exact q
end
end L2
namespace Op
open Fr
def JS (a b:Ab):Bool:=if a.1=b.1 then decide (a.2 < b.2) else decide (a.1 < b.1)
def Aq (s e r:Ab):Rat:=(e.1 - s.1) * (r.2 - s.2) - (e.2 - s.2) * (r.1 - s.1)
def Cg (cs:List Ab)(i:Nat):Ab:=cs.getD i (0,0)
def Et (cs:List Ab)(i:Nat):Ab:=if i=0 then Cg cs (cs.length - 1) else Cg cs (i - 1)
end Op
namespace Lib
open PySem L2 Fr Op
structure Rn (n:Nat)(r:Ab):Prop where
 y:Bd n r.1
 u:Bd n r.2
inductive fu (ds:List U2)(d:U2):Prop | mk:∀a b n,(ds=[BX a,BX b])->(Rn n a)->(Rn n b)->(n<=4000)->(d=.bool (JS a b))->fu ds d
theorem SN {cs:List Ab}{i:Nat}{c:Ab}(h:cs[i]?=some c):Cg cs i=c:=by
 unfold Cg;rw [QO,h];rfl
theorem M3 {cs:List Ab}{i:Nat}(h:i < cs.length):Cg cs i∈cs:=by
 rw [SN (ZO h)];exact List.getElem_mem h
theorem AX4 {cs:List Ab}{i:Nat}(h:i < cs.length):Et cs i∈cs:=by
 unfold Et
 split
 ·exact M3 (by omega)
 ·exact M3 (by omega)
theorem LK {K:FrG}{H:Hp}{xs:List V}{cs:List Ab}(h:DVs K H xs (cs.map BX)){i:Nat}(hi:i < cs.length):∃v,xs[i]?=some v/\DV K H v (BX (Cg cs i)):=by
 have hl:=h.len;rw [Y2] at hl;obtain ⟨d,hd,hv⟩:=h.get (i:=i) (ZO (show i < xs.length by omega))
 obtain ⟨c,a,rfl⟩:=Yi hd;rw [<- SN a] at hv;exact ⟨_,ZO (show i < xs.length by omega),hv⟩
theorem dG {xs:List V}{v:V}(h:xs[xs.length - 1]?=some v):atI xs (-1)=some v:=aU (by rw [QZ];exact h)
theorem AZ5 {K:FrG}{H:Hp}{xs:List V}{cs:List Ab}(h:DVs K H xs (cs.map BX)){i:Nat}(hi:i < cs.length):∃v,atI xs ((i:Int) - 1)=some v/\DV K H v (BX (Et cs i)):=by
 have hl:=h.len;rw [Y2] at hl;cases i with
 | zero=>
  obtain ⟨v,hv,hd⟩:=LK h (i:=cs.length - 1) (by omega)
  refine ⟨v,?_,hd⟩;rw [show (((0:Nat):Int) - 1)=-1 from rfl]
  exact dG (by rw [hl];exact hv)
 | succ j=>
  obtain ⟨v,hv,hd⟩:=LK h (i:=j) (by omega)
  refine ⟨v,?_,hd⟩;rw [show (((j+1:Nat):Int) - 1)=(j:Int) by omega]
  exact Bh hv
theorem jT (cs:List Ab)(r:Ab):(cs.map BX).any (λ d=>UZ d (BX r))=cs.any (λ c=>decide (c=r)):=by
 induction cs with
 | nil=>rfl
 | cons c cs a=>rw [YB,JI,JI,a,AQ2]
theorem di (cs:List Ab):WI (cs.map BX)=true:=by
 induction cs with
 | nil=>rfl
 | cons c cs a=>
  rw [YB,WI,a];rfl
end Lib
namespace Op
open Fr
abbrev Be:=Rat×Rat×Rat
def Af (e:Be)(r:Ab):Rat:=e.1 * r.1+e.2.1 * r.2+e.2.2
def Bb (t:Rat)(a b:Ab):Ab:=(a.1+t * (b.1 - a.1),a.2+t * (b.2 - a.2))
def EY (e:Be)(p q:Ab):Rat:=Af e p / (Af e p - Af e q)
def Bo (e:Be)(p q:Ab):Ab:=Bb (EY e p q) p q
theorem Km (e:Be)(t:Rat)(a b:Ab):Af e (Bb t a b)=(1 - t) * Af e a+t * Af e b:=by
 unfold Af Bb;dsimp only
 grind
theorem K5 (p q:Ab)(t:Rat)(a b:Ab):Aq p q (Bb t a b)=(1 - t) * Aq p q a+t * Aq p q b:=by
 unfold Aq Bb;dsimp only
 grind
theorem AI8 (p q r:Ab):Aq q r p=Aq p q r:=by unfold Aq;grind
theorem bC (p q r:Ab):Aq p r q=- Aq p q r:=by unfold Aq;grind
theorem Iz (p q:Ab):Aq p q q=0:=by unfold Aq;grind
theorem MF (p q:Ab):Aq p q p=0:=by unfold Aq;grind
theorem zX (t:Rat)(p q z:Ab):Aq p (Bb t p q) z=t * Aq p q z:=by
 unfold Aq Bb;dsimp only
 grind
theorem Wr (t:Rat)(p q z:Ab):Aq (Bb t p q) q z=(1 - t) * Aq p q z:=by
 unfold Aq Bb;dsimp only
 grind
theorem Dh {a b:Rat}(h:a * b < 0):(a < 0/\0 < b)\/(0 < a/\b < 0):=by
 rcases (show a < 0\/a=0\/0 < a by grind) with d | d | d
 ·rcases (show b < 0\/b=0\/0 < b by grind) with c | c | c
  ·have:=WA (show 0 < -a by grind) (show 0 < -b by grind)
   exfalso;grind
  ·subst c;exfalso;grind
  ·exact .inl ⟨d,c⟩
 ·subst d;exfalso;grind
 ·rcases (show b < 0\/b=0\/0 < b by grind) with c | c | c
  ·exact .inr ⟨d,c⟩
  ·subst c;exfalso;grind
  ·have:=WA d c;exfalso;grind
theorem Ig {a b:Rat}(d:a < 0)(c:0 < b):a * b < 0:=by
 have:=WA (show 0 < -a by grind) c
 grind
theorem GZ {e:Be}{p q:Ab}(h:Af e p * Af e q < 0):0 < EY e p q/\EY e p q < 1:=by
 unfold EY;generalize Af e p=a at h ⊢;generalize Af e q=b at h ⊢;have hd:a - b≠0:=by rcases Dh h with ⟨d,f⟩ | ⟨d,f⟩<;>grind
 have e1:a / (a - b) * (a - b)=a:=by grind
 rcases Dh h with ⟨d,f⟩ | ⟨d,f⟩
 ·constructor
  ·rcases (show a / (a - b)<=0\/0 < a / (a - b) by grind) with c | c
   ·have:=ZR (show 0<=-(a / (a - b)) by grind) (show 0<=-(a - b) by grind)
    grind
   ·exact c
  ·rcases (show 1<=a / (a - b)\/a / (a - b) < 1 by grind) with c | c
   ·have:=ZR (show 0<=a / (a - b) - 1 by grind) (show 0<=-(a - b) by grind)
    grind
   ·exact c
 ·constructor
  ·rcases (show a / (a - b)<=0\/0 < a / (a - b) by grind) with c | c
   ·have:=ZR (show 0<=-(a / (a - b)) by grind) (show 0<=(a - b) by grind)
    grind
   ·exact c
  ·rcases (show 1<=a / (a - b)\/a / (a - b) < 1 by grind) with c | c
   ·have:=ZR (show 0<=a / (a - b) - 1 by grind) (show 0<=(a - b) by grind)
    grind
   ·exact c
theorem Gj {e:Be}{p q:Ab}(h:Af e p * Af e q < 0):Af e (Bo e p q)=0:=by
 unfold Bo;rw [Km];unfold EY;generalize Af e p=a at h ⊢;generalize Af e q=b at h ⊢;have hd:a - b≠0:=by rcases Dh h with ⟨c,d⟩ | ⟨c,d⟩<;>grind
 grind
theorem Kc {e:Be}{s t:Ab}(m:Af e s=0)(n:Af e t=0)(o:s≠t)(i:e.1≠0\/e.2.1≠0):∃k:Rat,k≠0/\∀z,Aq s t z=k * Af e z:=by
 obtain ⟨a,b,c⟩:=e;obtain ⟨d,f⟩:=s;obtain ⟨t1,t2⟩:=t;unfold Af at m n ⊢;unfold Aq;dsimp only at m n i ⊢
 have j:t1 - d≠0\/t2 - f≠0:=by
  rcases (show t1 - d=0\/t1 - d≠0 by grind) with c1 | c1
  ·rcases (show t2 - f=0\/t2 - f≠0 by grind) with p | p
   ·exact absurd (show ((d,f):Ab)=(t1,t2) by rw [show t1=d by grind,show t2=f by grind]) o
   ·exact .inr p
  ·exact .inl c1
 rcases i with i | i
 ·refine ⟨-(t2 - f) / a,?_,λ z=>?_⟩
  ·intro h;have l:t2 - f=0:=by grind
   have q:a * (t1 - d)=0:=by grind
   rcases j with g | g
   ·grind
   ·exact g l
  ·grind
 ·refine ⟨(t1 - d) / b,?_,λ z=>?_⟩
  ·intro h;have l:t1 - d=0:=by grind
   have q:b * (t2 - f)=0:=by grind
   rcases j with g | g
   ·exact g l
   ·grind
  ·grind
def Bs (l:Ab):List Ab->List (Ab×Ab)
 | []=>[]
 | q::r=>(l,q)::Bs q r
def BZ (ps:List Ab):List (Ab×Ab):=match ps.getLast? with
 | none=>[]
 | some l=>Bs l ps
theorem Xk (l q:Ab):∀ps:List Ab,Bs l (ps++[q])=Bs l ps++[(((l::ps).getLast (by simp)),q)]
 | []=>rfl
 | p::r=>by
  show (l,p)::Bs p (r++[q])=_;rw [Xk p q r];rfl
theorem lH {l:Ab}{ps:List Ab}{x:Ab×Ab}(h:x∈Bs l ps):(x.1=l\/x.1∈ps)/\x.2∈ps:=by
 induction ps generalizing l with
 | nil=>cases h
 | cons q r b=>
  rcases X2.mp (show x∈(l,q)::Bs q r from h) with rfl | h
  ·exact ⟨.inl rfl,by simp⟩
  ·obtain ⟨a,c⟩:=b h;exact ⟨.inr (by rcases a with a | a<;>simp [a]),Y9 _ c⟩
theorem Dg {ps:List Ab}{x:Ab×Ab}(h:x∈BZ ps):x.1∈ps/\x.2∈ps:=by
 unfold BZ at h;cases e:ps.getLast? with
 | none=>rw [e] at h;cases h
 | some l=>
  rw [e] at h;obtain ⟨a,b⟩:=lH h;refine ⟨?_,b⟩;rcases a with a | a
  ·rw [a];exact uc e
  ·exact a
theorem cR {l q:Ab}:∀{ps:List Ab},q∈ps->∃p,(p,q)∈Bs l ps
 | [],h=>nomatch h
 | z::r,h=>by
  rcases X2.mp h with rfl | h
  ·exact ⟨l,by simp [Bs]⟩
  ·obtain ⟨p,a⟩:=cR (l:=z) h;exact ⟨p,Y9 _ a⟩
theorem RG {q:Ab}{ps:List Ab}(h:q∈ps):∃p,(p,q)∈BZ ps:=by
 unfold BZ;cases e:ps.getLast? with
 | none=>rw [JE] at e;subst e;cases h
 | some l=>exact cR h
theorem qH {p:Ab}:∀{l:Ab} {ps:List Ab},p∈l::ps->(∃q,(p,q)∈Bs l ps)\/(l::ps).getLast (by simp)=p
 | l,[],h=>by rw [W1.mp h];exact .inr rfl
 | l,z::r,h=>by
  rcases X2.mp h with rfl | h
  ·exact .inl ⟨z,by simp [Bs]⟩
  ·rcases qH h with ⟨q,a⟩ | a
   ·exact .inl ⟨q,Y9 _ a⟩
   ·exact .inr (by rw [xb (by simp)];exact a)
theorem gj {p:Ab}{ps:List Ab}(h:p∈ps):∃q,(p,q)∈BZ ps:=by
 cases ps with
 | nil=>cases h
 | cons z r=>
  have e:(z::r).getLast?=some ((z::r).getLast (by simp)):=WE (by simp)
  unfold BZ;rw [e];show ∃q,(p,q)∈((z::r).getLast (by simp),z)::Bs z r
  rcases qH (l:=z) (ps:=r) h with ⟨q,a⟩ | a
  ·exact ⟨q,Y9 _ a⟩
  ·exact ⟨z,by rw [a];simp⟩
structure ES (ps:List Ab):Prop where
 nd:ps.Nodup
 st:∀x∈BZ ps,∀z∈ps,z≠x.1->z≠x.2->0 < Aq x.1 x.2 z
theorem ES.ge {ps:List Ab}(h:ES ps){x:Ab×Ab}(b:x∈BZ ps){z:Ab}(c:z∈ps):0<=Aq x.1 x.2 z:=by
 by_cases c1:z=x.1
 ·rw [c1,MF];exact JC
 ·by_cases a:z=x.2
  ·rw [a,Iz];exact JC
  ·have:=h.st x b z c c1 a
   grind
theorem AN8 {l:Ab}{ps:List Ab}{x:Ab×Ab}(nd:(l::ps).Nodup)(h:x∈Bs l ps):x.1≠x.2:=by
 induction ps generalizing l with
 | nil=>cases h
 | cons q r a=>
  rcases X2.mp (show x∈(l,q)::Bs q r from h) with rfl | h
  ·intro e;have:=(XO.mp nd).1;exact this (by rw [show l=q from e];simp)
  ·exact a (XO.mp nd).2 h
theorem HS {ps:List Ab}{x:Ab×Ab}(nd:ps.Nodup)(a:2<=ps.length)(h:x∈BZ ps):x.1≠x.2:=by
 cases ps with
 | nil=>simp at a
 | cons z r=>
  have e:(z::r).getLast?=some ((z::r).getLast (by simp)):=WE (by simp)
  unfold BZ at h;rw [e] at h;rcases X2.mp (show x∈((z::r).getLast (by simp),z)::Bs z r from h) with rfl | h
  ·cases r with
   | nil=>simp at a
   | cons y r=>
    intro e;have b:(z::y::r).getLast (by simp)=z:=e
    rw [xb (by simp)] at b
    exact (XO.mp nd).1 (by rw [<- b];exact List.getLast_mem _)
  ·exact AN8 nd h
theorem third {ps:List Ab}(nd:ps.Nodup)(j:3<=ps.length)(p q:Ab):∃z∈ps,z≠p/\z≠q:=by
 match ps,nd,j with
 | a::b::c::r,nd,_=>
  have g:=(XO.mp nd).1;have k:=(XO.mp (XO.mp nd).2).1;have ab:a≠b:=λ e=>g (by rw [e];simp)
  have h:a≠c:=λ e=>g (by rw [e];simp)
  have i:b≠c:=λ e=>k (by rw [e];simp)
  by_cases d:a=p\/a=q
  ·by_cases f:b=p\/b=q
   ·refine ⟨c,by simp,λ e=>?_,λ e=>?_⟩
    ·rcases d with d | d<;>rcases f with f | f
     ·exact ab (d.trans f.symm)
     ·exact h (d.trans e.symm)
     ·exact i (f.trans e.symm)
     ·exact ab (d.trans f.symm)
    ·rcases d with d | d<;>rcases f with f | f
     ·exact ab (d.trans f.symm)
     ·exact i (f.trans e.symm)
     ·exact h (d.trans e.symm)
     ·exact ab (d.trans f.symm)
   ·exact ⟨b,by simp,λ e=>f (.inl e),λ e=>f (.inr e)⟩
  ·exact ⟨a,by simp,λ e=>d (.inl e),λ e=>d (.inr e)⟩
theorem ES.back {ps:List Ab}(h:ES ps)(d:3<=ps.length){p q:Ab}(e:(p,q)∈BZ ps)(f:(q,p)∈BZ ps):False:=by
 obtain ⟨z,a,b,c⟩:=third h.nd d p q;have g:=h.st _ e z a b c;have i:=h.st _ f z a c b;dsimp only at g i
 have:Aq q p z=- Aq p q z:=by unfold Aq;grind
 grind
theorem ES.mix {ps:List Ab}(h:ES ps)(m:3<=ps.length){p q a b:Ab}(d:(p,q)∈BZ ps)(c:(a,b)∈BZ ps)(n:(a,b)≠(p,q)){t:Rat}(o:0 < t)(t1:t < 1):0 < Aq p q (Bb t a b):=by
 rw [K5];have r:=h.ge d (Dg c).1;have i:=h.ge d (Dg c).2;dsimp only at r i
 have e:=HS h.nd (by omega) c
 dsimp only at e
 rcases (show Aq p q a=0\/0 < Aq p q a by grind) with g | g
 ·rcases (show Aq p q b=0\/0 < Aq p q b by grind) with j | j
  ·exfalso;have k:a=p\/a=q:=by
    by_cases c1:a=p
    ·exact .inl c1
    ·by_cases f:a=q
     ·exact .inr f
     ·have:=h.st _ d a (Dg c).1 c1 f;dsimp only at this
      grind
   have l:b=p\/b=q:=by
    by_cases c1:b=p
    ·exact .inl c1
    ·by_cases f:b=q
     ·exact .inr f
     ·have:=h.st _ d b (Dg c).2 c1 f;dsimp only at this
      grind
   rcases k with rfl | rfl<;>rcases l with rfl | rfl
   ·exact e rfl
   ·exact n rfl
   ·exact h.back m d c
   ·exact e rfl
  ·have:=WA o j;rw [g]
   grind
 ·have s:=WA (show 0 < 1 - t by grind) g
  have u:=ZR (show 0<=t by grind) i
  grind
theorem between {f:Ab->Rat}{t:Rat}{s z m:Ab}(hf:f m=(1 - t) * f s+t * f z)(a:0 < t)(t1:t < 1)(b:0<=f s)(d:0<=f z)(e:f m=0):f s=0/\f z=0:=by
 rw [e] at hf;have g:=ZR (show 0<=1 - t by grind) b
 have h:=ZR (show 0<=t by grind) d
 have b1:(1 - t) * f s=0:=by grind
 have b2:t * f z=0:=by grind
 constructor
 ·rcases (show f s=0\/0 < f s by grind) with c | c
  ·exact c
  ·have:=WA (show 0 < 1 - t by grind) c
   grind
 ·rcases (show f z=0\/0 < f z by grind) with c | c
  ·exact c
  ·have:=WA a c
   grind
def CZ (e:Be)(x:Ab×Ab):List Ab:=(if Af e x.1 * Af e x.2 < 0 then [Bo e x.1 x.2] else [])++(if 0<=Af e x.2 then [x.2] else [])
def CJ (e:Be)(ps:List Ab):List Ab:=(BZ ps).flatMap (CZ e)
theorem emit_mem {e:Be}{x:Ab×Ab}{z:Ab}:z∈CZ e x↔(Af e x.1 * Af e x.2 < 0/\z=Bo e x.1 x.2)\/(0<=Af e x.2/\z=x.2):=by
 unfold CZ;by_cases c1:Af e x.1 * Af e x.2 < 0<;>by_cases a:0<=Af e x.2<;>simp [c1,a]
theorem cut_mem {e:Be}{ps:List Ab}{z:Ab}:z∈CJ e ps↔(z∈ps/\0<=Af e z)\/∃x∈BZ ps,Af e x.1 * Af e x.2 < 0/\z=Bo e x.1 x.2:=by
 unfold CJ;rw [GW]
 constructor
 ·rintro ⟨x,c,d⟩
  rcases emit_mem.mp d with ⟨a,b⟩ | ⟨a,b⟩
  ·exact .inr ⟨x,c,a,b⟩
  ·rw [b];exact .inl ⟨(Dg c).2,a⟩
 ·rintro (⟨a,b⟩ | ⟨x,c,a,b⟩)
  ·obtain ⟨p,f⟩:=RG a;exact ⟨(p,z),f,emit_mem.mpr (.inr ⟨b,rfl⟩)⟩
  ·exact ⟨x,c,emit_mem.mpr (.inl ⟨a,b⟩)⟩
theorem T5 {e:Be}{ps:List Ab}{z:Ab}(h:z∈CJ e ps):0<=Af e z:=by
 rcases cut_mem.mp h with ⟨_,h⟩ | ⟨x,_,a,rfl⟩
 ·exact h
 ·rw [Gj a];exact JC
theorem qj (l:Ab):∀ps:List Ab,(Bs l ps).map qq=ps
 | []=>rfl
 | q::r=>by show q::(Bs q r).map qq=q::r;rw [qj q r]
theorem OJ (ps:List Ab):(BZ ps).map qq=ps:=by
 unfold BZ;cases e:ps.getLast? with
 | none=>rw [JE] at e;rw [e];rfl
 | some l=>exact qj l ps
theorem cL {t:Rat}{p q:Ab}(h:p≠q)(c:0 < t):Bb t p q≠p:=λ e=>by
 apply h
 have a:=congrArg Prod.fst e;have b:=congrArg qq e;unfold Bb at a b;dsimp only at a b
 have d:t * (q.1 - p.1)=0:=by grind
 have f:t * (q.2 - p.2)=0:=by grind
 exact Uv (by grind) (by grind)
theorem oV {t:Rat}{p q:Ab}(h:p≠q)(t1:t < 1):Bb t p q≠q:=λ e=>by
 apply h
 have a:=congrArg Prod.fst e;have b:=congrArg qq e;unfold Bb at a b;dsimp only at a b
 have c:(1 - t) * (q.1 - p.1)=0:=by grind
 have d:(1 - t) * (q.2 - p.2)=0:=by grind
 exact Uv (by grind) (by grind)
theorem Mw (p q:Ab)(t:Rat):Aq p q (Bb t p q)=0:=by rw [K5,MF,Iz];grind
section
variable {e:Be}{ps:List Ab}(h:ES ps)(h3:3<=ps.length)
include h h3
theorem V3 {x:Ab×Ab}(b:x∈BZ ps)(d:Af e x.1 * Af e x.2 < 0){z:Ab}(f:z∈ps):Bo e x.1 x.2≠z:=λ a=>by
 have t:=GZ d;have n:=HS h.nd (by omega) b
 have g:Aq x.1 x.2 z=0:=by rw [<- a];exact Mw _ _ _
 by_cases c1:z=x.1
 ·exact cL n t.1 (a.trans c1)
 ·by_cases c:z=x.2
  ·exact oV n t.2 (a.trans c)
  ·have:=h.st x b z f c1 c
   grind
theorem Oi {x y:Ab×Ab}(c:x∈BZ ps)(d:y∈BZ ps)(n:x≠y)(i:Af e x.1 * Af e x.2 < 0)(hd:Af e y.1 * Af e y.2 < 0):Bo e x.1 x.2≠Bo e y.1 y.2:=λ f=>by
 have t:=GZ hd;have g:0 < Aq x.1 x.2 (Bo e y.1 y.2):=h.mix (p:=x.1) (q:=x.2) (a:=y.1) (b:=y.2) h3 c d (λ z=>n z.symm) t.1 t.2
 rw [<- f] at g;have j:Aq x.1 x.2 (Bo e x.1 x.2)=0:=Mw _ _ _
 grind
theorem Wn:(CJ e ps).Nodup:=by
 unfold CJ;show wS _ _;rw [List.pairwise_flatMap];refine ⟨λ x f=>?_,?_⟩
 ·unfold CZ;by_cases c1:Af e x.1 * Af e x.2 < 0
  ·by_cases c:0<=Af e x.2
   ·rw [if_pos c1,if_pos c];refine wS.cons (λ z l=>?_) (xS _ _)
    rw [W1.mp l];exact V3 h h3 f c1 (Dg f).2
   ·rw [if_pos c1,if_neg c];exact xS _ _
  ·by_cases c:0<=Af e x.2
   ·rw [if_neg c1,if_pos c];exact xS _ _
   ·rw [if_neg c1,if_neg c];exact MK
 ·have nd:=h.nd;rw [<- OJ ps] at nd;have pw:(BZ ps).Pairwise (λ a b=>a.2≠b.2):=List.pairwise_map.mp nd
  refine wS.imp_of_mem (λ {a b} i j g=>?_) pw
  intro x f y m d;have k:a≠b:=λ z=>g (by rw [z])
  rcases emit_mem.mp f with ⟨c1,rfl⟩ | ⟨c1,rfl⟩<;>rcases emit_mem.mp m with ⟨c,e2⟩ | ⟨c,e2⟩
  ·exact Oi h h3 i j k c1 c (d.trans e2)
  ·exact V3 h h3 i c1 (Dg j).2 (d.trans e2)
  ·exact V3 h h3 j c (Dg i).2 (e2.symm.trans d.symm)
  ·exact g (d.trans e2)
end
inductive OD (e:Be)(ps:List Ab)(s t:Ab):Prop
 | old (p q:Ab) (k:Rat):(p,q)∈BZ ps->0 < k->(∀z,Aq s t z=k * Aq p q z)->(s=p\/(s=Bo e p q/\Af e p < 0))->(t=q\/(t=Bo e p q/\Af e q < 0))->(Af e p * Af e q < 0->s=Bo e p q\/t=Bo e p q)->OD e ps s t
 | cut (p q:Ab) (k:Rat):Af e s=0->Af e t=0->(p,q)∈BZ ps->Af e q < 0->0 < k->(∀z,Aq s q z=k * Aq p q z)->OD e ps s t
def RX (e:Be)(ps:List Ab)(s l:Ab):Prop:=(0<=Af e l/\s=l)\/(Af e l < 0/\Af e s=0/\∃p q k,(p,q)∈BZ ps/\Af e q < 0/\0 < k/\∀z,Aq s q z=k * Aq p q z)
theorem bU (e:Be)(l q:Ab):
  (0<=Af e l/\0<=Af e q/\¬ Af e l * Af e q < 0/\CZ e (l,q)=[q])\/(0 < Af e l/\Af e q < 0/\Af e l * Af e q < 0/\CZ e (l,q)=[Bo e l q])\/(Af e l=0/\Af e q < 0/\CZ e (l,q)=[])\/
  (Af e l < 0/\0 < Af e q/\Af e l * Af e q < 0/\CZ e (l,q)=[Bo e l q,q])\/(Af e l < 0/\Af e q=0/\CZ e (l,q)=[q])\/(Af e l < 0/\Af e q < 0/\CZ e (l,q)=[]):=by
 unfold CZ;dsimp only
 generalize Af e l=a;generalize Af e q=b;rcases (show a < 0\/a=0\/0 < a by grind) with c | c | c<;>rcases (show b < 0\/b=0\/0 < b by grind) with d | d | d
 ·have n:¬ a * b < 0:=λ z=>by rcases Dh z with h | h<;>grind
  exact .inr (.inr (.inr (.inr (.inr ⟨c,d,by rw [if_neg n,if_neg (by grind)];rfl⟩))))
 ·have n:¬ a * b < 0:=λ z=>by rcases Dh z with h | h<;>grind
  exact .inr (.inr (.inr (.inr (.inl ⟨c,d,by rw [if_neg n,if_pos (by grind)];rfl⟩))))
 ·have n:=Ig c d;exact .inr (.inr (.inr (.inl ⟨c,d,n,by rw [if_pos n,if_pos (by grind)];rfl⟩)))
 ·have n:¬ a * b < 0:=λ z=>by rcases Dh z with h | h<;>grind
  exact .inr (.inr (.inl ⟨c,d,by rw [if_neg n,if_neg (by grind)];rfl⟩))
 ·have n:¬ a * b < 0:=λ z=>by rcases Dh z with h | h<;>grind
  exact .inl ⟨by grind,by grind,n,by rw [if_neg n,if_pos (by grind)];rfl⟩
 ·have n:¬ a * b < 0:=λ z=>by rcases Dh z with h | h<;>grind
  exact .inl ⟨by grind,by grind,n,by rw [if_neg n,if_pos (by grind)];rfl⟩
 ·have n:a * b < 0:=by have:=Ig d c;grind
  exact .inr (.inl ⟨c,d,n,by rw [if_pos n,if_neg (by grind)];rfl⟩)
 ·have n:¬ a * b < 0:=λ z=>by rcases Dh z with h | h<;>grind
  exact .inl ⟨by grind,by grind,n,by rw [if_neg n,if_pos (by grind)];rfl⟩
 ·have n:¬ a * b < 0:=λ z=>by rcases Dh z with h | h<;>grind
  exact .inl ⟨by grind,by grind,n,by rw [if_neg n,if_pos (by grind)];rfl⟩
theorem dB {e:Be}{ps:List Ab}:∀(qs:List Ab) (l s:Ab),(∀x∈Bs l qs,x∈BZ ps)->RX e ps s l->∀y∈Bs s ((Bs l qs).flatMap (CZ e)),OD e ps y.1 y.2
 | [],_,_,_,_,_,h=>nomatch h
 | q::r,l,s,D,i,y,c=>by
  have f:(l,q)∈BZ ps:=D (l,q) (by simp [Bs])
  have E:∀x∈Bs q r,x∈BZ ps:=λ x F=>D x (Y9 _ F)
  have c:y∈Bs s (CZ e (l,q)++(Bs q r).flatMap (CZ e)):=c;have j:=λ s' (G:RX e ps s' q)=>dB r q s' E G y
  rcases bU e l q with ⟨a,b,n,d⟩ | ⟨a,b,n,d⟩ | ⟨a,b,d⟩ | ⟨a,b,n,d⟩ | ⟨a,b,d⟩ | ⟨a,b,d⟩
  ·have g:s=l:=by
    rcases i with ⟨_,h⟩ | ⟨h,_⟩
    ·exact h
    ·exfalso;grind
   rw [d] at c;rcases X2.mp (show y∈(s,q)::Bs q ((Bs q r).flatMap (CZ e)) from c) with rfl | c
   ·exact .old l q 1 f (by decide) (λ z=>by dsimp only;rw [g];grind) (.inl g) (.inl rfl) (λ z=>absurd z n)
   ·exact j q (.inl ⟨b,rfl⟩) c
  ·have g:s=l:=by
    rcases i with ⟨_,h⟩ | ⟨h,_⟩
    ·exact h
    ·exfalso;grind
   have t:=GZ n;rw [d] at c;rcases X2.mp (show y∈(s,Bo e l q)::Bs (Bo e l q) ((Bs q r).flatMap (CZ e)) from c) with rfl | c
   ·exact .old l q (EY e l q) f t.1 (λ z=>by dsimp only;rw [g];exact zX _ _ _ _) (.inl g) (.inr ⟨rfl,b⟩) (λ _=>.inr rfl)
   ·exact j _ (.inr ⟨b,Gj n,l,q,1 - EY e l q,f,b,by grind,λ z=>Wr _ _ _ _⟩) c
  ·have g:s=l:=by
    rcases i with ⟨_,h⟩ | ⟨h,_⟩
    ·exact h
    ·exfalso;grind
   rw [d] at c;exact j s (.inr ⟨b,by rw [g];exact a,l,q,1,f,b,by decide,λ z=>by rw [g];grind⟩) c
  ·obtain ⟨m,o,u,v,w,A,B,C⟩:Af e s=0/\∃p q k,(p,q)∈BZ ps/\Af e q < 0/\0 < k/\∀z,Aq s q z=k * Aq p q z:=by
    rcases i with ⟨h,_⟩ | ⟨_,h⟩
    ·exfalso;grind
    ·exact h
   have t:=GZ n;rw [d] at c;rcases X2.mp (show y∈(s,Bo e l q)::(Bo e l q,q)::Bs q ((Bs q r).flatMap (CZ e)) from c) with rfl | c
   ·exact .cut o u v m (Gj n) w A B C
   ·rcases X2.mp c with rfl | c
    ·exact .old l q (1 - EY e l q) f (by grind) (λ z=>Wr _ _ _ _) (.inr ⟨rfl,a⟩) (.inl rfl) (λ _=>.inl rfl)
    ·exact j q (.inl ⟨by grind,rfl⟩) c
  ·obtain ⟨m,o,u,v,w,A,B,C⟩:Af e s=0/\∃p q k,(p,q)∈BZ ps/\Af e q < 0/\0 < k/\∀z,Aq s q z=k * Aq p q z:=by
    rcases i with ⟨h,_⟩ | ⟨_,h⟩
    ·exfalso;grind
    ·exact h
   rw [d] at c;rcases X2.mp (show y∈(s,q)::Bs q ((Bs q r).flatMap (CZ e)) from c) with rfl | c
   ·exact .cut o u v m b w A B C
   ·exact j q (.inl ⟨by grind,rfl⟩) c
  ·have m:Af e s=0/\∃p q k,(p,q)∈BZ ps/\Af e q < 0/\0 < k/\∀z,Aq s q z=k * Aq p q z:=by
    rcases i with ⟨h,_⟩ | ⟨_,h⟩
    ·exfalso;grind
    ·exact h
   rw [d] at c;exact j s (.inr ⟨b,m⟩) c
theorem wG {P:List Ab->Prop}(h0:P [])(h1:∀xs x,P xs->P (xs++[x]))(l:List Ab):P l:=by
 have:∀n (l:List Ab),l.length=n->P l:=by
  intro n
  induction n with
  | zero=>intro l hl;rw [List.length_eq_zero_iff.mp hl];exact h0
  | succ n ih=>
   intro l hl;rcases wt l with rfl | ⟨xs,x,rfl⟩
   ·simp at hl
   ·have:=h1 xs x (ih xs (by simp at hl;exact hl))
    simpa using this
 exact this _ l rfl
theorem AM9 {e:Be}{ps:List Ab}(l:Ab)(qs:List Ab)(hE:∀x∈Bs l qs,x∈BZ ps)(v:Ab)(hv:((Bs l qs).flatMap (CZ e)).getLast?=some v):RX e ps v ((l::qs).getLast (by simp)):=by
 induction qs using wG generalizing v with
 | h0=>cases hv
 | h1 xs q ih=>
  have e1:(l::(xs++[q])).getLast (by simp)=q:=by
   have h1:(l::(xs++[q])).getLast?=some q:=UA (l:=l::xs) (a:=q);rw [WE (by simp)] at h1
   exact XM h1
  rw [e1];rw [Xk] at hE hv;generalize hp:(l::xs).getLast (by simp)=p at hE hv
  have hpq:(p,q)∈BZ ps:=hE _ (by simp)
  have ih':=ih (λ x hx=>hE x (UQ _ hx))
  rw [hp] at ih';rw [List.flatMap_append,show ([(p,q)]:List (Ab×Ab)).flatMap (CZ e)=CZ e (p,q) by simp] at hv
  rcases bU e p q with ⟨a,b,n,em⟩ | ⟨a,b,n,em⟩ | ⟨a,b,em⟩ | ⟨a,b,n,em⟩ | ⟨a,b,em⟩ | ⟨a,b,em⟩
  ·rw [em,UA] at hv;cases hv
   exact .inl ⟨b,rfl⟩
  ·rw [em,UA] at hv;cases hv
   exact .inr ⟨b,Gj n,p,q,1 - EY e p q,hpq,b,by have:=(GZ n).2;grind,λ z=>Wr _ _ _ _⟩
  ·rw [em,YY] at hv;rcases ih' v hv with ⟨_,h⟩ | ⟨h,_⟩
   ·exact .inr ⟨b,by rw [h];exact a,p,q,1,hpq,b,by decide,λ z=>by rw [h];grind⟩
   ·exfalso;grind
  ·rw [em,show ((Bs l xs).flatMap (CZ e))++[Bo e p q,q]=((Bs l xs).flatMap (CZ e)++[Bo e p q])++[q] by simp,UA] at hv
   cases hv
   exact .inl ⟨by grind,rfl⟩
  ·rw [em,UA] at hv;cases hv
   exact .inl ⟨by grind,rfl⟩
  ·rw [em,YY] at hv;rcases ih' v hv with ⟨h,_⟩ | ⟨_,h⟩
   ·exfalso;grind
   ·exact .inr ⟨b,h⟩
theorem T7 {e:Be}{ps:List Ab}{y:Ab×Ab}(a:y∈BZ (CJ e ps)):OD e ps y.1 y.2:=by
 cases b:ps.getLast? with
 | none=>
  rw [JE] at b;subst b;cases a
 | some l=>
  have c:BZ ps=Bs l ps:=by unfold BZ;rw [b]
  have g:CJ e ps=(Bs l ps).flatMap (CZ e):=by unfold CJ;rw [c]
  unfold BZ at a;cases hv:(CJ e ps).getLast? with
  | none=>rw [hv] at a;cases a
  | some v=>
   rw [hv] at a;dsimp only at a
   rw [g] at a hv;have f:=AM9 (ps:=ps) l ps (λ x d=>by rw [c];exact d) v hv
   have e2:(l::ps).getLast (by simp)=l:=by
    cases ps with
    | nil=>cases b
    | cons z r=>
     rw [xb (by simp)]
     have:=WE (l:=z::r) (by simp)
     rw [this] at b;exact XM b
   rw [e2] at f;exact dB ps l v (λ x d=>by rw [c];exact d) f y a
section
variable {e:Be}{ps:List Ab}(h:ES ps)(h3:3<=ps.length)
include h h3
theorem Kv {x:Ab×Ab}(c:x∈BZ ps){z:Ab}(f:z∈CJ e ps):0<=Aq x.1 x.2 z:=by
 rcases cut_mem.mp f with ⟨g,_⟩ | ⟨y,d,i,rfl⟩
 ·exact h.ge c g
 ·have t:=GZ i;unfold Bo;rw [K5];have a:=h.ge c (Dg d).1;have b:=h.ge c (Dg d).2;have j:=ZR (show 0<=1 - EY e y.1 y.2 by grind) a
  have k:=ZR (show 0<=EY e y.1 y.2 by grind) b
  grind
theorem Wm (u:e.1≠0\/e.2.1≠0){s z m:Ab}(E:s∈CJ e ps)(F:z∈CJ e ps)(G:m∈CJ e ps)(H:Af e s=0)(I:Af e z=0)(J:Af e m=0)(v:s≠z){t:Rat}(K:0 < t)(t1:t < 1)(L:m=Bb t s z):False:=by
 obtain ⟨k,V,M⟩:=Kc H I v u;have a:∀x∈BZ ps,Aq x.1 x.2 m=0->Af e x.1=0/\Af e x.2=0:=by
  intro x j N;have O:=Kv h h3 j E;have P:=Kv h h3 j F;have d:=between (f:=Aq x.1 x.2) (t:=t) (s:=s) (z:=z) (m:=m) (by rw [L];exact K5 _ _ _ _ _) K t1 O P N
  have n:=HS h.nd (by omega) j
  have Q:Aq s z x.1=0:=by
   have l:=d.1;have o:=d.2;unfold Aq at l o ⊢;have nn:x.2.1 - x.1.1≠0\/x.2.2 - x.1.2≠0:=by
    rcases (show x.2.1 - x.1.1=0\/x.2.1 - x.1.1≠0 by grind) with c1 | c1
    ·rcases (show x.2.2 - x.1.2=0\/x.2.2 - x.1.2≠0 by grind) with b | b
     ·exact absurd (Uv (by grind) (by grind)) n
     ·exact .inr b
    ·exact .inl c1
   rcases nn with nn | nn<;>grind
  have R:Aq s z x.2=0:=by
   have l:=d.1;have o:=d.2;unfold Aq at l o ⊢;have nn:x.2.1 - x.1.1≠0\/x.2.2 - x.1.2≠0:=by
    rcases (show x.2.1 - x.1.1=0\/x.2.1 - x.1.1≠0 by grind) with c1 | c1
    ·rcases (show x.2.2 - x.1.2=0\/x.2.2 - x.1.2≠0 by grind) with b | b
     ·exact absurd (Uv (by grind) (by grind)) n
     ·exact .inr b
    ·exact .inl c1
   rcases nn with nn | nn<;>grind
  rw [M] at Q R
  constructor
  ·rcases (show Af e x.1=0\/Af e x.1≠0 by grind) with c | c
   ·exact c
   ·exfalso;grind
  ·rcases (show Af e x.2=0\/Af e x.2≠0 by grind) with c | c
   ·exact c
   ·exfalso;grind
 rcases cut_mem.mp G with ⟨w,_⟩ | ⟨y,S,T,e2⟩
 ·obtain ⟨p,g⟩:=RG w;obtain ⟨q,i⟩:=gj w;have A:=(a (p,m) g (by dsimp only;exact Iz _ _)).1
  have B:=(a (m,q) i (by dsimp only;exact MF _ _)).2
  dsimp only at A B
  have nm:=HS h.nd (by omega) i
  have np:=HS h.nd (by omega) g
  dsimp only at nm np
  have C:p≠q:=λ z=>h.back h3 g (by rw [z];exact i)
  have st:=h.st (p,m) g q (Dg i).2 (λ z=>C z.symm) (λ z=>nm z.symm)
  dsimp only at st
  obtain ⟨W,U,D⟩:=Kc A J np u;rw [D,B] at st
  grind
 ·have r:=a y S (by rw [e2];exact Mw _ _ _)
  rw [r.1,r.2] at T
  grind
end
theorem AI5 {s z m:Ab}(f:s≠z)(g:Aq s z m=0):∃t,m=Bb t s z:=by
 obtain ⟨a,b⟩:=s;obtain ⟨c,d⟩:=z;obtain ⟨e,h⟩:=m;unfold Aq at g;unfold Bb;dsimp only at g ⊢
 rcases (show c - a=0\/c - a≠0 by grind) with c1 | c1
 ·rcases (show d - b=0\/d - b≠0 by grind) with i | i
  ·exact absurd (show ((a,b):Ab)=(c,d) by rw [show c=a by grind,show d=b by grind]) f
  ·refine ⟨(h - b) / (d - b),?_⟩;have j:e=a:=by grind
   rw [j];refine Uv ?_ ?_<;>dsimp only<;>grind
 ·refine ⟨(e - a) / (c - a),?_⟩;refine Uv ?_ ?_<;>dsimp only
  ·grind
  ·have:(h - b) * (c - a)=(d - b) * (e - a):=by grind
   have k:(e - a) / (c - a) * (c - a)=e - a:=by grind
   grind
theorem Ii {a b:Rat}(c:0 < b):(a / b) * b=a:=by grind
theorem Qi {a b:Rat}(e:0 < a)(d:0 < b):0 < a / b:=by
 have f:=Ii (a:=a) d;generalize a / b=c at f;rcases (show c<=0\/0 < c by grind) with z | z
 ·have:=ZR (show 0<=-c by grind) (show 0<=b by grind)
  grind
 ·exact z
theorem Ve {a b:Rat}(e:a < b)(d:0 < b):a / b < 1:=by
 have f:=Ii (a:=a) d;generalize a / b=c at f;rcases (show 1<=c\/c < 1 by grind) with z | z
 ·have:=ZR (show 0<=c - 1 by grind) (show 0<=b by grind)
  grind
 ·exact z
theorem yG {s z:Ab}{t u:Rat}(a:u * (1 - t)=-t):s=Bb u (Bb t s z) z:=by
 unfold Bb;refine Uv ?_ ?_<;>dsimp only<;>grind
theorem tU {s z:Ab}{t u:Rat}(a:u * t=1):z=Bb u s (Bb t s z):=by
 unfold Bb;refine Uv ?_ ?_<;>dsimp only<;>grind
theorem Oc (s z:Ab):Bb 0 s z=s:=by unfold Bb;exact Uv (by dsimp only;grind) (by dsimp only;grind)
theorem Q7 (s z:Ab):Bb 1 s z=z:=by unfold Bb;exact Uv (by dsimp only;grind) (by dsimp only;grind)
theorem jL {s z m:Ab}(b:s≠z)(d:s≠m)(e:z≠m)(f:Aq s z m=0):(∃t,0 < t/\t < 1/\m=Bb t s z)\/(∃t,0 < t/\t < 1/\s=Bb t m z)\/(∃t,0 < t/\t < 1/\z=Bb t s m):=by
 obtain ⟨t,a⟩:=AI5 b f;have g:t≠0:=λ c=>d (by rw [a,c,Oc])
 have t1:t≠1:=λ c=>e (by rw [a,c,Q7])
 clear b d e f;rcases (show t < 0\/(0 < t/\t < 1)\/1 < t by grind) with c | c | c
 ·exact .inr (.inl ⟨(-t) / (1 - t),Qi (by grind) (by grind),Ve (by grind) (by grind),by rw [a];exact yG (Ii (by grind))⟩)
 ·exact .inl ⟨t,c.1,c.2,a⟩
 ·exact .inr (.inr ⟨1 / t,Qi (by grind) (by grind),Ve (by grind) (by grind),by rw [a];exact tU (Ii (by grind))⟩)
section
variable {e:Be}{ps:List Ab}(h:ES ps)(h3:3<=ps.length)
include h h3
theorem gh (f:e.1≠0\/e.2.1≠0){s z m:Ab}(o:s∈CJ e ps)(p:z∈CJ e ps)(g:m∈CJ e ps)(i:Af e s=0)(j:Af e z=0)(a:s≠z)(l:m≠s)(n:m≠z):0 < Af e m:=by
 rcases (show Af e m=0\/0 < Af e m by have:=T5 g;grind) with c | c
 ·exfalso;obtain ⟨k,u,q⟩:=Kc i j a f;have r:Aq s z m=0:=by rw [q,c];grind
  rcases jL a (UX l) (UX n) r with ⟨t,b,t1,d⟩ | ⟨t,b,t1,d⟩ | ⟨t,b,t1,d⟩
  ·exact Wm h h3 f o p g i j c a b t1 d
  ·exact Wm h h3 f g p o c j i n b t1 d
  ·exact Wm h h3 f o g p i c j (UX l) b t1 d
 ·exact c
theorem pR (v:e.1≠0\/e.2.1≠0)(J:2<=(CJ e ps).length):ES (CJ e ps):=by
 have nd:=Wn (e:=e) h h3;refine ⟨nd,λ y j z w l m=>?_⟩
 have f:=HS nd J j;obtain ⟨s,t⟩:=y;have x:=(Dg j).1;have mt:=(Dg j).2;have A:=T7 j;dsimp only at f x mt A l m ⊢
 cases A with
 | old p q k d B r n o g=>
  rw [r];have C:0 < Aq p q z:=by
   rcases cut_mem.mp w with ⟨D,E⟩ | ⟨y,F,i,u⟩
   ·refine h.st (p,q) d z D ?_ ?_
    ·intro c;dsimp only at c
     rcases n with n | ⟨_,n⟩
     ·exact l (c.trans n.symm)
     ·rw [c] at E;grind
    ·intro c;dsimp only at c
     rcases o with o | ⟨_,o⟩
     ·exact m (c.trans o.symm)
     ·rw [c] at E;grind
   ·by_cases c:y=(p,q)
    ·subst c;rcases g i with g | g
     ·exact absurd (u.trans g.symm) l
     ·exact absurd (u.trans g.symm) m
    ·rw [u];have t':=GZ i;exact h.mix h3 d (a:=y.1) (b:=y.2) F c t'.1 t'.2
  exact WA B C
 | cut p q k G rt d L B r=>
  obtain ⟨c,c0,i⟩:=Kc G rt f v;have M:Aq s t q=c * Af e q:=i q;have N:Aq s q t=k * Aq p q t:=r t;have H:=Kv h h3 d mt;dsimp only at H
  have O:Aq s q t=- Aq s t q:=bC s t q;have P:=ZR (show 0<=k by grind) H
  have K:0 < c:=by
   rcases (show c < 0\/0 < c by grind) with I | I
   ·have:=WA (show 0 < -c by grind) (show 0 < - Af e q by grind)
    grind
   ·exact I
  rw [i];exact WA K (gh h h3 v x mt w G rt f l m)
theorem oR {w:Ab}(l:w∈ps)(j:0 < Af e w):3<=(CJ e ps).length:=by
 obtain ⟨p,g⟩:=RG l;obtain ⟨q,i⟩:=gj l;have np:=HS h.nd (by omega) g
 have m:=HS h.nd (by omega) i
 dsimp only at np m
 have o:p≠q:=λ z=>h.back h3 g (by rw [z];exact i)
 have u:w∈CJ e ps:=cut_mem.mpr (.inl ⟨l,by grind⟩)
 obtain ⟨a,v,r,D,A⟩:∃a∈CJ e ps,a≠w/\Aq p w a=0/\0 < Aq w q a:=by
  have k:0 < Aq w q p:=h.st (w,q) i p (Dg g).1 np o;rcases (show 0<=Af e p\/Af e p < 0 by grind) with c | c
  ·exact ⟨p,cut_mem.mpr (.inl ⟨(Dg g).1,c⟩),np,MF _ _,k⟩
  ·have n:=Ig c j;have t:=GZ n;refine ⟨Bo e p w,cut_mem.mpr (.inr ⟨(p,w),g,n,rfl⟩),oV np t.2,Mw _ _ _,?_⟩;unfold Bo;rw [K5,MF];have:=WA (show 0 < 1 - EY e p w by grind) k
   grind
 obtain ⟨b,B,C,tb⟩:∃b∈CJ e ps,b≠w/\Aq w q b=0:=by
  rcases (show 0<=Af e q\/Af e q < 0 by grind) with c | c
  ·exact ⟨q,cut_mem.mpr (.inl ⟨(Dg i).2,c⟩),UX m,Iz _ _⟩
  ·have n:Af e w * Af e q < 0:=by have:=Ig c j;grind
   have t:=GZ n;exact ⟨Bo e w q,cut_mem.mpr (.inr ⟨(w,q),i,n,rfl⟩),cL m t.1,Mw _ _ _⟩
 have s:a≠b:=λ z=>by rw [z,tb] at A;grind
 have nd:=Wn (e:=e) h h3;generalize CJ e ps=cs at *
 match cs,nd,u,v,B with
 | [],_,d,_,_=>cases d
 | [x],_,d,f,h3=>
  exfalso;exact r ((W1.mp f).trans (W1.mp d).symm)
 | [x,y],_,d,f,h3=>
  exfalso;simp only [X2,YN,or_false] at d f h3;rcases d with d | d<;>rcases f with f | f<;>rcases h3 with h3 | h3<;>first
   | exact r (f.trans d.symm)
   | exact C (h3.trans d.symm)
   | exact s (f.trans h3.symm)
 | _::_::_::_,_,_,_,_=>simp
end
structure Aff (f:Ab->Rat):Prop where
 ex:∃a b c:Rat,∀r:Ab,f r=a * r.1+b * r.2+c
theorem RC (e:Be):Aff (Af e):=⟨e.1,e.2.1,e.2.2,λ _=>rfl⟩
theorem jm (p q:Ab):Aff (Aq p q):=⟨-(q.2 - p.2),q.1 - p.1,(q.2 - p.2) * p.1 - (q.1 - p.1) * p.2,λ r=>by unfold Aq;grind⟩
structure Mean (a b c x:Ab):Prop where
 ex:∃u v w:Rat,0<=u/\0<=v/\0<=w/\u+v+w=1/\x.1=u * a.1+v * b.1+w * c.1/\x.2=u * a.2+v * b.2+w * c.2
theorem Mean.aff {a b c x:Ab}{f:Ab->Rat}(hf:Aff f):∀{u v w:Rat},u+v+w=1->x.1=u * a.1+v * b.1+w * c.1->x.2=u * a.2+v * b.2+w * c.2->f x=u * f a+v * f b+w * f c:=by
 obtain ⟨A,i,C,h⟩:=hf.ex;intro u v w g d e;rw [h x,h a,h b,h c,d,e]
 grind
theorem uH {u v w a b c:Rat}(d:0<=u)(hv:0<=v)(e:0<=w)(f:0<=a)(g:0<=b)(h:0<=c):0<=u * a+v * b+w * c:=by
 have i:=ZR d f;have j:=ZR hv g;have k:=ZR e h
 grind
theorem Mean.ge {a b c x:Ab}(m:Mean a b c x){f:Ab->Rat}(hf:Aff f)(d:0<=f a)(e:0<=f b)(g:0<=f c):0<=f x:=by
 obtain ⟨u,v,w,h,hv,i,j,k,l⟩:=m.ex;rw [Mean.aff hf j k l];exact uH h hv i d e g
theorem rW {a b c x:Ab}(T:0 < Aq a b c)(d:0<=Aq b c x)(f:0<=Aq c a x)(g:0<=Aq a b x):Mean a b c x:=by
 have s:Aq b c x+Aq c a x+Aq a b x=Aq a b c:=by unfold Aq;grind
 have ge:∀y:Rat,0<=y->0<=y / Aq a b c:=λ y i=>by
  rcases (show y=0\/0 < y by grind) with c | c
  ·rw [c];grind
  ·have:=Qi c T;grind
 refine ⟨Aq b c x / Aq a b c,Aq c a x / Aq a b c,Aq a b x / Aq a b c,ge _ d,ge _ f,ge _ g,?_,?_,?_⟩
 ·have:Aq a b c≠0:=by grind
  have e:Aq b c x / Aq a b c+Aq c a x / Aq a b c+Aq a b x / Aq a b c=(Aq b c x+Aq c a x+Aq a b x) / Aq a b c:=by grind
  rw [e,s]
  grind
 ·have:Aq a b c≠0:=by grind
  have h:Aq b c x * a.1+Aq c a x * b.1+Aq a b x * c.1=Aq a b c * x.1:=by unfold Aq;grind
  have e:Aq b c x / Aq a b c * a.1+Aq c a x / Aq a b c * b.1+Aq a b x / Aq a b c * c.1=(Aq b c x * a.1+Aq c a x * b.1+Aq a b x * c.1) / Aq a b c:=by grind
  rw [e,h]
  grind
 ·have:Aq a b c≠0:=by grind
  have h:Aq b c x * a.2+Aq c a x * b.2+Aq a b x * c.2=Aq a b c * x.2:=by unfold Aq;grind
  have e:Aq b c x / Aq a b c * a.2+Aq c a x / Aq a b c * b.2+Aq a b x / Aq a b c * c.2=(Aq b c x * a.2+Aq c a x * b.2+Aq a b x * c.2) / Aq a b c:=by grind
  rw [e,h]
  grind
theorem fan {a x:Ab}:∀(l:Ab) (qs:List Ab),0<=Aq a l x->Aq a ((l::qs).getLast (by simp)) x<=0->(∃y∈Bs l qs,0<=Aq a y.1 x/\Aq a y.2 x<=0)\/(qs=[]/\Aq a l x=0)
 | l,[],d,b=>.inr ⟨rfl,by have:Aq a l x<=0:=b;grind⟩
 | l,q::r,d,b=>by
  rcases (show 0<=Aq a q x\/Aq a q x < 0 by grind) with c | c
  ·rcases fan q r c (by rw [xb (by simp)] at b;exact b) with ⟨y,e,f⟩ | ⟨_,g⟩
   ·exact .inl ⟨y,Y9 _ e,f⟩
   ·exact .inl ⟨(l,q),by simp [Bs],d,by dsimp only;grind⟩
  ·exact .inl ⟨(l,q),by simp [Bs],d,by dsimp only;grind⟩
theorem aa {ps:List Ab}(h:ES ps)(l:3<=ps.length){x:Ab}(g:∀y∈BZ ps,0<=Aq y.1 y.2 x):∃a∈ps,∃b∈ps,∃c∈ps,Mean a b c x:=by
 match ps,h,l,g with
 | d::e::f::r,h,l,g=>
  have q:(d::e::f::r).getLast?=some ((d::e::f::r).getLast (by simp)):=WE (by simp)
  have k:BZ (d::e::f::r)=((e::f::r).getLast (by simp),d)::(d,e)::Bs e (f::r):=by
   unfold BZ;rw [q];rfl
  have e1:=g (d,e) (by rw [k];simp)
  have e2:=g ((e::f::r).getLast (by simp),d) (by rw [k];simp)
  dsimp only at e1 e2
  have s:Aq d ((e::f::r).getLast (by simp)) x<=0:=by
   have:Aq ((e::f::r).getLast (by simp)) d x=- Aq d ((e::f::r).getLast (by simp)) x:=by unfold Aq;grind
   grind
  rcases fan e (f::r) e1 s with ⟨y,m,t,w⟩ | ⟨u,_⟩
  ·have j:y∈BZ (d::e::f::r):=by rw [k];exact Y9 _ (Y9 _ m)
   obtain ⟨i,v⟩:=lH m;have nd:=h.nd;have n:=(XO.mp nd).1;have o:y.1∈e::f::r:=by rcases i with i | i<;>simp [i]
   have p:y.2∈e::f::r:=Y9 _ v;have T:=h.st y j d (by simp) (λ z=>n (by rw [z];exact o)) (λ z=>n (by rw [z];exact p))
   refine ⟨d,by simp,y.1,Y9 _ o,y.2,Y9 _ p,rW ?_ (g y j) ?_ t⟩
   ·rw [<- AI8];exact T
   ·have:Aq y.2 d x=- Aq d y.2 x:=by unfold Aq;grind
    grind
  ·cases u
def InP:List Ab->Ab->Prop
 | [],_=>False
 | [p],x=>x=p
 | [p,q],x=>∃t,0<=t/\t<=1/\x=Bb t p q
 | p::q::r::s,x=>∀y∈BZ (p::q::r::s),0<=Aq y.1 y.2 x
theorem InP.three {ps:List Ab}(a:3<=ps.length){x:Ab}:InP ps x↔∀y∈BZ ps,0<=Aq y.1 y.2 x:=by
 match ps,a with
 | p::q::r::s,_=>exact Iff.rfl
theorem X4 {ps:List Ab}(h:ES ps)(e:3<=ps.length){x:Ab}(g:InP ps x){f:Ab->Rat}(hf:Aff f)(d:∀p∈ps,0<=f p):0<=f x:=by
 obtain ⟨a,i,b,j,c,k,m⟩:=aa h e ((InP.three e).mp g);exact m.ge hf (d a i) (d b j) (d c k)
section
variable {e:Be}{ps:List Ab}(h:ES ps)(h3:3<=ps.length)(he:e.1≠0\/e.2.1≠0)
include h h3 he
theorem AW2 {w:Ab}(v:w∈ps)(n:0 < Af e w)(x:Ab):InP (CJ e ps) x↔InP ps x/\0<=Af e x:=by
 have a:=oR h h3 v n;have i:=pR h h3 he (by omega)
 constructor
 ·intro b;refine ⟨(InP.three h3).mpr λ y d=>X4 i a b (jm _ _) λ p j=>Kv h h3 d j,X4 i a b (RC e) λ p j=>T5 j⟩
 ·rintro ⟨b,z⟩
  rw [InP.three h3]at b;refine (InP.three a).mpr λ y d=>?_
  have g:=HS i.nd (by omega) d
  obtain ⟨s,t⟩:=y;have mt:=(Dg d).2;have o:=T7 d;dsimp only at g mt o ⊢
  cases o with
  | old p q k f A l C D m=>
   rw [l];exact ZR (by grind) (b (p,q) f)
  | cut p q k B rt f E A l=>
   obtain ⟨c,c0,m⟩:=Kc B rt g he;have F:Aq s t q=c * Af e q:=m q;have G:Aq s q t=k * Aq p q t:=l t;have r:=Kv h h3 f mt;dsimp only at r
   have H:Aq s q t=- Aq s t q:=bC s t q;have I:=ZR (show 0<=k by grind) r
   have J:0 < c:=by
    rcases (show c < 0\/0 < c by grind) with u | u
    ·have:=WA (show 0 < -c by grind) (show 0 < - Af e q by grind)
     grind
    ·exact u
   rw [m];exact ZR (by grind) z
end
def Eu (e:Be):List (Ab×Ab)->List Ab->List Ab
 | [],a=>a
 | x::r,a=>Eu e r ((if Af e x.1 * Af e x.2 < 0/\Bo e x.1 x.2∉a then a++[Bo e x.1 x.2] else a)++(if 0<=Af e x.2 then [x.2] else []))
def De (e:Be)(ps:List Ab):List Ab:=Eu e (BZ ps) []
theorem b7 (e:Be):∀(xs:List (Ab×Ab)) (a:List Ab),(a++xs.flatMap (CZ e)).Nodup->Eu e xs a=a++xs.flatMap (CZ e)
 | [],a,_=>by simp [Eu]
 | x::r,a,h=>by
  rw [GB,<- Xs] at h ⊢;have hl:=(GE.mp h).1;rw [Eu];have e1:(if Af e x.1 * Af e x.2 < 0/\Bo e x.1 x.2∉a then a++[Bo e x.1 x.2] else a)++(if 0<=Af e x.2 then [x.2] else [])=a++CZ e x:=by
   unfold CZ at hl ⊢;by_cases c:Af e x.1 * Af e x.2 < 0
   ·rw [if_pos c] at hl ⊢;have nm:Bo e x.1 x.2∉a:=λ m=>(GE.mp hl).2.2 _ m _ (by simp) rfl
    rw [if_pos ⟨c,nm⟩,Xs]
   ·rw [if_neg c,if_neg (λ z=>c z.1)]
    rfl
  rw [e1];exact b7 e r _ h
theorem AJ8 {e:Be}{ps:List Ab}(h:(CJ e ps).Nodup):De e ps=CJ e ps:=by
 have:=b7 e (BZ ps) [] (by rw [Qb];exact h)
 unfold De;rw [this];rfl
theorem ES.no_three {ps:List Ab}(h:ES ps)(v:3<=ps.length){a b c:Ab}(e:a∈ps)(n:b∈ps)(g:c∈ps)(i:a≠b)(j:b≠c)(k:a≠c){t:Rat}(o:0 < t)(t1:t < 1)(q:b=Bb t a c):False:=by
 obtain ⟨p,d⟩:=RG n;have r:=h.ge d e;have u:=h.ge d g;have l:Aq p b b=(1 - t) * Aq p b a+t * Aq p b c:=by
  have:=K5 p b t a c;rw [<- q] at this;exact this
 rw [Iz] at l;obtain ⟨w,x⟩:=between (f:=Aq p b) (s:=a) (z:=c) (m:=b) (by rw [Iz];exact l) o t1 r u (Iz p b)
 have e1:a=p:=by
  by_cases c1:a=p
  ·exact c1
  ·have:=h.st _ d a e c1 i;dsimp only at this
   grind
 have e2:c=p:=by
  by_cases c1:c=p
  ·exact c1
  ·have:=h.st _ d c g c1 (λ z=>j z.symm)
   dsimp only at this
   grind
 exact k (e1.trans e2.symm)
theorem ES.no_line {ps:List Ab}(h:ES ps)(j:3<=ps.length){e:Be}(o:e.1≠0\/e.2.1≠0){a b c:Ab}(l:a∈ps)(m:b∈ps)(n:c∈ps)(d:a≠b)(f:b≠c)(g:a≠c)(p:Af e a=0)(rb:Af e b=0)(q:Af e c=0):False:=by
 obtain ⟨k,u,r⟩:=Kc p rb d o;have s:Aq a b c=0:=by rw [r,q];grind
 rcases jL d g f s with ⟨t,i,t1,e⟩ | ⟨t,i,t1,e⟩ | ⟨t,i,t1,e⟩
 ·exact h.no_three j l n m g (λ z=>f z.symm) d i t1 e
 ·exact h.no_three j n l m (λ z=>g z.symm) d (λ z=>f z.symm) i t1 e
 ·exact h.no_three j l m n d f g i t1 e
theorem ES.nil:ES []:=⟨List.nodup_nil,λ x a=>nomatch a⟩
theorem ES.one (p:Ab):ES [p]:=⟨by simp,λ x b z a c d=>by
 have:=(Dg b).1;simp only [W1] at this a;exact absurd (a.trans this.symm) c⟩
theorem ES.two {p q:Ab}(n:p≠q):ES [p,q]:=⟨by simpa using n,λ x a z b c d=>by
 have a:x∈[(q,p),(p,q)]:=a;simp only [X2,YN,or_false] at a b;rcases a with rfl | rfl<;>rcases b with rfl | rfl<;>first | exact absurd rfl c | exact absurd rfl d⟩
theorem Il (l:List Ab):l=[]\/(∃p,l=[p])\/(∃p q,l=[p,q])\/3<=l.length:=by
 match l with
 | []=>exact .inl rfl
 | [p]=>exact .inr (.inl ⟨p,rfl⟩)
 | [p,q]=>exact .inr (.inr (.inl ⟨p,q,rfl⟩))
 | p::q::r::s=>exact .inr (.inr (.inr (by simp)))
theorem pD (e:Be):∀(xs:List (Ab×Ab)),(∀x∈xs,¬ Af e x.1 * Af e x.2 < 0)->xs.flatMap (CZ e)=(xs.map qq).filter (λ z=>decide (0<=Af e z))
 | [],_=>rfl
 | x::r,h=>by
  rw [GB,pD e r λ x a=>h x (Y9 _ a),YB,GY]
  unfold CZ;rw [if_neg (h x (U1 ..))];by_cases c:0<=Af e x.2
  ·rw [if_pos c,if_pos (decide_eq_true c)];rfl
  ·rw [if_neg c,if_neg (by simpa using c)];rfl
section
variable {e:Be}{ps:List Ab}
theorem QR (a:∀p∈ps,¬ 0 < Af e p):CJ e ps=ps.filter (λ z=>decide (0<=Af e z)):=by
 unfold CJ;rw [pD e (BZ ps),OJ];intro x b c;have d:=a _ (Dg b).1;have f:=a _ (Dg b).2;rcases Dh c with h | h<;>grind
theorem tL (h:ES ps)(a:∀p∈ps,¬ 0 < Af e p):(CJ e ps).Nodup:=by
 rw [QR a];exact h.nd.filter _
end
theorem xF {p q x:Ab}{t:Rat}(d:0<=t)(t1:t<=1)(e:x=Bb t p q){f:Ab->Rat}(hf:Aff f)(g:0<=f p)(i:0<=f q):0<=f x:=by
 obtain ⟨a,b,c,h⟩:=hf;have e2:f x=(1 - t) * f p+t * f q:=by rw [e,h,h,h];unfold Bb;dsimp only;grind
 rw [e2];have j:=ZR (show 0<=1 - t by grind) g
 have k:=ZR d i
 grind
theorem Wz {ps:List Ab}(h:ES ps){x:Ab}(a:InP ps x){f:Ab->Rat}(hf:Aff f)(b:∀p∈ps,0<=f p):0<=f x:=by
 rcases Il ps with rfl | ⟨p,rfl⟩ | ⟨p,q,rfl⟩ | c
 ·exact a.elim
 ·have a:x=p:=a;rw [a];exact b p (by simp)
 ·obtain ⟨t,d,t1,e⟩:∃t,0<=t/\t<=1/\x=Bb t p q:=a;exact xF d t1 e hf (b p (by simp)) (b q (by simp))
 ·exact X4 h c a hf b
theorem AH2 {ps:List Ab}(h:ES ps){x:Ab}(a:x∈ps):InP ps x:=by
 rcases Il ps with rfl | ⟨p,rfl⟩ | ⟨p,q,rfl⟩ | b
 ·cases a
 ·exact W1.mp a
 ·rcases X2.mp a with rfl | a
  ·exact ⟨0,by grind,by grind,(Oc _ _).symm⟩
  ·rw [W1.mp a];exact ⟨1,by grind,by grind,(Q7 _ _).symm⟩
 ·exact (InP.three b).mpr λ y c=>h.ge c a
theorem wz {u v w a b c:Rat}(d:0<=u)(hv:0<=v)(e:0<=w)(f:a<=0)(g:b<=0)(i:c<=0)(h:0<=u * a+v * b+w * c):u * a=0/\v * b=0/\w * c=0:=by
 have j:=ZR d (show 0<=-a by grind)
 have k:=ZR hv (show 0<=-b by grind)
 have l:=ZR e (show 0<=-c by grind)
 grind
theorem MJ {u a:Rat}(h:u * a=0):u=0\/a=0:=by
 rcases yv.mp h with h | h
 ·exact .inl h
 ·exact .inr h
theorem share {u:Rat}{a p q:Ab}(b:0<=u)(h:u=0\/a=p\/a=q):∃t,0<=t/\t<=u/\u * a.1=(u - t) * p.1+t * q.1/\u * a.2=(u - t) * p.2+t * q.2:=by
 rcases h with rfl | rfl | rfl
 ·exact ⟨0,by grind,by grind,by grind,by grind⟩
 ·exact ⟨0,by grind,by grind,by grind,by grind⟩
 ·exact ⟨u,by grind,by grind,by grind,by grind⟩
section
variable {e:Be}{ps:List Ab}(h:ES ps)(h3:3<=ps.length)(he:e.1≠0\/e.2.1≠0)(hn:∀p∈ps,¬ 0 < Af e p)
include h h3 he hn
theorem gm:(CJ e ps).length<=2:=by
 rw [QR hn];have mem:∀z∈ps.filter (λ z=>decide (0<=Af e z)),z∈ps/\Af e z=0:=λ z d=>by
  have:=UN.mp d;have j:=hn z this.1;have k:0<=Af e z:=of_decide_eq_true this.2;exact ⟨this.1,by grind⟩
 have nd:(ps.filter (λ z=>decide (0<=Af e z))).Nodup:=h.nd.filter _
 generalize ps.filter (λ z=>decide (0<=Af e z))=l at mem nd
 match l,mem,nd with
 | [],_,_=>simp
 | [_],_,_=>simp
 | [_,_],_,_=>simp
 | a::b::c::r,mem,nd=>
  exfalso;obtain ⟨f,g⟩:=mem a (by simp)
  obtain ⟨b1,b2⟩:=mem b (by simp)
  obtain ⟨c1,i⟩:=mem c (by simp)
  simp only [XO,X2,not_or] at nd;exact h.no_line h3 he f b1 c1 nd.1.1 nd.2.1.1 nd.1.2.1 g b2 i
theorem dD:ES (CJ e ps):=by
 have l:=gm h h3 he hn;have nd:=tL h hn;rcases Il (CJ e ps) with c | ⟨p,c⟩ | ⟨p,q,c⟩ | c
 ·rw [c];exact ES.nil
 ·rw [c];exact ES.one p
 ·rw [c] at nd ⊢;exact ES.two (by simpa using nd)
 ·omega
theorem rA (x:Ab):InP (CJ e ps) x↔InP ps x/\0<=Af e x:=by
 have A:=dD h h3 he hn
 constructor
 ·intro j;refine ⟨(InP.three h3).mpr λ y H=>Wz A j (jm _ _) λ p k=>?_,Wz A j (RC e) λ p k=>T5 k⟩
  rw [QR hn] at k;exact h.ge H (UN.mp k).1
 ·rintro ⟨j,B⟩
  obtain ⟨a,n,b,C,c,D,m⟩:=aa h h3 ((InP.three h3).mp j);obtain ⟨u,v,w,o,hv,r,I,s,t⟩:=m.ex;rw [Mean.aff (RC e) I s t] at B;obtain ⟨J,K,L⟩:=wz o hv r (show Af e a<=0 by have:=hn a n;grind) (show Af e b<=0 by have:=hn b C;grind) (show Af e c<=0 by have:=hn c D;grind) B
  have i:∀{u:Rat} {a:Ab},a∈ps->u * Af e a=0->u=0\/a∈CJ e ps:=λ n z=>by
   rcases MJ z with z | z
   ·exact .inl z
   ·refine .inr ?_;rw [QR hn];exact UN.mpr ⟨n,decide_eq_true (by grind)⟩
  have d:=i n J;have f:=i C K;have g:=i D L;have l:=gm h h3 he hn;rcases Il (CJ e ps) with c | ⟨p,c⟩ | ⟨p,q,c⟩ | c
  ·rw [c] at d f g;simp only [YN,or_false] at d f g
   grind
  ·rw [c] at d f g ⊢;simp only [W1] at d f g;show x=p;obtain ⟨t1,_,_,E,F⟩:=share (p:=p) (q:=p) o (d.imp id .inl);obtain ⟨t2,_,_,b1,b2⟩:=share (p:=p) (q:=p) hv (f.imp id .inl);obtain ⟨t3,_,_,c1,G⟩:=share (p:=p) (q:=p) r (g.imp id .inl);exact Uv (by rw [s];grind) (by rw [t];grind)
  ·rw [c] at d f g ⊢;simp only [X2,YN,or_false] at d f g;obtain ⟨t1,M,N,E,F⟩:=share (p:=p) (q:=q) o d;obtain ⟨t2,O,P,b1,b2⟩:=share (p:=p) (q:=q) hv f;obtain ⟨t3,Q,R,c1,G⟩:=share (p:=p) (q:=q) r g;refine ⟨t1+t2+t3,by grind,by grind,?_⟩
   unfold Bb;exact Uv (by rw [s,E,b1,c1];dsimp only;grind) (by rw [t,F,b2,G];dsimp only;grind)
  ·omega
end
theorem nR {e:Be}{p q:Ab}(h:Af e p * Af e q < 0):Bo e q p=Bo e p q:=by
 have n:Af e p - Af e q≠0:=by rcases Dh h with z | z<;>grind
 have a:Af e q - Af e p≠0:=by grind
 have b:EY e q p=1 - EY e p q:=by unfold EY;grind
 unfold Bo Bb;rw [b];exact Uv (by dsimp only;grind) (by dsimp only;grind)
theorem Ze (e:Be)(p q:Ab):De e [p,q]=
  if Af e p * Af e q < 0 then (if 0<=Af e p then [Bo e p q,p] else [Bo e p q,q]) else (if 0<=Af e p then [p] else [])++(if 0<=Af e q then [q] else []):=by
 have e1:De e [p,q]=Eu e [(q,p),(p,q)] []:=rfl;rw [e1];unfold Eu Eu Eu;dsimp only
 have b:Af e q * Af e p=Af e p * Af e q:=Rat.mul_comm _ _;rw [b];by_cases c:Af e p * Af e q < 0
 ·have d:(if Af e p * Af e q < 0/\Bo e q p∉([]:List Ab) then []++[Bo e q p] else [])=[Bo e p q]:=by
   rw [if_pos ⟨c,YN⟩,nR c];rfl
  rw [d,if_pos c];by_cases c1:0<=Af e p
  ·have a:¬ 0<=Af e q:=by rcases Dh c with z | z<;>grind
   rw [if_pos c1,if_neg a,if_pos c1,if_neg (λ z=>z.2 (by simp))]
   rfl
  ·have a:0<=Af e q:=by rcases Dh c with z | z<;>grind
   rw [if_neg c1,if_pos a,if_neg c1,if_neg (λ z=>z.2 (by simp))]
   rfl
 ·rw [if_neg c,if_neg (λ z=>c z.1),if_neg (λ z=>c z.1)]
  rfl
theorem dW {e:Be}{p q x:Ab}(i:Af e p < 0)(j:0 < Af e q):(∃t,0<=t/\t<=1/\x=Bb t (Bo e p q) q)↔(∃t,0<=t/\t<=1/\x=Bb t p q)/\0<=Af e x:=by
 have f:Af e p * Af e q < 0:=Ig i j;obtain ⟨c0,c1⟩:=GZ f;have k:=Gj f;have g:(1 - EY e p q) * Af e p+EY e p q * Af e q=0:=by rw [<- Km];exact k
 unfold Bo;generalize EY e p q=c at c0 c1 g
 constructor
 ·rintro ⟨t,d,t1,rfl⟩
  have e1:Bb t (Bb c p q) q=Bb (c+t * (1 - c)) p q:=by unfold Bb;exact Uv (by dsimp only;grind) (by dsimp only;grind)
  have o:=ZR d (show 0<=1 - c by grind)
  have r:=ZR (show 0<=1 - t by grind) (show 0<=1 - c by grind)
  refine ⟨⟨c+t * (1 - c),by grind,by grind,e1⟩,?_⟩
  rw [Km,Km,g];have:=ZR d (show 0<=Af e q by grind)
  grind
 ·rintro ⟨⟨t,d,t1,rfl⟩,l⟩
  rw [Km] at l;have m:0 < Af e q - Af e p:=by grind
  have ct:c<=t:=by
   rcases (show c<=t\/t < c by grind) with h | h
   ·exact h
   ·exfalso;have:=WA (show 0 < c - t by grind) m
    grind
  refine ⟨(t - c) / (1 - c),?_,?_,?_⟩
  ·rcases (show t=c\/0 < t - c by grind) with h | h
   ·rw [h];grind
   ·have:=Qi h (show 0 < 1 - c by grind);grind
  ·rcases (show t=1\/t < 1 by grind) with h | h
   ·rw [h];grind
   ·have:=Ve (a:=t - c) (b:=1 - c) (by grind) (by grind);grind
  ·have n:(t - c) / (1 - c) * (1 - c)=t - c:=Ii (by grind)
   generalize (t - c) / (1 - c)=s at n;have e1:Bb s (Bb c p q) q=Bb (c+s * (1 - c)) p q:=by unfold Bb;exact Uv (by dsimp only;grind) (by dsimp only;grind)
   rw [e1,n]
   congr 1
   grind
theorem AW8 (t:Rat)(p q:Ab):Bb t p q=Bb (1 - t) q p:=by unfold Bb;exact Uv (by dsimp only;grind) (by dsimp only;grind)
theorem qy {p q x:Ab}:(∃t,0<=t/\t<=1/\x=Bb t p q)↔(∃t,0<=t/\t<=1/\x=Bb t q p):=by
 constructor<;>rintro ⟨t,a,t1,e⟩<;>exact ⟨1 - t,by grind,by grind,by rw [e,AW8]⟩
theorem dM {e:Be}{p q:Ab}(h:Af e p * Af e q < 0):Bo e p q≠p/\Bo e p q≠q:=by
 have r:=Gj h;refine ⟨λ z=>?_,λ z=>?_⟩
 ·rw [z] at r;rw [r] at h;grind
 ·rw [z] at r;rw [r] at h;grind
theorem Af4 {e:Be}{p q:Ab}(n:p≠q):ES (De e [p,q])/\∀x,InP (De e [p,q]) x↔InP [p,q] x/\0<=Af e x:=by
 rw [Ze];by_cases c:Af e p * Af e q < 0
 ·rw [if_pos c];by_cases c1:0<=Af e p
  ·rw [if_pos c1];refine ⟨ES.two (dM c).1,λ x=>?_⟩
   have f:Af e q < 0/\0 < Af e p:=by rcases Dh c with z | z<;>grind
   have i:=dW (x:=x) f.1 f.2;rw [nR c] at i;show (∃t,0<=t/\t<=1/\x=Bb t (Bo e p q) p)↔(∃t,0<=t/\t<=1/\x=Bb t p q)/\_;rw [i,qy]
  ·rw [if_neg c1];have f:Af e p < 0/\0 < Af e q:=by rcases Dh c with z | z<;>grind
   exact ⟨ES.two (dM c).2,λ x=>dW f.1 f.2⟩
 ·rw [if_neg c];have room:∀t,Af e (Bb t p q)=(1 - t) * Af e p+t * Af e q:=λ t=>Km e t p q
  by_cases c1:0<=Af e p
  ·by_cases a:0<=Af e q
   ·rw [if_pos c1,if_pos a];refine ⟨ES.two n,λ x=>⟨λ b=>⟨b,?_⟩,λ b=>b.1⟩⟩
    exact Wz (ES.two n) b (RC e) λ r j=>by
     simp only [X2,YN,or_false] at j;rcases j with rfl | rfl<;>assumption
   ·have z:Af e p=0:=by
     rcases (show Af e p=0\/0 < Af e p by grind) with h | h
     ·exact h
     ·exfalso;exact c (by have:=Ig (show Af e q < 0 by grind) h;rw [Rat.mul_comm];exact this)
    rw [if_pos c1,if_neg a];refine ⟨ES.one p,λ x=>?_⟩
    show x=p↔(∃t,0<=t/\t<=1/\x=Bb t p q)/\_
    constructor
    ·rintro rfl
     exact ⟨⟨0,by grind,by grind,(Oc _ _).symm⟩,c1⟩
    ·rintro ⟨⟨t,g,t1,rfl⟩,d⟩
     rw [room,z] at d;have:t=0:=by
      rcases (show t=0\/0 < t by grind) with h | h
      ·exact h
      ·have:=WA h (show 0 < - Af e q by grind);grind
     rw [this,Oc]
  ·by_cases a:0<=Af e q
   ·have z:Af e q=0:=by
     rcases (show Af e q=0\/0 < Af e q by grind) with h | h
     ·exact h
     ·exfalso;exact c (Ig (show Af e p < 0 by grind) h)
    rw [if_neg c1,if_pos a];refine ⟨ES.one q,λ x=>?_⟩
    show x=q↔(∃t,0<=t/\t<=1/\x=Bb t p q)/\_
    constructor
    ·rintro rfl
     exact ⟨⟨1,by grind,by grind,(Q7 _ _).symm⟩,a⟩
    ·rintro ⟨⟨t,g,t1,rfl⟩,d⟩
     rw [room,z] at d;have:t=1:=by
      rcases (show t=1\/0 < 1 - t by grind) with h | h
      ·exact h
      ·have:=WA h (show 0 < - Af e p by grind);grind
     rw [this,Q7]
   ·rw [if_neg c1,if_neg a];refine ⟨ES.nil,λ x=>⟨λ b=>b.elim,?_⟩⟩
    rintro ⟨⟨t,g,t1,rfl⟩,d⟩
    rw [room] at d;have k:=ZR g (show 0<=- Af e q by grind)
    have l:=ZR (show 0<=1 - t by grind) (show 0<=- Af e p by grind)
    rcases (show t=0\/0 < t by grind) with h | h
    ·rw [h] at d;grind
    ·have:=WA h (show 0 < - Af e q by grind);grind
theorem Zf (e:Be)(p:Ab):De e [p]=if 0<=Af e p then [p] else []:=by
 have e1:De e [p]=Eu e [(p,p)] []:=rfl;rw [e1];unfold Eu Eu;dsimp only
 have c:¬ Af e p * Af e p < 0:=λ z=>by rcases Dh z with h | h<;>grind
 rw [if_neg (λ z=>c z.1)]
 rfl
theorem ZF {e:Be}{ps:List Ab}(h:ES ps)(a:3<=ps.length):De e ps=CJ e ps:=AJ8 (Wn h a)
theorem RW {e:Be}{ps:List Ab}(h:ES ps)(d:e.1≠0\/e.2.1≠0):ES (De e ps)/\∀x,InP (De e ps) x↔InP ps x/\0<=Af e x:=by
 rcases Il ps with rfl | ⟨p,rfl⟩ | ⟨p,q,rfl⟩ | b
 ·exact ⟨ES.nil,λ x=>⟨λ a=>a.elim,λ a=>a.1⟩⟩
 ·rw [Zf];by_cases c:0<=Af e p
  ·rw [if_pos c];exact ⟨ES.one p,λ x=>⟨λ a=>⟨a,by rw [show x=p from a];exact c⟩,λ a=>a.1⟩⟩
  ·rw [if_neg c];exact ⟨ES.nil,λ x=>⟨λ a=>a.elim,λ a=>c (by rw [<- show x=p from a.1];exact a.2)⟩⟩
 ·exact Af4 (by simpa using h.nd)
 ·rw [ZF h b];by_cases c:∃w∈ps,0 < Af e w
  ·obtain ⟨w,g,f⟩:=c;exact ⟨pR h b d (by have:=oR h b g f;omega),AW2 h b d g f⟩
  ·have i:∀p∈ps,¬ 0 < Af e p:=λ p j z=>c ⟨p,j,z⟩
   exact ⟨dD h b d i,rA h b d i⟩
def J7 (e:Be)(x:Ab×Ab):Bool:=decide (Af e x.1 * Af e x.2 < 0)
theorem qd (e:Be):∀xs:List (Ab×Ab),(xs.flatMap (CZ e)).length=(xs.filter (J7 e)).length+((xs.map qq).filter (λ z=>decide (0<=Af e z))).length
 | []=>rfl
 | x::r=>by
  rw [GB,X1,qd e r,YB,GY,GY];unfold CZ J7;by_cases c1:Af e x.1 * Af e x.2 < 0<;>by_cases a:0<=Af e x.2
  ·rw [if_pos c1,if_pos a,if_pos (decide_eq_true c1),if_pos (decide_eq_true a)];simp only [X1,X9,YG];omega
  ·rw [if_pos c1,if_neg a,if_pos (decide_eq_true c1),if_neg (by simpa using a)]
   simp only [X1,X9,YG];omega
  ·rw [if_neg c1,if_pos a,if_neg (by simpa using c1),if_pos (decide_eq_true a)]
   simp only [X1,X9,YG];omega
  ·rw [if_neg c1,if_neg a,if_neg (by simpa using c1),if_neg (by simpa using a)]
   simp only [X1,YG];omega
theorem iY {b c:Type}{f:b->c}:∀{l:List b},(l.map f).Nodup->l.Nodup
 | [],_=>List.nodup_nil
 | a::r,h=>by
  rw [YB,XO] at h;exact XO.mpr ⟨λ m=>h.1 (List.mem_map_of_mem m),iY h.2⟩
theorem AX6 {e:Be}{ps:List Ab}(h:ES ps)(t:e.1≠0\/e.2.1≠0):(De e ps).length<=ps.length+1:=by
 rcases Il ps with rfl | ⟨p,rfl⟩ | ⟨p,q,rfl⟩ | d
 ·exact WO _
 ·rw [Zf];split<;>simp
 ·rw [Ze]
  split
  ·split<;>simp
  ·split<;>split<;>simp
 ·rw [ZF h d];unfold CJ;rw [qd,OJ];have m:(BZ ps).Nodup:=iY (f:=qq) (by rw [OJ];exact h.nd)
  have nd:((BZ ps).filter (J7 e)).Nodup:=m.filter _;have mem:∀x∈(BZ ps).filter (J7 e),x∈BZ ps/\Af e x.1 * Af e x.2 < 0:=λ x g=>⟨(UN.mp g).1,of_decide_eq_true (UN.mp g).2⟩
  have le:=yX (λ z=>decide (0<=Af e z)) ps
  have two:((BZ ps).filter (J7 e)).length<=2:=by
   generalize (BZ ps).filter (J7 e)=l at nd mem
   match l,nd,mem with
   | [],_,_=>simp
   | [_],_,_=>simp
   | [_,_],_,_=>simp
   | a::b::c::r,nd,mem=>
    exfalso;obtain ⟨k,i⟩:=mem a (by simp)
    obtain ⟨b1,b2⟩:=mem b (by simp)
    obtain ⟨c1,j⟩:=mem c (by simp)
    simp only [XO,X2,not_or] at nd;have n:=Oi h d k b1 nd.1.1 i b2;have o:=Oi h d k c1 nd.1.2.1 i j;have s:=Oi h d b1 c1 nd.2.1.1 b2 j;have:=gh h d t (cut_mem.mpr (.inr ⟨a,k,i,rfl⟩)) (cut_mem.mpr (.inr ⟨b,b1,b2,rfl⟩)) (cut_mem.mpr (.inr ⟨c,c1,j,rfl⟩)) (Gj i) (Gj b2) n (λ z=>o z.symm) (λ z=>s z.symm)
    rw [Gj j] at this
    grind
  by_cases c:(BZ ps).filter (J7 e)=[]
  ·rw [c];simp only [YG];omega
  ·obtain ⟨x,g⟩:=List.exists_mem_of_ne_nil _ c;obtain ⟨u,v⟩:=mem x g;have neg:∃z∈ps,¬ 0<=Af e z:=by
    obtain ⟨w,y⟩:=Dg u;rcases Dh v with z | z
    ·exact ⟨_,w,by grind⟩
    ·exact ⟨_,y,by grind⟩
   have lt:(ps.filter (λ z=>decide (0<=Af e z))).length < ps.length:=by
    rw [List.length_filter_lt_length_iff_exists];obtain ⟨z,A,nz⟩:=neg;exact ⟨z,A,by simpa using nz⟩
   omega
structure LinB (L:Nat)(A B C:Int):Prop where
 a:A.natAbs < 2 ^ L
 b:B.natAbs < 2 ^ L
 c:C.natAbs < 2 ^ L
def Ep (A a C:Int)(p:Ab):Prop:=(A:Rat) * p.1+(a:Rat) * p.2+(C:Rat)=0
structure OnL (L:Nat)(p q:Ab):Prop where
 ex:∃A B C:Int,LinB L A B C/\(A≠0\/B≠0)/\Ep A B C p/\Ep A B C q
structure Two (L:Nat)(p:Ab):Prop where
 ex:∃A B C A' B' C':Int,LinB L A B C/\LinB L A' B' C'/\A * B' - A' * B≠0/\Ep A B C p/\Ep A' B' C' p
structure EdB (L:Nat)(e:Be):Prop where
 ex:∃(A B C:Int) (k:Rat),LinB L A B C/\k≠0/\e.1=k * A/\e.2.1=k * B/\e.2.2=k * C
theorem Two.self {f:Nat}{p:Ab}(h:Two f p):OnL f p p:=by
 obtain ⟨A,g,C,i,j,k,e,l,d,c,m⟩:=h.ex;refine ⟨A,g,C,e,?_,c,c⟩;by_cases a:A=0
 ·by_cases b:g=0
  ·exfalso;apply d;rw [a,b];simp
  ·exact .inr b
 ·exact .inl a
theorem OnL.swap {e:Nat}{p q:Ab}(h:OnL e p q):OnL e q p:=by
 obtain ⟨A,f,C,a,b,c,d⟩:=h.ex;exact ⟨A,f,C,a,b,d,c⟩
theorem Wo {A a C:Int}{p q:Ab}(t:Rat)(b:Ep A a C p)(c:Ep A a C q):Ep A a C (Bb t p q):=by
 unfold Ep Bb at *;dsimp only
 grind
theorem EdB.on {f:Nat}{e:Be}(h:EdB f e):∃A a C:Int,LinB f A a C/\((e.1≠0\/e.2.1≠0)->(A≠0\/a≠0))/\(∃k:Rat,k≠0/\∀p:Ab,Af e p=k * ((A:Rat) * p.1+(a:Rat) * p.2+(C:Rat))):=by
 obtain ⟨A,a,C,k,b,c,e1,e2,d⟩:=h.ex;refine ⟨A,a,C,b,?_,k,c,λ p=>?_⟩
 ·rintro (n | n)
  ·exact .inl λ z=>n (by rw [e1,z];grind)
  ·exact .inr λ z=>n (by rw [e2,z];grind)
 ·unfold Af;rw [e1,e2,d]
  grind
theorem dF {l:Nat}{e:Be}{p q:Ab}(hl:OnL l p q)(m:EdB l e)(h:Af e p * Af e q < 0):Two l (Bo e p q):=by
 obtain ⟨A,f,C,o,r,g,i⟩:=hl.ex;obtain ⟨a,b,s,t,_,k,u,c⟩:=m.on;have j:=Gj h;refine ⟨A,f,C,a,b,s,o,t,λ d=>?_,Wo _ g i,?_⟩
 ·have ne:Af e p≠Af e q:=by rcases Dh h with z | z<;>grind
  apply ne
  rw [c p,c q];have d':(A:Rat) * b=(a:Rat) * f:=by
   have:A * b=a * f:=by omega
   have:=congrArg (λ z:Int=>(z:Rat)) this
   simpa only [Yb] using this
  unfold Ep at g i;have v:(a:Rat) * (p.1 - q.1)+(b:Rat) * (p.2 - q.2)=0:=by
   rcases r with n | n
   ·have n:(A:Rat)≠0:=λ z=>n (by have:=wa.mp z;exact this)
    have:(A:Rat) * ((a:Rat) * (p.1 - q.1)+(b:Rat) * (p.2 - q.2))=0:=by grind
    rcases MJ this with z | z
    ·exact absurd z n
    ·exact z
   ·have n:(f:Rat)≠0:=λ z=>n (by have:=wa.mp z;exact this)
    have:(f:Rat) * ((a:Rat) * (p.1 - q.1)+(b:Rat) * (p.2 - q.2))=0:=by grind
    rcases MJ this with z | z
    ·exact absurd z n
    ·exact z
  congr 1
  grind
 ·rw [c] at j;rcases MJ j with z | z
  ·exact absurd z u
  ·exact z
theorem Ac2 {j:Nat}{e:Be}{s t:Ab}(b:EdB j e)(c:e.1≠0\/e.2.1≠0)(d:Af e s=0)(rt:Af e t=0):OnL j s t:=by
 obtain ⟨A,l,C,g,n,k,h,i⟩:=b.on;have f:∀z:Ab,Af e z=0->Ep A l C z:=λ z a=>by
  rw [i] at a;rcases MJ a with z | z
  ·exact absurd z h
  ·exact z
 exact ⟨A,l,C,g,n c,f s d,f t rt⟩
structure PolB (L:Nat)(ps:List Ab):Prop where
 two:∀p∈ps,Two L p
 on:∀x∈BZ ps,OnL L x.1 x.2
theorem OnL.mixL {i:Nat}{p q s t:Ab}(h:OnL i p q)(d:s=p\/s=q\/∃c,s=Bb c p q)(e:t=p\/t=q\/∃c,t=Bb c p q):OnL i s t:=by
 obtain ⟨A,j,C,f,g,a,b⟩:=h.ex;refine ⟨A,j,C,f,g,?_,?_⟩
 ·rcases d with rfl | rfl | ⟨c,rfl⟩
  ·exact a
  ·exact b
  ·exact Wo _ a b
 ·rcases e with rfl | rfl | ⟨c,rfl⟩
  ·exact a
  ·exact b
  ·exact Wo _ a b
theorem uz {f:Nat}{e:Be}{ps:List Ab}(h:PolB f ps)(b:EdB f e)(g:e.1≠0\/e.2.1≠0):PolB f (CJ e ps):=by
 refine ⟨λ p i=>?_,λ y j=>?_⟩
 ·rcases cut_mem.mp i with ⟨l,_⟩ | ⟨x,m,c,rfl⟩
  ·exact h.two p l
  ·exact dF (h.on x m) b c
 ·obtain ⟨s,t⟩:=y;have d:=T7 j;dsimp only at d ⊢
  cases d with
  | old p q k a n o r u c=>
   refine (h.on _ a).mixL ?_ ?_
   ·rcases r with rfl | ⟨rfl,_⟩
    ·exact .inl rfl
    ·exact .inr (.inr ⟨_,rfl⟩)
   ·rcases u with rfl | ⟨rfl,_⟩
    ·exact .inr (.inl rfl)
    ·exact .inr (.inr ⟨_,rfl⟩)
  | cut p q k v rt a w n o=>exact Ac2 b g v rt
theorem PolB.nil (c:Nat):PolB c []:=by
 refine ⟨λ p a=>?_,λ x b=>?_⟩
 ·cases a
 ·cases b
theorem PolB.one {c:Nat}{p:Ab}(h:Two c p):PolB c [p]:=by
 refine ⟨λ q b=>?_,λ x a=>?_⟩
 ·rw [W1.mp b];exact h
 ·have a:x∈[(p,p)]:=a;rw [W1.mp a];exact h.self
theorem PolB.pair {c:Nat}{p q:Ab}(d:Two c p)(e:Two c q)(h:OnL c p q):PolB c [p,q]:=by
 refine ⟨λ r b=>?_,λ x a=>?_⟩
 ·simp only [X2,YN,or_false] at b;rcases b with rfl | rfl<;>assumption
 ·have a:x∈[(q,p),(p,q)]:=a;simp only [X2,YN,or_false] at a;rcases a with rfl | rfl
  ·exact h.swap
  ·exact h
theorem AM3 {b:Nat}{e:Be}{ps:List Ab}(h:ES ps)(a:PolB b ps)(f:EdB b e)(k:e.1≠0\/e.2.1≠0):PolB b (De e ps):=by
 rcases Il ps with rfl | ⟨p,rfl⟩ | ⟨p,q,rfl⟩ | l
 ·exact PolB.nil b
 ·rw [Zf]
  split
  ·exact a
  ·exact PolB.nil b
 ·have d:OnL b p q:=a.on (p,q) (show (p,q)∈[(q,p),(p,q)] by simp)
  have g:=a.two p (by simp)
  have i:=a.two q (by simp)
  rw [Ze];by_cases c:Af e p * Af e q < 0
  ·rw [if_pos c];have j:=dF d f c
   split
   ·exact PolB.pair j g (d.mixL (.inr (.inr ⟨_,rfl⟩)) (.inl rfl))
   ·exact PolB.pair j i (d.mixL (.inr (.inr ⟨_,rfl⟩)) (.inr (.inl rfl)))
  ·rw [if_neg c]
   split<;>split
   ·exact a
   ·exact PolB.one g
   ·exact PolB.one i
   ·exact PolB.nil b
 ·rw [ZF h l];exact uz a f k
theorem Two.rb {j:Nat}{p:Ab}(h:Two j p):Rb (2 * j+1) p.1 p.2:=by
 obtain ⟨A,B,C,k,l,n,g,i,d,D,E⟩:=h.ex;have e:∀{x y z w:Int},x.natAbs < 2 ^ j->y.natAbs < 2 ^ j->z.natAbs < 2 ^ j->w.natAbs < 2 ^ j->(x * y - z * w).natAbs < 2 ^ (2 * j+1):=λ F G H I=>by
  have:=mq (Cr F G) (Cr H I);rw [<- Nat.two_mul] at this;exact this
 have m:∀x y z w:Int,((x * y - z * w:Int):Rat)=(x:Rat) * y - (z:Rat) * w:=λ x y z w=>by rw [Rat.intCast_sub,Yb,Yb]
 unfold Ep at D E;have e1:p.1 * ((A * l - k * B:Int):Rat)=((B * n - l * C:Int):Rat):=by rw [m,m];grind
 have e2:p.2 * ((A * l - k * B:Int):Rat)=((k * C - A * n:Int):Rat):=by rw [m,m];grind
 have J:((A * l - k * B:Int):Rat)≠0:=λ z=>d (wa.mp z)
 have o:∀(f q U:Int),f≠0->(f:Rat)≠0->f.natAbs < 2 ^ (2 * j+1)->q.natAbs < 2 ^ (2 * j+1)->U.natAbs < 2 ^ (2 * j+1)->p.1 * (f:Rat)=(q:Rat)->p.2 * (f:Rat)=(U:Rat)->Rb (2 * j+1) p.1 p.2:=λ f q U K L r t u M N=>by
  by_cases s:0 < f
  ·refine ⟨q,U,f.natAbs,by omega,r,t,u,?_,?_⟩
   ·rw [show ((f.natAbs:Nat):Int)=f by omega,JU];grind
   ·rw [show ((f.natAbs:Nat):Int)=f by omega,JU];grind
  ·have v:((f.natAbs:Nat):Int)=-f:=by omega
   refine ⟨-q,-U,f.natAbs,by omega,r,by rw [Jf];exact t,by rw [Jf];exact u,?_,?_⟩
   ·rw [v,JU,JA,JA];grind
   ·rw [v,JU,JA,JA];grind
 exact o _ _ _ d J (e g.a i.b i.a g.b) (e g.b i.c i.b g.c) (e i.a g.c g.a i.c) e1 e2
theorem fL (l:Ab):∀ps:List Ab,(Bs l ps).length=ps.length
 | []=>rfl
 | p::r=>by show (Bs p r).length+1=r.length+1;rw [fL p r]
theorem Af2 (ps:List Ab):(BZ ps).length=ps.length:=by
 unfold BZ;cases h:ps.getLast? with
 | none=>rw [JE.mp h];rfl
 | some l=>exact fL l ps
theorem fj (l:Ab):∀(ps:List Ab) (i:Nat),i < ps.length->(Bs l ps)[i]?=some (if i=0 then l else Cg ps (i - 1),Cg ps i)
 | p::r,0,_=>rfl
 | p::r,i+1,h=>by
  show (Bs p r)[i]?=_;rw [fj p r i (by simpa using h)]
  cases i with
  | zero=>rfl
  | succ j=>rfl
theorem AZ4 {ps:List Ab}{i:Nat}(h:i < ps.length):(BZ ps)[i]?=some (Et ps i,Cg ps i):=by
 unfold BZ;cases hl:ps.getLast? with
 | none=>rw [JE.mp hl] at h;exact absurd h (by simp)
 | some l=>
  show (Bs l ps)[i]?=_;rw [fj l ps i h];unfold Et;by_cases e:i=0
  ·rw [if_pos e,if_pos e];have:Cg ps (ps.length - 1)=l:=by
    unfold Cg;rw [QO,<- QZ,hl];rfl
   rw [this]
  ·rw [if_neg e,if_neg e]
theorem Qc {P:List Ab->Prop}(h:∀x r,P (x::r)->P (r++[x])):∀a b:List Ab,P (a++b)->P (b++a)
 | [],b,p=>by rw [YY];exact p
 | x::a,b,p=>by
  have c:=h x (a++b) p;rw [Xs] at c;have d:=Qc h a (b++[x]) c;rw [Xs] at d;exact d
theorem rot_edges {x:Ab}{r:List Ab}{y:Ab×Ab}:y∈BZ (r++[x])↔y∈BZ (x::r):=by
 have e1:BZ (r++[x])=Bs x (r++[x]):=by
  unfold BZ;rw [List.getLast?_append];rfl
 have e2:BZ (x::r)=((x::r).getLast (by simp),x)::Bs x r:=by
  unfold BZ;rw [WE (by simp)]
  rfl
 rw [e1,e2,Xk,YE,X2,X2];simp only [YN,or_false];exact Or.comm
theorem ES.rot {x:Ab}{r:List Ab}(h:ES (x::r)):ES (r++[x]):=by
 refine ⟨?_,λ y d z c f g=>?_⟩
 ·have nd:=h.nd;rw [XO] at nd;rw [GE];refine ⟨nd.2,by simp,λ a i b j e=>?_⟩
  rw [W1.mp j] at e;exact nd.1 (e▸i)
 ·refine h.st y (rot_edges.mp d) z ?_ f g;rw [YE,W1] at c;rw [X2];exact c.symm
theorem PolB.rot {c:Nat}{x:Ab}{r:List Ab}(h:PolB c (x::r)):PolB c (r++[x]):=by
 refine ⟨λ p a=>h.two p ?_,λ y b=>h.on y (rot_edges.mp b)⟩
 rw [YE,W1] at a;rw [X2];exact a.symm
theorem InP.rot {x:Ab}{r:List Ab}(z:Ab):InP (r++[x]) z↔InP (x::r) z:=by
 match r with
 | []=>exact Iff.rfl
 | [p]=>exact qy
 | p::q::s=>
  rw [InP.three (ps:=p::q::s++[x]) (by simp),InP.three (ps:=x::p::q::s) (by simp)]
  constructor
  ·intro h y a;exact h y (rot_edges.mpr a)
  ·intro h y a;exact h y (rot_edges.mp a)
def DN (cs:List Ab):Nat->Nat
 | 0=>0
 | i+1=>if JS (Cg cs i) (Cg cs (DN cs i))=true then i else DN cs i
def Hr (cs:List Ab):List Ab:=cs.drop (DN cs cs.length)++cs.take (DN cs cs.length)
theorem dC (cs:List Ab):∀m,0 < m->DN cs m < m
 | 0,h=>absurd h (by decide)
 | m+1,_=>by
  rw [DN]
  split
  ·omega
  ·cases m with
   | zero=>show 0 < 1;decide
   | succ k=>have:=dC cs (k+1) (by omega);omega
theorem QF (cs:List Ab):∃a b,cs=a++b/\Hr cs=b++a:=⟨cs.take (DN cs cs.length),cs.drop (DN cs cs.length),(List.take_append_drop _ _).symm,rfl⟩
theorem AH0 (cs:List Ab):(Hr cs).length=cs.length:=by
 obtain ⟨a,b,e1,e2⟩:=QF cs;rw [e2,e1,X1,X1];omega
theorem uy {cs:List Ab}(h:ES cs):ES (Hr cs):=by
 obtain ⟨a,b,e1,e2⟩:=QF cs;rw [e2];exact Qc (P:=ES) (λ x r p=>p.rot) a b (e1▸h)
theorem AN2 {c:Nat}{cs:List Ab}(h:PolB c cs):PolB c (Hr cs):=by
 obtain ⟨a,b,e1,e2⟩:=QF cs;rw [e2];exact Qc (P:=PolB c) (λ x r p=>p.rot) a b (e1▸h)
theorem wB (cs:List Ab)(z:Ab):InP (Hr cs) z↔InP cs z:=by
 obtain ⟨a,b,e1,e2⟩:=QF cs;rw [e2];refine Qc (P:=λ l=>InP l z↔InP cs z) (λ x r p=>(InP.rot z).trans p) a b ?_
 rw [<- e1]
structure Box where
 a:Rat
 b:Rat
 c:Rat
 d:Rat
def Box.four (x:Box):List Ab:=[(x.a,x.c),(x.b,x.c),(x.b,x.d),(x.a,x.d)]
def Gv:List Ab->List Ab->List Ab
 | [],a=>a
 | c::cs,a=>Gv cs (if c∈a then a else a++[c])
def Dz (x:Box):List Ab:=Gv x.four []
structure Box.ok (x:Box):Prop where
 h:x.a<=x.b
 s:x.c<=x.d
def Box.has (x:Box)(r:Ab):Prop:=x.a<=r.1/\r.1<=x.b/\x.c<=r.2/\r.2<=x.d
theorem JR {a b c d:Rat}:((a,b):Ab)=(c,d)↔a=c/\b=d:=Prod.mk.injEq a b c d▸Iff.rfl
theorem Ol {x:Box}(i:x.a < x.b)(j:x.c < x.d):Dz x=[(x.a,x.c),(x.b,x.c),(x.b,x.d),(x.a,x.d)]:=by
 have e:x.b≠x.a:=by grind
 have f:x.d≠x.c:=by grind
 have g:x.a≠x.b:=by grind
 have h:x.c≠x.d:=by grind
 unfold Dz Box.four;simp [Gv,JR,e,f,g,h]
theorem Ov {x:Box}(e:x.a=x.b)(h:x.c < x.d):Dz x=[(x.a,x.c),(x.a,x.d)]:=by
 have f:x.d≠x.c:=by grind
 have g:x.c≠x.d:=by grind
 unfold Dz Box.four;simp [Gv,JR,<- e,f,g]
theorem Nz {x:Box}(h:x.a < x.b)(e:x.c=x.d):Dz x=[(x.a,x.c),(x.b,x.c)]:=by
 have f:x.b≠x.a:=by grind
 have g:x.a≠x.b:=by grind
 unfold Dz Box.four;simp [Gv,JR,<- e,f,g]
theorem O1 {x:Box}(e:x.a=x.b)(f:x.c=x.d):Dz x=[(x.a,x.c)]:=by
 unfold Dz Box.four;simp [Gv,JR,<- e,<- f]
theorem Box.cases {x:Box}(h:x.ok):(x.a < x.b/\x.c < x.d)\/(x.a=x.b/\x.c < x.d)\/(x.a < x.b/\x.c=x.d)\/(x.a=x.b/\x.c=x.d):=by
 have:=h.h;have:=h.s;rcases (show x.a < x.b\/x.a=x.b by grind) with a | a<;>rcases (show x.c < x.d\/x.c=x.d by grind) with b | b
 ·exact .inl ⟨a,b⟩
 ·exact .inr (.inr (.inl ⟨a,b⟩))
 ·exact .inr (.inl ⟨a,b⟩)
 ·exact .inr (.inr (.inr ⟨a,b⟩))
theorem Fi {k z:Rat}(a:0 < k):0<=k * z↔0<=z:=by
 constructor
 ·intro h;rcases (show 0<=z\/z < 0 by grind) with c | c
  ·exact c
  ·have:=WA a (show 0 < -z by grind)
   grind
 ·intro h;exact ZR (by grind) h
theorem AY5 {x:Box}(h:x.ok):ES (Dz x):=by
 rcases Box.cases h with ⟨e,f⟩ | ⟨e,f⟩ | ⟨e,f⟩ | ⟨e,f⟩
 ·rw [Ol e f];have l:x.b≠x.a:=by grind
  have m:x.d≠x.c:=by grind
  have n:x.a≠x.b:=by grind
  have o:x.c≠x.d:=by grind
  have p:=WA (show 0 < x.b - x.a by grind) (show 0 < x.d - x.c by grind)
  refine ⟨by simp [JR,l,m,n,o],λ y g z i j k=>?_⟩
  have g:y∈[((x.a,x.d),(x.a,x.c)),((x.a,x.c),(x.b,x.c)),((x.b,x.c),(x.b,x.d)),((x.b,x.d),(x.a,x.d))]:=g;simp only [X2,YN,or_false] at g i;unfold Aq;rcases g with rfl | rfl | rfl | rfl<;>rcases i with rfl | rfl | rfl | rfl<;>dsimp only at j k ⊢<;>first | exact absurd rfl j | exact absurd rfl k | grind
 ·rw [Ov e f];exact ES.two (by rw [Ne,JR];grind)
 ·rw [Nz e f];exact ES.two (by rw [Ne,JR];grind)
 ·rw [O1 e f];exact ES.one _
theorem QJ {t:Rat}{p q r:Ab}:r=Bb t p q↔r.1=p.1+t * (q.1 - p.1)/\r.2=p.2+t * (q.2 - p.2):=by
 unfold Bb;rw [Prod.ext_iff]
theorem Ac4 {x:Box}(h:x.ok)(r:Ab):InP (Dz x) r↔x.has r:=by
 unfold Box.has;rcases Box.cases h with ⟨g,i⟩ | ⟨g,i⟩ | ⟨g,i⟩ | ⟨g,i⟩
 ·rw [Ol g i];have j:∀y,y∈BZ [(x.a,x.c),(x.b,x.c),(x.b,x.d),(x.a,x.d)]↔(y=((x.a,x.d),(x.a,x.c))\/y=((x.a,x.c),(x.b,x.c))\/y=((x.b,x.c),(x.b,x.d))\/y=((x.b,x.d),(x.a,x.d))):=λ y=>by
   show y∈[((x.a,x.d),(x.a,x.c)),((x.a,x.c),(x.b,x.c)),((x.b,x.c),(x.b,x.d)),((x.b,x.d),(x.a,x.d))]↔_;simp
  rw [InP.three (by simp)]
  have o:0 < x.b - x.a:=by grind
  have f:0 < x.d - x.c:=by grind
  have t1:Aq (x.a,x.d) (x.a,x.c) r=(x.d - x.c) * (r.1 - x.a):=by unfold Aq;grind
  have t2:Aq (x.a,x.c) (x.b,x.c) r=(x.b - x.a) * (r.2 - x.c):=by unfold Aq;grind
  have t3:Aq (x.b,x.c) (x.b,x.d) r=(x.d - x.c) * (x.b - r.1):=by unfold Aq;grind
  have t4:Aq (x.b,x.d) (x.a,x.d) r=(x.b - x.a) * (x.d - r.2):=by unfold Aq;grind
  constructor
  ·intro q;have k:=q _ ((j _).mpr (.inl rfl));have l:=q _ ((j _).mpr (.inr (.inl rfl)));have m:=q _ ((j _).mpr (.inr (.inr (.inl rfl))));have n:=q _ ((j _).mpr (.inr (.inr (.inr rfl))));dsimp only at k l m n
   rw [t1,Fi f] at k;rw [t2,Fi o] at l;rw [t3,Fi f] at m;rw [t4,Fi o] at n
   grind
  ·rintro ⟨k,l,m,n⟩ y s
   rcases (j y).mp s with rfl | rfl | rfl | rfl<;>dsimp only
   ·rw [t1,Fi f];grind
   ·rw [t2,Fi o];grind
   ·rw [t3,Fi f];grind
   ·rw [t4,Fi o];grind
 ·rw [Ov g i];show (∃t,0<=t/\t<=1/\r=Bb t (x.a,x.c) (x.a,x.d))↔_;have f:0 < x.d - x.c:=by grind
  constructor
  ·rintro ⟨t,p,t1,e⟩
   rw [QJ] at e;dsimp only at e
   have:=ZR p (show 0<=x.d - x.c by grind)
   have:=ZR (show 0<=1 - t by grind) (show 0<=x.d - x.c by grind)
   grind
  ·rintro ⟨k,l,m,n⟩
   have e:(r.2 - x.c) / (x.d - x.c) * (x.d - x.c)=r.2 - x.c:=Ii f;refine ⟨(r.2 - x.c) / (x.d - x.c),?_,?_,?_⟩
   ·rw [<- Fi f];grind
   ·have:0<=1 - (r.2 - x.c) / (x.d - x.c):=by rw [<- Fi f];grind
    grind
   ·rw [QJ];dsimp only;grind
 ·rw [Nz g i];show (∃t,0<=t/\t<=1/\r=Bb t (x.a,x.c) (x.b,x.c))↔_;have f:0 < x.b - x.a:=by grind
  constructor
  ·rintro ⟨t,p,t1,e⟩
   rw [QJ] at e;dsimp only at e
   have:=ZR p (show 0<=x.b - x.a by grind)
   have:=ZR (show 0<=1 - t by grind) (show 0<=x.b - x.a by grind)
   grind
  ·rintro ⟨k,l,m,n⟩
   have e:(r.1 - x.a) / (x.b - x.a) * (x.b - x.a)=r.1 - x.a:=Ii f;refine ⟨(r.1 - x.a) / (x.b - x.a),?_,?_,?_⟩
   ·rw [<- Fi f];grind
   ·have:0<=1 - (r.1 - x.a) / (x.b - x.a):=by rw [<- Fi f];grind
    grind
   ·rw [QJ];dsimp only;grind
 ·rw [O1 g i];show r=(x.a,x.c)↔_;rw [Prod.ext_iff];dsimp only
  grind
structure Box.bd (n:Nat)(x:Box):Prop where
 a:Bd n x.a
 b:Bd n x.b
 c:Bd n x.c
 d:Bd n x.d
theorem Fx (q:Rat):(q.den:Rat) * q=(q.num:Rat):=by
 have h:q=(q.num:Rat) / (q.den:Rat):=by rw [<- XI,<- JU];exact (xD q).symm
 have d:(q.den:Rat)≠0:=λ z=>q.den_nz (by exact_mod_cast z)
 generalize (q.num:Rat)=a at *;generalize (q.den:Rat)=b at *
 grind
theorem Nv {a:Nat}{p q:Rat}(b:Bd a p)(c:Bd a q)(f:0 < a):Two a (p,q):=by
 have z:(0:Int).natAbs < 2 ^ a:=by show 0 < 2 ^ a;exact FX a
 refine ⟨(p.den:Int),0,-p.num,0,(q.den:Int),-q.num,⟨b.d,z,by rw [Jf];exact b.n⟩,⟨z,c.d,by rw [Jf];exact c.n⟩,?_,?_,?_⟩
 ·have g:=p.den_nz;have h:=q.den_nz;rw [Int.zero_mul,Int.sub_zero];intro e;rcases Int.mul_eq_zero.mp e with e | e<;>omega
 ·unfold Ep;have:=Fx p;simp only [XI,JA,wC]
  grind
 ·unfold Ep;have:=Fx q;simp only [XI,JA,wC]
  grind
theorem Tw {a:Nat}{p u v:Rat}(b:Bd a p):OnL a (p,u) (p,v):=by
 have z:(0:Int).natAbs < 2 ^ a:=by show 0 < 2 ^ a;exact FX a
 have:=Fx p;have c:=p.den_nz;refine ⟨(p.den:Int),0,-p.num,⟨b.d,z,by rw [Jf];exact b.n⟩,.inl (by omega),?_,?_⟩<;>
 ·unfold Ep;simp only [XI,JA,wC]
  grind
theorem VP {a:Nat}{p u v:Rat}(b:Bd a p):OnL a (u,p) (v,p):=by
 have z:(0:Int).natAbs < 2 ^ a:=by show 0 < 2 ^ a;exact FX a
 have:=Fx p;have c:=p.den_nz;refine ⟨0,(p.den:Int),-p.num,⟨z,b.d,by rw [Jf];exact b.n⟩,.inr (by omega),?_,?_⟩<;>
 ·unfold Ep;simp only [XI,JA,wC]
  grind
theorem uU {k:Nat}{x:Box}(h:x.ok)(b:x.bd k)(g:0 < k):PolB k (Dz x):=by
 have c1:=Nv b.a b.c g;have l:=Nv b.b b.c g;have n:=Nv b.b b.d g;have m:=Nv b.a b.d g;rcases Box.cases h with ⟨e,f⟩ | ⟨e,f⟩ | ⟨e,f⟩ | ⟨e,f⟩
 ·rw [Ol e f];refine ⟨λ p j=>?_,λ y i=>?_⟩
  ·simp only [X2,YN,or_false] at j;rcases j with rfl | rfl | rfl | rfl<;>assumption
  ·have i:y∈[((x.a,x.d),(x.a,x.c)),((x.a,x.c),(x.b,x.c)),((x.b,x.c),(x.b,x.d)),((x.b,x.d),(x.a,x.d))]:=i;simp only [X2,YN,or_false] at i;rcases i with rfl | rfl | rfl | rfl
   ·exact Tw b.a
   ·exact VP b.c
   ·exact Tw b.b
   ·exact VP b.d
 ·rw [Ov e f];exact PolB.pair c1 m (Tw b.a)
 ·rw [Nz e f];exact PolB.pair c1 l (VP b.c)
 ·rw [O1 e f];exact PolB.one c1
theorem Ae3 {x:Box}(h:x.ok):(Dz x).length<=4:=by
 rcases Box.cases h with ⟨a,b⟩ | ⟨a,b⟩ | ⟨a,b⟩ | ⟨a,b⟩
 ·rw [Ol a b];show 4<=4;decide
 ·rw [Ov a b];show 2<=4;decide
 ·rw [Nz a b];show 2<=4;decide
 ·rw [O1 a b];show 1<=4;decide
theorem zL {n M:Nat}{a b c:Rat}(e:Bd n a)(f:Bd n b)(g:Bd M c):EdB (2 * n+M) (a,b,c):=by
 have i:=a.den_nz;have j:=b.den_nz;have k:=c.den_nz;have e1:=Fx a;have e2:=Fx b;have t:=Fx c;have h:∀{x y z p q r:Nat},x < 2 ^ p->y < 2 ^ q->z < 2 ^ r->x * y * z < 2 ^ (p+q+r):=λ {x y z p q r} l m o=>by
  rw [NC,NC];have s:x * y < 2 ^ p * 2 ^ q:=ww l m;exact ww s o
 have u:(a.den:Rat)≠0:=λ z=>i (by exact_mod_cast z)
 have v:(b.den:Rat)≠0:=λ z=>j (by exact_mod_cast z)
 have w:(c.den:Rat)≠0:=λ z=>k (by exact_mod_cast z)
 refine ⟨a.num * (b.den:Int) * (c.den:Int),(a.den:Int) * b.num * (c.den:Int),(a.den:Int) * (b.den:Int) * c.num,1 / ((a.den:Rat) * (b.den:Rat) * (c.den:Rat)),⟨?_,?_,?_⟩,?_,?_,?_,?_⟩
 ·rw [WH,WH,YV,YV,show 2 * n+M=n+n+M by omega]
  exact h e.n f.d g.d
 ·rw [WH,WH,YV,YV,show 2 * n+M=n+n+M by omega]
  exact h e.d f.n g.d
 ·rw [WH,WH,YV,YV,show 2 * n+M=n+n+M by omega]
  exact h e.d f.d g.n
 ·grind
 ·simp only [Yb,XI]
  grind
 ·simp only [Yb,XI]
  grind
 ·simp only [Yb,XI]
  grind
end Op
namespace Lib
open PySem L2 Fr Op
def J8 (e:Be):U2:=.tuple [Aj e.1,Aj e.2.1,Aj e.2.2]
def Jp (x:Box):U2:=.tuple [Aj x.a,Aj x.b,Aj x.c,Aj x.d]
def JT (cs:List Ab):U2:=.list (cs.map BX)
def HJ (l:Lim):Be:=(l.a,l.b,0 - l.lo)
def Ik (l:Lim):Be:=(0 - l.a,0 - l.b,l.hi)
structure LimB (n M:Nat)(l:Lim):Prop where
 a:Bd n l.a
 b:Bd n l.b
 lo:Bd M l.lo
 hi:Bd M l.hi
 z:l.a=0->l.b≠0
structure EdS (n M:Nat)(e:Be):Prop where
 a:Bd n e.1
 b:Bd n e.2.1
 c:Bd M e.2.2
 z:e.1≠0\/e.2.1≠0
theorem Rc (q:Rat):0 - q=-q:=by grind
theorem LimB.up {n M:Nat}{l:Lim}(h:LimB n M l):EdS n M (HJ l):=by
 refine ⟨h.a,h.b,?_,?_⟩
 ·show Bd M (0 - l.lo);rw [Rc];exact h.lo.neg
 ·show l.a≠0\/l.b≠0;by_cases z:l.a=0
  ·exact .inr (h.z z)
  ·exact .inl z
theorem LimB.dn {n M:Nat}{l:Lim}(h:LimB n M l):EdS n M (Ik l):=by
 refine ⟨?_,?_,h.hi,?_⟩
 ·show Bd n (0 - l.a);rw [Rc];exact h.a.neg
 ·show Bd n (0 - l.b);rw [Rc];exact h.b.neg
 ·show 0 - l.a≠0\/0 - l.b≠0;by_cases z:l.a=0
  ·right
   have:=h.z z
   grind
  ·left
   grind
theorem EdS.edb {n M:Nat}{e:Be}(h:EdS n M e):EdB (2 * n+M) e:=zL h.a h.b h.c
structure Poly (L k:Nat)(ps:List Ab):Prop where
 es:ES ps
 pb:PolB L ps
 len:ps.length<=k
theorem Poly.cut {n M k:Nat}{e:Be}{ps:List Ab}(h:Poly (2 * n+M) k ps)(a:EdS n M e):Poly (2 * n+M) (k+1) (De e ps):=
 ⟨(RW h.es a.z).1,AM3 h.es h.pb a.edb a.z,Zo (AX6 h.es a.z) (US h.len 1)⟩
theorem Poly.rb {b k:Nat}{ps:List Ab}(h:Poly b k ps):∀p∈ps,RB (2 * b+1) p:=λ p a=>(h.pb.two p a).rb
theorem Poly.rn {b k:Nat}{ps:List Ab}(h:Poly b k ps):∀p∈ps,Rn (2 * b+1) p:=λ p a=>⟨(h.rb p a).y,(h.rb p a).u⟩
def Hu (ps:List Ab)(l:Lim):List Ab:=De (Ik l) (De (HJ l) ps)
def wj (ps:List Ab)(l:Lim):Nat->List Ab
 | 0=>ps
 | 1=>De (HJ l) ps
 | _=>Hu ps l
def Gx (ls:List Lim)(ps:List Ab):List Ab:=ls.foldl Hu ps
def Ds (ls:List Lim)(x:Box):List Ab:=Hr (Gx ls (Dz x))
theorem AM8 {ls:List Lim}{i:Nat}{l:Lim}(h:ls[i]?=some l)(ps:List Ab):Gx (ls.take (i+1)) ps=Hu (Gx (ls.take i) ps) l:=by
 unfold Gx;rw [Xe,h];show (ls.take i++[l]).foldl Hu ps=_;rw [wh];rfl
theorem Poly.lim {n M k:Nat}{l:Lim}{ps:List Ab}(h:Poly (2 * n+M) k ps)(hl:LimB n M l):Poly (2 * n+M) (k+2) (Hu ps l):=(h.cut hl.up).cut hl.dn
theorem Poly.all {n M:Nat}:∀(ls:List Lim) {k:Nat} {ps:List Ab},Poly (2 * n+M) k ps->(∀l∈ls,LimB n M l)->Poly (2 * n+M) (k+2 * ls.length) (Gx ls ps)
 | [],k,ps,h,_=>h
 | l::ls,k,ps,h,hl=>by
  have:=Poly.all ls (h.lim (hl l U1)) (λ x a=>hl x (Y9 _ a))
  rw [X9,show k+2 * (ls.length+1)=k+2+2 * ls.length by omega]
  exact this
theorem TX {a:Nat}{x:Box}(h:x.ok)(b:x.bd a)(c:0 < a):Poly a 4 (Dz x):=⟨AY5 h,uU h b c,Ae3 h⟩
theorem yu {ps:List Ab}{l:Lim}(h:ES ps)(z:l.a=0->l.b≠0)(r:Ab):InP (Hu ps l) r↔InP ps r/\l.bad r=false:=by
 have e:(HJ l).1≠0\/(HJ l).2.1≠0:=by
  show l.a≠0\/l.b≠0;by_cases c:l.a=0
  ·exact .inr (z c)
  ·exact .inl c
 have f:(Ik l).1≠0\/(Ik l).2.1≠0:=by
  show 0 - l.a≠0\/0 - l.b≠0;rcases e with c | c
  ·left;have c:l.a≠0:=c;grind
  ·right;have c:l.b≠0:=c;grind
 obtain ⟨es,g⟩:=RW h e;obtain ⟨_,i⟩:=RW es f;unfold Hu;rw [i,g,and_assoc];have e1:Af (HJ l) r=l.a * r.1+l.b * r.2+(0 - l.lo):=rfl;have e2:Af (Ik l) r=(0 - l.a) * r.1+(0 - l.b) * r.2+l.hi:=rfl;rw [e1,e2];unfold Lim.bad;rw [ND,decide_eq_false_iff_not,decide_eq_false_iff_not]
 constructor
 ·rintro ⟨d,j,k⟩;exact ⟨d,by grind,by grind⟩
 ·rintro ⟨d,j,k⟩;exact ⟨d,by grind,by grind⟩
theorem gJ {n M:Nat}(r:Ab):∀(ls:List Lim) {k:Nat} {ps:List Ab},Poly (2 * n+M) k ps->(∀l∈ls,LimB n M l)->(InP (Gx ls ps) r↔InP ps r/\∀l∈ls,l.bad r=false)
 | [],k,ps,h,_=>by
  show InP ps r↔_;simp
 | l::ls,k,ps,h,hl=>by
  have a:=hl l U1;have:=gJ r ls (h.lim a) (λ x b=>hl x (Y9 _ b))
  show InP (Gx ls (Hu ps l)) r↔_;rw [this,yu h.es a.z];simp [and_assoc]
theorem Vb (r:Ab):∀ls:List Lim,JK ls r=none↔∀l∈ls,l.bad r=false
 | []=>by simp [JK]
 | l::ls=>by
  rw [JK];by_cases c:l.bad r=true
  ·rw [if_pos c];simp [c]
  ·rw [if_neg c,Vb r ls];simp [c]
structure FieldOk (n M:Nat)(ls:List Lim)(x:Box):Prop where
 ok:x.ok
 bd:x.bd (2 * n+M)
 pos:0 < 2 * n+M
 lim:∀l∈ls,LimB n M l
theorem FieldOk.poly {n M:Nat}{ls:List Lim}{x:Box}(h:FieldOk n M ls x):Poly (2 * n+M) (4+2 * ls.length) (Ds ls x):=by
 have p:=Poly.all ls (TX h.ok h.bd h.pos) h.lim;exact ⟨uy p.es,AN2 p.pb,by unfold Ds;rw [AH0];exact p.len⟩
theorem FieldOk.in {n M:Nat}{ls:List Lim}{x:Box}(h:FieldOk n M ls x)(r:Ab):InP (Ds ls x) r↔x.has r/\∀l∈ls,l.bad r=false:=by
 unfold Ds;rw [wB,gJ r ls (TX h.ok h.bd h.pos) h.lim,Ac4 h.ok]
def _root_.Op.Pc.fd (m M:Nat):Pc->Prop
 | .gap d=>Bd m d
 | .glass d=>Bd m d
 | .stop lo hi=>Bd M lo/\Bd M hi
theorem jR {m M n:Nat}{r:Ab}:∀{p:Pc},p.fd m M->RB n r->RB (n+m+1) (p.bent r)
 | .gap _,b,h=>Rb.gap h b
 | .glass _,b,h=>Rb.glass h b
 | .stop _ _,_,h=>Rb.mono h (by omega)
theorem bY {m M:Nat}:∀(ps:List Pc) (i n:Nat) (h s:Ab),(∀p∈ps,p.fd m M)->RB n h->RB n s->h.1 * s.2 - s.1 * h.2=1->∀l∈En i ps h s,LimB (n+(ps.length - 1) * (m+1)) M l
 | [],i,n,h,s,_,_,_,_=>λ l hl=>nomatch hl
 | p::ps,i,n,h,s,k,o,r,t=>λ l hl=>by
  have c:=k p U1;rcases YE.mp hl with f | f
  ·cases p with
   | gap d=>cases f
   | glass d=>cases f
   | stop lo hi=>
    have c:Bd M lo/\Bd M hi:=c;cases W1.mp f
    refine ⟨o.y.mono (by omega),r.y.mono (by omega),c.1,c.2,λ g j=>?_⟩
    have g:h.1=0:=g;have j:s.1=0:=j;rw [g,j] at t
    grind
  ·have:=bY ps (i+1) (n+m+1) (p.bent h) (p.bent s) (λ q u=>k q (Y9 _ u)) (jR c o) (jR c r) (by rw [WY];exact t) l f
   have e:n+m+1+(ps.length - 1) * (m+1)<=n+((p::ps).length - 1) * (m+1):=by
    rw [X9,qr];cases ps with
    | nil=>cases f
    | cons q qs=>rw [X9,qr,zj];omega
   exact ⟨this.a.mono e,this.b.mono e,this.lo,this.hi,this.z⟩
theorem AU3 {m M:Nat}{ps:List Pc}(a:∀p∈ps,p.fd m M):∀l∈Bg ps,LimB (2+(ps.length - 1) * (m+1)) M l:=bY ps 0 2 e1 e2 a Rx Y6 (by show (1:Rat) * 1 - 0 * 0=1;grind)
theorem LimB.mono {n M c d:Nat}{l:Lim}(h:LimB n M l)(e:n<=c)(f:M<=d):LimB c d l:=⟨h.a.mono e,h.b.mono e,h.lo.mono f,h.hi.mono f,h.z⟩
theorem jF (x y:Rat):x.num * y.num < 0↔x * y < 0:=by
 have b:=Fx x;have d:=Fx y;have f:(0:Rat) < (x.den:Rat):=by
  have:=x.den_pos
  exact_mod_cast this
 have g:(0:Rat) < (y.den:Rat):=by
  have:=y.den_pos
  exact_mod_cast this
 have e:((x.num * y.num:Int):Rat)=((x.den:Rat) * (y.den:Rat)) * (x * y):=by
  rw [Yb,<- b,<- d];grind
 have c:(((x.num * y.num:Int):Rat) < ((0:Int):Rat))↔x.num * y.num < 0:=Rat.intCast_lt_intCast;rw [<- c,e];have a:=WA f g;generalize (x.den:Rat) * (y.den:Rat)=k at a ⊢;show k * (x * y) < 0↔x * y < 0;generalize x * y=z;have:=Fi (z:=z) a
 grind
theorem Jd (x:Rat):0<=x.num↔0<=x:=NF
def HN (e:Be)(a:List Ab)(x:Ab×Ab):List Ab:=(if Af e x.1 * Af e x.2 < 0/\Bo e x.1 x.2∉a then a++[Bo e x.1 x.2] else a)++(if 0<=Af e x.2 then [x.2] else [])
theorem dH (e:Be):∀(xs:List (Ab×Ab)) (a:List Ab),Eu e xs a=xs.foldl (HN e) a
 | [],a=>rfl
 | x::r,a=>by
  rw [Eu,dH e r];rfl
def Ge (e:Be)(ps:List Ab)(i:Nat):List Ab:=((BZ ps).take i).foldl (HN e) []
theorem uh (e:Be){ps:List Ab}{i:Nat}(h:i < ps.length):Ge e ps (i+1)=HN e (Ge e ps i) (Et ps i,Cg ps i):=by
 unfold Ge;rw [Xe,AZ4 h];show ((BZ ps).take i++[(Et ps i,Cg ps i)]).foldl (HN e) []=_;rw [wh];rfl
theorem xg (e:Be)(ps:List Ab):Ge e ps ps.length=De e ps:=by
 unfold Ge De;rw [dH,<- Af2,YU]
theorem Ad9 (e:Be)(a:List Ab)(x:Ab×Ab):(HN e a x).length<=a.length+2:=by
 unfold HN;rw [X1];have b:(if Af e x.1 * Af e x.2 < 0/\Bo e x.1 x.2∉a then a++[Bo e x.1 x.2] else a).length<=a.length+1:=by
  split
  ·rw [X1];simp
  ·omega
 have c:(if 0<=Af e x.2 then [x.2] else []).length<=1:=by
  split
  ·simp
  ·simp
 omega
theorem jl (e:Be):∀(xs:List (Ab×Ab)) (a:List Ab),(xs.foldl (HN e) a).length<=a.length+2 * xs.length
 | [],a=>by simp
 | x::r,a=>by
  have:=jl e r (HN e a x);have b:=Ad9 e a x;rw [List.foldl_cons,X9];omega
theorem AJ4 (e:Be)(ps:List Ab)(i:Nat):(Ge e ps i).length<=2 * i:=by
 have h:=jl e ((BZ ps).take i) [];have a:((BZ ps).take i).length<=i:=by rw [YR];omega
 simp only [YG] at h;unfold Ge;omega
def FN (cs:List Ab)(i:Nat):List Ab:=(cs.take i).foldl (λ a c=>if c∈a then a else a++[c]) []
theorem o7:∀(cs a:List Ab),Gv cs a=cs.foldl (λ a c=>if c∈a then a else a++[c]) a
 | [],a=>rfl
 | c::cs,a=>by rw [Gv,o7 cs];rfl
theorem Xn {cs:List Ab}{i:Nat}{c:Ab}(h:cs[i]?=some c):FN cs (i+1)=if c∈FN cs i then FN cs i else FN cs i++[c]:=by
 unfold FN;rw [Xe,h];show (cs.take i++[c]).foldl _ []=_;rw [wh];rfl
theorem AG3 (cs:List Ab):FN cs cs.length=Gv cs []:=by
 unfold FN;rw [o7,YU]
theorem aR (cs:List Ab):∀i,(FN cs i).length<=i
 | 0=>by simp [FN]
 | i+1=>by
  have a:=aR cs i;cases h:cs[i]? with
  | none=>
   unfold FN at a ⊢;rw [Xe,h];simp only [Option.toList,YY];omega
  | some c=>
   rw [Xn h]
   split
   ·omega
   ·rw [X1];simp;omega
theorem cM (cs:List Ab)(r:Ab):cs.any (λ c=>decide (c=r))=decide (r∈cs):=by
 rw [yk,List.any_eq_true,decide_eq_true_iff]
 constructor
 ·rintro ⟨c,a,e⟩
  rw [decide_eq_true_iff] at e;exact e▸a
 ·intro h;exact ⟨r,h,by simp⟩
inductive mZ (ds:List U2)(d:U2):Prop | mk:∀p q,(ds=[Aj p,Aj q])->(Sm p)->(Sm q)->(p<=q)->(d=.bool true)->mZ ds d
inductive nU (ds:List U2)(d:U2):Prop | mk:∀x n,(ds=[Jp x])->(x.ok)->(x.bd n)->(n<=4000)->(d=.bool true)->nU ds d
inductive dU (ds:List U2)(d:U2):Prop | mk:∀x n,(ds=[Jp x])->(x.ok)->(x.bd n)->(n<=4000)->(d=.none)->dU ds d
inductive dY (ds:List U2)(d:U2):Prop | mk:∀x,(ds=[Jp x])->(d=JT (Dz x))->dY ds d
inductive du (ds:List U2)(d:U2):Prop | mk:∀l n M,(ds=[FQ l])->(LimB n M l)->(n<=4000)->(M<=4000)->(d=.list [J8 (HJ l),J8 (Ik l)])->du ds d
inductive qN (ds:List U2)(d:U2):Prop | mk:∀e r n M c,(ds=[J8 e,BX r])->(EdS n M e)->(Rn c r)->(2 * (c+n)+M+2<=4000)->(d=Aj (Af e r))->qN ds d
inductive pN (ds:List U2)(d:U2):Prop | mk:∀p q x y c k,(ds=[BX p,BX q,Aj x,Aj y])->(Rn c p)->(Rn c q)->(Bd k x)->(Bd k y)->(x - y≠0)->(3 * k+2 * c+2<=4000)->(d=BX (Bb (x / (x - y)) p q))->pN ds d
inductive f9 (ds:List U2)(d:U2):Prop | mk:∀e ps n M c,(ds=[J8 e,JT ps])->(EdS n M e)->((∀p∈ps,Rn c p))->(3 * (2 * (c+n)+M+2)+2 * c+2<=4000)->(ps.length<=200)->(d=JT (De e ps))->f9 ds d
inductive dm (K:FrG)(vs:List V)(H:Hp)(Q:VK)(zz3:XK):Prop | mk:∀(v:V) (cs:List Ab) (n:Nat),(vs=[v])->(DV K H v (JT cs))->((∀c∈cs,Rn n c))->(n<=4000)->(cs.length<=200)->(∀l rs H',Same H H'->H l=none->H' l=some (.lst rs)->DVs K H' rs ((Hr cs).map BX)->Q (.ref l) H')->dm K vs H Q zz3
inductive ji (K:FrG)(vs:List V)(H:Hp)(Q:VK)(zz3:XK):Prop | mk:∀(v u:V) (ps:List Pc) (x:Box) (m n M:Nat),(vs=[v,u])->(DV K H v (Ec ps))->(DV K H u (Jp x))->(Good m ps)->(2+ps.length * (m+1)+m<=3900)->(FieldOk n M (Bg ps) x)->(38 * n+19 * M+16<=4000)->(∀l rs H',Same H H'->H l=none->H' l=some (.lst rs)->DVs K H' rs ((Ds (Bg ps) x).map BX)->Q (.ref l) H')->ji K vs H Q zz3
theorem DV.t4b {K:FrG}{H:Hp}{v:V}{x:Box}(h:DV K H v (Jp x)):∃a e f g i,v=.ref a/\SqT K H a [e,f,g,i]/\DV K H e (Aj x.a)/\DV K H f (Aj x.b)/\DV K H g (Aj x.c)/\DV K H i (Aj x.d):=by
 obtain ⟨a,xs,rfl,k,j⟩:=DV.tup_of h;obtain ⟨e,f,g,i,rfl,l,m,n,o⟩:=j.four;exact ⟨a,e,f,g,i,rfl,k,l,m,n,o⟩
theorem DV.t3e {K:FrG}{H:Hp}{v:V}{e:Be}(h:DV K H v (J8 e)):∃a x y z,v=.ref a/\SqT K H a [x,y,z]/\DV K H x (Aj e.1)/\DV K H y (Aj e.2.1)/\DV K H z (Aj e.2.2):=by
 obtain ⟨a,xs,rfl,c,b⟩:=DV.tup_of h;obtain ⟨x,y,z,rfl,d,f,g⟩:=b.three;exact ⟨a,x,y,z,rfl,c,d,f,g⟩
theorem aN {K:FrG}{H:Hp}{v:V}{q:Rat}(h:DV K H v (Aj q)):∃a,v=.ref a/\SqT K H a [.int q.num,.int (q.den:Int)]:=by
 obtain ⟨a,xs,rfl,c,b⟩:=DV.tup_of h;obtain ⟨x,y,rfl,d,e⟩:=b.two;obtain rfl:=d.int_of;obtain rfl:=e.int_of;exact ⟨a,rfl,c⟩
theorem X3 {K:FrG}{H:Hp}{a:List V}{ps:List Ab}{e:Be}(h:DVs K H a ((ps.map (Af e)).map Aj)){i:Nat}(hi:i < ps.length):∃v,a[i]?=some v/\DV K H v (Aj (Af e (Cg ps i))):=by
 have hl:=h.len;rw [Y2,Y2] at hl;obtain ⟨d,hd,hv⟩:=h.get (i:=i) (ZO (show i < a.length by omega))
 rw [ZN,ZN,ZO hi] at hd;have e1:Cg ps i=ps[i]:=SN (ZO hi);cases hd
 rw [e1];exact ⟨_,ZO (show i < a.length by omega),hv⟩
theorem zT {K:FrG}{H:Hp}{a:List V}{ps:List Ab}{e:Be}(h:DVs K H a ((ps.map (Af e)).map Aj)){i:Nat}(hi:i < ps.length):∃v,atI a ((i:Int) - 1)=some v/\DV K H v (Aj (Af e (Et ps i))):=by
 have hl:=h.len;rw [Y2,Y2] at hl;cases i with
 | zero=>
  obtain ⟨v,hv,hd⟩:=X3 h (i:=ps.length - 1) (by omega)
  refine ⟨v,?_,hd⟩;rw [show (((0:Nat):Int) - 1)=-1 from rfl]
  exact dG (by rw [hl];exact hv)
 | succ j=>
  obtain ⟨v,hv,hd⟩:=X3 h (i:=j) (by omega)
  refine ⟨v,?_,hd⟩;rw [show (((j+1:Nat):Int) - 1)=(j:Int) by omega]
  exact Bh hv
theorem AS5 {K:FrG}{H b:Hp}(s:Gd H b){a:Addr}{xs:List V}(h:SqT K H a xs):SqT K b a xs:=by
 rcases h with (h | ⟨o,h⟩) | h
 ·exact .inl (.inl ((s _ _).1 h))
 ·exact .inl (.inr ⟨o,(s _ _).2 o h⟩)
 ·exact .inr h
end Lib
namespace L2
open PySem PySem.Spec PyProof.Rows PySem.Builtin
end L2
namespace Lib
open PySem L2 Fr Op
theorem pZ {ps:List Pc}{x:Box}{n M:Nat}(h:FieldOk n M (Bg ps) x):(Ds (Bg ps) x).length<=4+2 * ps.length:=by
 have a:=h.poly.len;have b:=Yg ps 0 e1 e2;unfold Bg at a ⊢;omega
end Lib
namespace L2
open PySem PySem.Spec PyProof.Rows PySem.Builtin
end L2
namespace Op
open Fr
end Op
namespace Lib
open PySem L2 Fr Op
end Lib
namespace Op
open Fr
end Op
namespace Lib
open PySem L2 Fr Op
end Lib
namespace Op
open Fr
end Op
namespace Lib
open PySem L2 Fr Op
theorem lQ:∀(ps:List Pc) (i:Nat) (h s:Ab) (l:Lim),l∈En i ps h s->∃(k:Nat) (lo hi:Rat),ps[k]?=some (.stop lo hi)/\l=⟨i+k,(BV (ps.take k) h).1,(BV (ps.take k) s).1,lo,hi⟩
 | [],i,h,s,l,hl=>nomatch hl
 | p::ps,i,h,s,l,hl=>by
  rcases YE.mp (show l∈lim1 i p h s++En (i+1) ps (p.bent h) (p.bent s) from hl) with a | a
  ·cases p with
   | gap d=>cases a
   | glass d=>cases a
   | stop lo hi=>exact ⟨0,lo,hi,rfl,W1.mp a⟩
  ·obtain ⟨k,lo,hi,e1,e2⟩:=lQ ps (i+1) (p.bent h) (p.bent s) l a;refine ⟨k+1,lo,hi,e1,?_⟩;rw [e2,show i+1+k=i+(k+1) by omega]
   rfl
theorem rK {ps:List Pc}{l:Lim}(hl:l∈Bg ps):∃(k:Nat) (lo hi:Rat),ps[k]?=some (.stop lo hi)/\l=⟨k,(tabOf (ps.take k)).a,(tabOf (ps.take k)).b,lo,hi⟩:=by
 obtain ⟨k,lo,hi,e1,e2⟩:=lQ ps 0 Op.e1 Op.e2 l hl;rw [Nat.zero_add] at e2;exact ⟨k,lo,hi,e1,e2⟩
theorem uY (ps:List Pc):tabOf (Cj ps)=tabOf ps:=by
 unfold tabOf;rw [Nj,Nj]
theorem xP {m M:Nat}{ps:List Pc}(h:∀p∈ps,p.fd m M):Tq (1+ps.length * (m+2)) (tabOf ps):=by
 rw [<- uY];have a:∀p∈Cj ps,p.bd m:=λ p b=>by
  obtain ⟨c,e⟩:=UN.mp b;have:=h p c;cases p with
  | gap d=>exact this
  | glass d=>exact this
  | stop lo hi=>cases e
 exact (bJ a).mono (Nat.add_le_add_left (YP _ (yX _ _)) 1)
theorem AZ0 {k x y:Rat}(a:k≠0)(b:¬ y=0):x / y=(k * x) / (k * y):=by grind
theorem iG {a b lo h s:Rat}{n M m:Nat}{t:Tab}(o:Tq n t)(p:a=t.a)(q:b=t.b)(bl:Bd M lo)(d:Bd m h)(bs:Bd m s)(e:¬ a * s+b=0):Bd (n+M+2 * m+1) ((lo - a * h) / (a * s+b)):=by
 obtain ⟨N,A,r,C,R,u,v,f,w,L,O,e1,e2,P,Q⟩:=o.ex;rw [<- p] at e1;rw [<- q] at e2;have x:=AK4 u;have g:=Fx lo;have y:=Fx h;have ns:=Fx s;have dl:(lo.den:Rat)≠0:=λ z=>lo.den_nz (by exact_mod_cast z)
 have B:(h.den:Rat)≠0:=λ z=>h.den_nz (by exact_mod_cast z)
 have ds:(s.den:Rat)≠0:=λ z=>s.den_nz (by exact_mod_cast z)
 have i:(((lo.num * N * (h.den:Int) - A * h.num * (lo.den:Int)) * (s.den:Int):Int):Rat)=(lo.den:Rat) * (N:Rat) * (h.den:Rat) * (s.den:Rat) * (lo - a * h):=by
  rw [Yb,Rat.intCast_sub,Yb,Yb,Yb,Yb,XI,XI,XI,<- e1,<- g,<- y]
  grind
 have c:(((lo.den:Int) * (h.den:Int) * (A * s.num+r * (s.den:Int)):Int):Rat)=(lo.den:Rat) * (N:Rat) * (h.den:Rat) * (s.den:Rat) * (a * s+b):=by
  rw [Yb,Yb,xx,Yb,Yb,XI,XI,XI,<- e1,<- e2,<- ns]
  grind
 generalize D:(lo.num * N * (h.den:Int) - A * h.num * (lo.den:Int)) * (s.den:Int)=X at i;generalize E:(lo.den:Int) * (h.den:Int) * (A * s.num+r * (s.den:Int))=F at c;have j:(lo.den:Rat) * (N:Rat) * (h.den:Rat) * (s.den:Rat)≠0:=by
  intro z;rcases yv.mp z with z | z
  ·rcases yv.mp z with z | z
   ·rcases yv.mp z with z | z
    ·exact dl z
    ·exact x z
   ·exact B z
  ·exact ds z
 have G:F≠0:=λ z=>by
  rw [z] at c;have c:(0:Rat)=(lo.den:Rat) * (N:Rat) * (h.den:Rat) * (s.den:Rat) * (a * s+b):=c;rcases yv.mp c.symm with z | z
  ·exact j z
  ·exact e z
 have eq:(lo - a * h) / (a * s+b)=XB X F:=by
  rw [JU,i,c];exact AZ0 j e
 rw [eq];have H:(A * s.num).natAbs < 2 ^ (n+m):=Cr f bs.n;have I:(r * (s.den:Int)).natAbs < 2 ^ (n+m):=Cr w bs.dn;have J:(lo.num * N * (h.den:Int)).natAbs < 2 ^ (M+n+m):=Cr (Cr bl.n v) d.dn;have K:(A * h.num * (lo.den:Int)).natAbs < 2 ^ (M+n+m):=Y7 (Cr (Cr f d.n) bl.dn) (Cy (by omega))
 have k:X.natAbs < 2 ^ (n+M+2 * m+1):=by
  rw [<- D];refine Y7 (Cr (m:=M+n+m+1) (n:=m) ?_ bs.dn) (Cy (by omega))
  rw [jj];omega
 have l:F.natAbs < 2 ^ (n+M+2 * m+1):=by
  rw [<- E];refine Y7 (Cr (m:=M+m) (n:=n+m+1) (Cr bl.dn d.dn) ?_) (Cy (by omega))
  rw [jj];omega
 exact Bd.of G k l
theorem Ad3 {m M c:Nat}{ps:List Pc}{h s:Rat}(fd:∀p∈ps,p.fd m M)(b:Bd c h)(bs:Bd c s):∀q∈Ew (Bg ps) h s,Bd (1+(ps.length - 1) * (m+2)+M+2 * c+1) q:=λ q a=>by
 obtain ⟨l,hl,a⟩:=GW.mp a;obtain ⟨k,lo,hi,d,e⟩:=rK hl;have n:=CT d;have f:=fd _ (ZB d);have g:Tq (1+(ps.length - 1) * (m+2)) (tabOf (ps.take k)):=(xP (m:=m) (M:=M) λ p j=>fd p (ua j)).mono (by
  rw [YR];exact Nat.add_le_add_left (YP _ (by omega)) 1)
 split at a
 ·cases a
 ·rename_i i
  subst e;simp only [X2,YN,or_false] at a;rcases a with rfl | rfl
  ·exact iG g rfl rfl f.1 b bs i
  ·exact iG g rfl rfl f.2 b bs i
structure LpV (x:Lamp):Prop where
 h:Bd 12 x.h
 s:Bd 12 x.s
 f:Bd 160 x.f
 l:Bd 160 x.l
 o:¬ x.l < x.f
theorem KZ {t:Tab}{x:Lamp}(e:Tb 154 t)(f:LpV x):Bd 321 (spread t x.s).1/\Bd 321 (spread t x.s).2:=⟨((e.a.mul f.s).add e.b).mono (by decide),((e.c.mul f.s).add e.d).mono (by decide)⟩
theorem oK {t:Tab}{x:Lamp}(b:Tb 154 t)(a:LpV x):Bd 642 (growing t x):=((KZ b a).2.mul (a.l.sub a.f)).mono (by decide)
theorem lW {t:Tab}{x:Lamp}(a:Tb 154 t)(b:LpV x)(h:growing t x≠0):Bd 644 (mid t x.s):=by
 have c:(spread t x.s).2≠0:=λ z=>h (by unfold growing;rw [z,wm])
 exact ((Ff 1 (by decide)).sub ((KZ a b).1.div (KZ a b).2 c)).mono (by decide)
theorem o9 {t:Tab}{x:Lamp}{m:Rat}(a:Tb 154 t)(b:LpV x)(h:growing t x≠0)(c:Bd 40 m):Bd 682 (reach t x m):=(c.div (O9 (oK a b)) λ z=>h (ab_zero.mp z)).mono (by decide)
theorem AM0 {t:Tab}{x:Lamp}{T:Rat}{k:Nat}(b:Tb 154 t)(a:LpV x)(c:Bd k T):Bd (964+k) (Gf t x T):=by
 rw [mO];exact ((O9 ((KZ b a).1.add (c.mul (KZ b a).2))).mul (O9 (a.l.sub a.f))).mono (by omega)
inductive pM (ds:List U2)(d:U2):Prop | mk:∀ps x m,(ds=[Ec ps,pairD x.h x.s,pairD x.f x.l,Aj m])->(Good 18 ps)->(ps.length<=8)->(LpV x)->(0<=m)->(Bd 40 m)->(d=Zz (tabOf ps) x m)->pM ds d
end Lib
namespace L2
open PySem PySem.Spec PyProof.Rows PySem.Builtin PySem.Builtin.Str
theorem aj:∀{zs:List Str} {its:List Value},Vals (zs.map V.str) its->∃l:List (Str×Tok),strValues l=its/\l.map (·.1)=zs
 | [],_,.nil=>⟨[],rfl,rfl⟩
 | z::zs,_,.cons h r=>by
  obtain ⟨t,rfl⟩:=h;obtain ⟨l,a,b⟩:=aj r;exact ⟨(z,t)::l,by show _::strValues l=_;rw [a],by show z::_=_;rw [b]⟩
inductive rJoin (x:V)(vs:List V)(H:Hp)(Q:VK):Prop | mk:∀(sep:Str) (l:Addr) (zs:List Str),(x=.str sep)->(vs=[.ref l])->(H l=some (.lst (zs.map V.str)))->(JoinOk sep zs=true)->(Q (.str (ue sep zs)) H)->rJoin x vs H Q
theorem Kw {X:Cx}:MtM X "str.join" rJoin:=by
 intro a s j H x vs v us Q g b c h;obtain ⟨i,l,zs,rfl,rfl,d,ok,q⟩:=h;obtain ⟨t,rfl⟩:=b;obtain ⟨u,rfl,f⟩:=c.one;cases f
 obtain ⟨z,its,n,r,hl,e⟩:=g.lstM d;obtain ⟨ps,rfl,e2⟩:=aj r;exact SC.join ⟨_,e,rfl,_,rfl⟩ e2 ok λ t' k=>⟨.str _,H,g.tok _,⟨t',rfl⟩,q⟩
end L2
namespace L2
open PySem PySem.Spec PyProof.Rows PySem.Builtin
end L2
namespace Lib
open PySem L2 Fr Op
def letS:Str:="abcdefghijklmnopqrstuvwxyz"
def Lq (z:Str):Bool:=!(WF letS z 0 letS.length 1).isEmpty
def nameB (z:Str):Bool:=(decide (1<=z.length) && decide (z.length<=8)) && (QP z).all Lq
def Jw:U2->Bool
 | .str z=>nameB z
 | _=>false
theorem AW3 {d:U2}(h:Qe d=false):Jw d=false:=by
 cases d<;>first | rfl | cases h
def uN (d:U2):Prop:=∀z,d=.str z->z.length<=Y3
inductive mL (K:FrG)(vs:List V)(H:Hp)(Q:VK)(zz3:XK):Prop | mk:∀v d,(vs=[v])->(DV K H v d)->(uN d)->(∀H',Same H H'->Q (.bl (Jw d)) H')->mL K vs H Q zz3
theorem AZ2 {z:Str}(h:nameB z=true):z.length<=8:=by
 unfold nameB at h;rw [QM,QM] at h;exact of_decide_eq_true h.1.2
end Lib
namespace L2
open PySem PySem.Spec PyProof.Rows PySem.Builtin
end L2
namespace L2
open PySem PySem.Spec PyProof.Rows
end L2
namespace Lib
open PySem L2 Fr Op
theorem Ph (p:Pc):Gu (CV p)=true:=by cases p<;>rfl
structure Bx (K:FrG)(H1:Hp)(p:Addr)(ps:List Pc)(Hx:Hp):Prop where
 s:Same H1 Hx
 n:H1 p=none
 ex:∃xs,Hx p=some (.lst xs)/\DVs K Hx xs (ps.map CV)
theorem Px {a c:Hp}{p:Addr}(s:Same a c)(n:a p=none)(o:HO):Same a (upd c p o):=λ b u e=>by
 rw [BK (Bt e n)];exact s _ _ e
theorem Bx.more {K:FrG}{b a:Hp}{p:Addr}{ps qs:List Pc}{xs zs:List V}(s:Same b a)(n:b p=none)(c:a p=some (.lst xs))(d:DVs K a xs (ps.map CV))(e:DVs K a zs (qs.map CV)):Bx K b p (ps++qs) (upd a p (.lst (xs++zs))):=by
 refine ⟨Px s n _,n,xs++zs,Ar,?_⟩;rw [U4];exact Cv (HW c _) (by rw [<- U4];exact DY Ph _) (d.append e)
end Lib
namespace L2
open PySem PySem.Spec PyProof.Rows
structure TopFnA (K:FrG)(mg:Str->Option Value)(x nm:Str)(st:Stmt):Prop where
 ex:∃(f:Addr) (fd:UK),Fun K nm nm st f fd/\mg x=some (.ref f)
theorem Ob {K:FrG}{h:Heap}{mg:Str->Option Value}{x nm:Str}{st:Stmt}{f:Addr}{d:Value}{e g:Option Addr}{i:Array (Option Value)}{kV j m b ct:Value}(X:K.In h)(n:h.Ns Zq mg)
  (a:ZG K Zq x=some (some (.ref f))) (l:K.lookup f=some ⟨d,e,.func (YO nm nm (defArgs st) (defBody st) (defScope st) .none kV j m g b ct),i⟩) (c:Xm K b nm=true) (k:Ya K (.ref f)=true):TopFnA K mg x nm st:=
 ⟨f,_,Dq l c k,Za X n a⟩
theorem TopFnA.calB {c:Bool}{P:Yf}{w:World}{K:FrG}{mg:Str->Option Value}{base:Heap}{x nm:Str}{st:Stmt}{N ps:List Str}{k:Nat}{sp:Sp}(T:TopFnA K mg x nm st)(p:FnScope N ps (defScope st))
  (h:∀(kV d e:Value) (g:Option Addr) (a ct:Value) (us:List Value),us.length=ps.length->ul (YO nm nm (defArgs st) (defBody st) (defScope st) .none kV d e g a ct) ⟨us,[]⟩=pure (ps.zip us))
  (len:∀vs H Q E,sp vs H Q E->vs.length=ps.length)
  (b:∀(f:Addr) (a:Value) (A:WB) (outer:List Env) (s:W9) (H:Hp) (vs:List V) (Q:VK) (E:XK),RoomB c k (A.deeper (wo nm (defScope st) s.heap.objs.size f a))->sp vs H Q E->
   ∃t,PSs (Er c P w K mg base N nm (defScope st) f a A outer s H E) (defBody st) t/\t { nx:=λ _ i=>Q .non i,rt:=Q } (start N vs) H):CalB P w K mg base c (k+1) x ps sp:=by
 obtain ⟨f,fd,j,m⟩:=T.ex;obtain ⟨q,r,kV,d,e,g,a,ct,o,rfl,l,n⟩:=id j.ex;exact ⟨f,_,M5 l n p len (b f a),m,j.kp,j.binds h⟩
theorem TopFnA.calN {c:Bool}{P:Yf}{w:World}{K:FrG}{mg:Str->Option Value}{base:Heap}{x nm:Str}{st:Stmt}{N ps:List Str}{k:Nat}{sp:Sp}(T:TopFnA K mg x nm st)(o:FnScope N ps (defScope st))
  (e:∀(kV d g:Value) (i:Option Addr) (a ct:Value) (us:List Value),us.length=ps.length->ul (YO nm nm (defArgs st) (defBody st) (defScope st) .none kV d g i a ct) ⟨us,[]⟩=pure (ps.zip us))
  (len:∀vs H Q E,sp vs H Q E->vs.length=ps.length)
  (b:∀(f:Addr) (a:Value) (A:WB) (outer:List Env) (s:W9) (H:Hp) (vs:List V) (Q:VK) (E:XK),RoomB c k (A.deeper (wo nm (defScope st) s.heap.objs.size f a))->sp vs H Q E->
   ∃t,PSs (Er c P w K mg base N nm (defScope st) f a A outer s H E).nox (defBody st) t/\t { nx:=λ _ j=>Q .non j,rt:=Q } (start N vs) H):CalB P w K mg base c (k+1) x ps sp:=
 T.calB o e len λ f a A outer s H vs Q E l h=>by
  obtain ⟨t,m,n⟩:=b f a A outer s H vs Q E l h;exact ⟨t,m.nox,n⟩
abbrev AR9:Sp:=λ _ _ _ _=>False
theorem TopFn.not {P:Yf}{w:World}{K:FrG}{mg:Str->Option Value}{base:Heap}{x:Str}{st:Stmt}{N ps:List Str}{k:Nat}(T:TopFn K mg x st)(f:FnScope N ps (defScope st))
  (c:∀(kV a d:Value) (e:Option Addr) (b ct:Value) (us:List Value),us.length=ps.length->ul (YO x x (defArgs st) (defBody st) (defScope st) .none kV a d e b ct) ⟨us,[]⟩=pure (ps.zip us)):CalB P w K mg base true (k+1) x ps AR9:=
 T.calB f c (λ _ _ _ _ h=>h.elim) λ _ _ _ _ _ _ _ _ _ _ h=>h.elim
section
variable {X:Cx}{c:Bool}{k:Nat}{ps:List Str}{sp:Sp}{x:Str}{p pos cpos rpos:Pos}{e:Expr}{es:List Expr}{t:TA}{h0:ExceptHandler}{hs:List ExceptHandler}
theorem j6 (C:CalB X.prog X.w X.K X.mg X.base c k x ps sp)(j:RoomB c k X.A)(l:PA X.nox (e::es) t)(m:Gl X x:=by rfl)(b:(x == ("__debug__":Str))=false:=by decide)
  (n:XA (e::es) X.env=(false,eval e X.env)::XA es X.env:=by rfl) (d:(yY cpos (XA es X.env)).any (·.1)=false:=by rfl):
  PS X (.Try [.Return (some (.Call (.Name x p) (e::es) [] cpos)) rpos] (h0::hs) [] [] pos) (λ M a H=>t a H λ vs g=>sp (vs++[]) g M.rt E0):=by
 obtain ⟨f,fd,N,o,u,y⟩:=C.ex;intro B s a H M D h;refine wpAny_Try_except (Fk (wpAny_Return_some (QT (M9 D m o ?_ b))));refine yb (h₀:=X.base) D.ok.mod.kin u (thn (PA.any l cpos D h) λ us O ⟨vs,g,i,r,q⟩=>⟨i.kIn,?_⟩) n d
 refine thn (Rk N j y i r q λ e s' E=>?_) λ v P ⟨F,G,I,J,L⟩=>⟨F,a,G,I,J,L⟩
 obtain ⟨_,_,_,_,_,_,_,_,_,_,_,_,z⟩:=E;exact z.elim
end
inductive oG (x:V)(vs:List V)(H:Hp)(Q:VK):Prop | mk:∀i j,(x=.str i)->(vs=[.str j])->(Q (.bl (FO i j)) H)->oG x vs H Q
theorem Ag7 {X:Cx}:MtM X "str.endswith" oG:=by
 intro a s e H x vs v us Q f b c h;obtain ⟨i,j,rfl,rfl,q⟩:=h;obtain ⟨t,rfl⟩:=b;obtain ⟨u,rfl,d⟩:=c.one;obtain ⟨t',rfl⟩:=d;exact SC.endswith ⟨.bl _,H,f,rfl,q⟩
end L2
namespace L2
open PySem PySem.Spec PyProof.Rows PySem.Builtin PySem.Builtin.Str
end L2
namespace Tx
open PySem PySem.NumText PySem.Builtin.Str
def dz (m:Nat):List Nat:=if m=0 then [] else dg m
theorem dZ:∀d:Nat,d < 10->(Me d).toNat=48+d:=by decide
theorem eO {m:Nat}(h:0 < m):dz m=dz (m / 10)++[48+m % 10]:=by
 unfold dz;rw [if_neg (by omega)]
 by_cases a:m < 10
 ·rw [if_pos (by omega),dg,Fa a]
  show [(Me m).toNat]=_;rw [dZ m a,Nat.mod_eq_of_lt a];rfl
 ·rw [if_neg (by omega)]
  have b:m % 10 < 10:=MB m (by decide)
  have t:FI 10 (m / 10)++FI 10 (m % 10)=FI 10 (10 * (m / 10)+m % 10):=Nat.toDigits_append_toDigits (by decide) (by omega) b
  rw [Nat.div_add_mod] at t;unfold dg;rw [<- t,U4,Fa b];show _++[(Me (m % 10)).toNat]=_;rw [dZ _ b]
theorem zZ {m:Nat}(h:0 < m):dz m=dg m:=by
 unfold dz;rw [if_neg (by omega)]
end Tx
namespace Lib
open PySem L2 Tx PySem.NumText
end Lib
namespace Lib
end Lib
namespace L2
open PySem PySem.Spec PyProof.Rows
section
variable {X:Cx}
theorem eG:OpR X (yA .Mult) (λ x y H Q=>∃z n,x=.str z/\y=.int n/\PySem.MulOk z n/\Q (.str (NR z n)) H):=by
 intro a s c H x y v u Q d b ry h;obtain ⟨z,n,rfl,rfl,hok,q⟩:=h;obtain ⟨t,rfl⟩:=b;obtain ⟨t',rfl⟩:=ry;exact SB.mul hok λ t' k=>⟨.str _,H,d.tok _,⟨t',rfl⟩,q⟩
end
end L2
namespace Tx
open PySem PySem.NumText PySem.Builtin.Str
theorem sZ (q:Rat):∀c∈sh q,(48<=c/\c<=57)\/c=45\/c=47:=λ c a=>by
 unfold sh at a;rcases YE.mp a with a | a
 ·rcases YE.mp a with a | a
  ·split at a
   ·exact .inr (.inl (by simpa using a))
   ·cases a
  ·exact .inl (Gn _ _ a)
 ·split at a
  ·cases a
  ·rcases X2.mp a with rfl | a
   ·exact .inr (.inr rfl)
   ·exact .inl (Gn _ _ a)
end Tx
namespace Lib
open PySem L2 Tx PySem.NumText
end Lib
namespace Tx
open PySem PySem.Spec PySem.Builtin PySem.Builtin.Str L2 Lib Op
theorem Gi:Z3 " "=⟨#[32]⟩:=by decide+kernel
theorem qR:Z3 ";"=⟨#[59]⟩:=by decide+kernel
theorem Af3:Z3 "; "=⟨#[59,32]⟩:=by decide+kernel
theorem aM (x:Y1)(c:Nat):FO x ⟨#[c]⟩=decide ((cl x).getLast?=some c):=by
 obtain ⟨⟨l⟩⟩:=x;rcases wt l with rfl | ⟨r,a,b⟩
 ·rfl
 ·have e1:l=r++[a]:=by rw [b];simp
  subst e1;clear b;have hl:(r++[a]).toArray.size=r.length+1:=by simp
  show (decide (0+1<=(r++[a]).toArray.size) && ((r++[a]).toArray.extract ((r++[a]).toArray.size - 1) ((r++[a]).toArray.size - 1+1) == #[c]))=decide ((r++[a]).getLast?=some c);rw [hl,qr,UA];by_cases h:a=c
  ·subst h;simp
  ·simp [h]
theorem jO {f c:Nat->Option Nat}:∀{l:List Nat},(∀k∈l,f k=c k)->l.filterMap f=l.filterMap c
 | [],_=>rfl
 | a::l,h=>by
  rw [zA,zA,h a U1,jO λ k b=>h k (Y9 _ b)]
theorem AM4 (x:Y1):cl (Wt x none (some (-1)))=(cl x).dropLast:=by
 obtain ⟨⟨l⟩⟩:=x;rcases wt l with rfl | ⟨r,a,b⟩
 ·rfl
 ·have e1:l=r++[a]:=by rw [b];simp
  subst e1;clear b;have e:QI none (some (-1)) 1 (r.length+1)=Wc r.length:=by
   unfold QI sliceRange;simp only [show (1:Int) > 0 by decide,if_true]
   have c:max 0 (min (if (-1:Int) < 0 then -1+((r.length+1:Nat):Int) else -1) ((r.length+1:Nat):Int))=(r.length:Int):=by
    rw [if_pos (by decide)]
    omega
   rw [c];have d:(if (0:Int) < (r.length:Int) then ((r.length:Int) - 0+1 - 1) / 1 else 0).toNat=r.length:=by
    split<;>simp<;>omega
   rw [d];refine (zJ λ k _=>?_).trans (List.map_id _)
   simp
  have hl:(UC (r++[a]).toArray).length=r.length+1:=by
   show (r++[a]).toArray.size=_;simp
  show cl (Wt (UC (r++[a]).toArray) none (some (-1)))=(r++[a]).dropLast;unfold Wt;rw [hl,e];rw [if_neg (by simp)]
  show ((((Wc r.length)).filterMap (λ k=>(r++[a]).toArray[k]?)).toArray).toList=_
  rw [zI,NH];have e2:(Wc r.length).filterMap (λ k=>(r++[a]).toArray[k]?)=(Wc r.length).filterMap (λ k=>r[k]?):=by
   refine jO λ k f=>?_
   have:=List.mem_range.mp f;simp [UD this]
  rw [e2,Xf]
def wd:Pc->Y1
 | .gap _=>Z3 "gap"
 | .glass _=>Z3 "glass"
 | .stop _ _=>Z3 "stop"
def fracs:Pc->List Rat
 | .gap q=>[q]
 | .glass q=>[q]
 | .stop lo hi=>[lo,hi]
def toks (p:Pc):List Y1:=wd p::(fracs p).map Ay
def Eg:Pc->List Y1
 | .gap q=>[Z3 "gap",Ay q++⟨#[59]⟩]
 | .glass q=>[Z3 "glass",Ay q++⟨#[59]⟩]
 | .stop lo hi=>[Z3 "stop",Ay lo,Ay hi++⟨#[59]⟩]
def Dw:List Pc->List Y1
 | []=>[]
 | [p]=>toks p
 | p::q::r=>Eg p++Dw (q::r)
def FJ:List Pc->List Y1
 | []=>[]
 | [p]=>toks p
 | p::q::r=>toks p++Z3 ";"::FJ (q::r)
def FZ (p:Pc):Y1:=ue (Z3 " ") (toks p)
def Ed (ps:List Pc):Y1:=ue (Z3 "; ") (ps.map FZ)
theorem Uc:∀(q:Pc) (r:List Pc),∃t a,Dw (q::r)=t::a
 | .gap _,[]=>⟨_,_,rfl⟩
 | .glass _,[]=>⟨_,_,rfl⟩
 | .stop _ _,[]=>⟨_,_,rfl⟩
 | .gap _,_::_=>⟨_,_,rfl⟩
 | .glass _,_::_=>⟨_,_,rfl⟩
 | .stop _ _,_::_=>⟨_,_,rfl⟩
theorem Ek (a:Y1)(l:List Y1):ue a l=ZT a l:=StrLaws.glued_eq_join _ _
theorem Q5:∀(ps:List Pc),ps≠[]->Ed ps=ZT ⟨#[32]⟩ (Dw ps)
 | [],h=>absurd rfl h
 | [p],_=>by
  show ue _ [FZ p]=_;rw [Ek];show FZ p=_;unfold FZ;rw [Ek,Gi];rfl
 | p::q::r,_=>by
  have d:=Q5 (q::r) (by simp)
  obtain ⟨t,c,e⟩:=Uc q r;have e1:Ed (p::q::r)=FZ p++Z3 "; "++Ed (q::r):=by
   unfold Ed;rw [Ek,Ek];rfl
  rw [e1,d];show _=ZT ⟨#[32]⟩ (Eg p++Dw (q::r));rw [e]
  apply ext
  rw [Bv,Bv];unfold FZ;rw [Ek,Gi,Af3];have two:∀x y:Y1,ZT ⟨#[32]⟩ [x,y]=x++⟨#[32]⟩++y:=λ _ _=>rfl
  have three:∀x y z:Y1,ZT ⟨#[32]⟩ [x,y,z]=x++⟨#[32]⟩++(y++⟨#[32]⟩++z):=λ _ _ _=>rfl
  cases p with
  | gap a=>
   show cl (ZT ⟨#[32]⟩ [Z3 "gap",Ay a])++_++_=cl (Z3 "gap"++⟨#[32]⟩++((Ay a++⟨#[59]⟩)++⟨#[32]⟩++ZT ⟨#[32]⟩ (t::c)));rw [two];simp only [Bv,Xs];rfl
  | glass a=>
   show cl (ZT ⟨#[32]⟩ [Z3 "glass",Ay a])++_++_=cl (Z3 "glass"++⟨#[32]⟩++((Ay a++⟨#[59]⟩)++⟨#[32]⟩++ZT ⟨#[32]⟩ (t::c)));rw [two];simp only [Bv,Xs];rfl
  | stop a b=>
   show cl (ZT ⟨#[32]⟩ [Z3 "stop",Ay a,Ay b])++_++_=cl (Z3 "stop"++⟨#[32]⟩++(Ay a++⟨#[32]⟩++((Ay b++⟨#[59]⟩)++⟨#[32]⟩++ZT ⟨#[32]⟩ (t::c))));rw [three];simp only [Bv,Xs];rfl
theorem Gq (q:Rat)(c:Nat)(h:¬ ((48<=c/\c<=57)\/c=45\/c=47)):c∉cl (Ay q):=λ m=>h (sZ q c (by rw [<- JP];exact m))
theorem AT0:∀(ps:List Pc),∀t∈Dw ps,32∉cl t:=by
 have one:∀p:Pc,(∀t∈toks p,32∉cl t)/\∀t∈Eg p,32∉cl t:=by
  have e:∀q:Rat,32∉cl (Ay q++⟨#[59]⟩):=λ q m=>by
   rw [Bv] at m;rcases YE.mp m with m | m
   ·exact Gq q 32 (by omega) m
   ·exact absurd m (by decide)
  intro p;cases p<;>refine ⟨λ t a=>?_,λ t a=>?_⟩<;>simp only [toks,Eg,wd,fracs,YB,FG,X2,YN,or_false] at a
  all_goals first
   | (rcases a with rfl | rfl | rfl)
   | (rcases a with rfl | rfl)
  all_goals first
   | exact Gq _ 32 (by omega)
   | exact e _
   | decide+kernel
 intro ps
 induction ps with
 | nil=>intro t a;cases a
 | cons p r b=>
  cases r with
  | nil=>exact (one p).1
  | cons q r=>
   intro t a;rcases YE.mp (show t∈Eg p++Dw (q::r) from a) with h | h
   ·exact (one p).2 t h
   ·exact b t h
theorem QS:∀{a b:List Y1},a.map cl=b.map cl->a=b
 | [],[],_=>rfl
 | [],_::_,h=>by cases h
 | _::_,[],h=>by cases h
 | x::a,y::b,h=>by
  rw [YB,YB] at h;have c:=XP h;rw [ext c.1,QS c.2]
theorem yS {ps:List Pc}(h:ps≠[]):XG (Ed ps) (Z3 " ")=Dw ps:=by
 refine QS ?_;rw [Gi,JZ,Q5 ps h];refine M8 (λ e=>?_) (AT0 ps)
 cases ps with
 | nil=>exact h rfl
 | cons q r=>
  obtain ⟨t,b,a⟩:=Uc q r;rw [a] at e;cases e
def Ej (w:Y1):List Y1:=if FO w (Z3 ";")=true then [Wt w none (some (-1)),Z3 ";"] else [w]
def DP (a:List Y1):List Y1:=(a.map Ej).flatten
theorem Qw {w:Y1}(h:59∉cl w):Ej w=[w]:=by
 unfold Ej;rw [if_neg];rw [qR,aM,decide_eq_true_eq];intro e;exact h (uc e)
theorem AT5 (w:Y1):Ej (w++⟨#[59]⟩)=[w,Z3 ";"]:=by
 have e:cl (w++⟨#[59]⟩)=cl w++[59]:=Bv _ _;unfold Ej;rw [if_pos]
 ·have:Wt (w++⟨#[59]⟩) none (some (-1))=w:=ext (by rw [AM4,e,NH])
  rw [this]
 ·rw [qR,aM,e,UA];exact decide_eq_true rfl
theorem tD:∀(ps:List Pc),ps≠[]->DP (Dw ps)=FJ ps:=by
 have c:Ej (Z3 "gap")=[Z3 "gap"]:=Qw (by decide+kernel)
 have a:Ej (Z3 "glass")=[Z3 "glass"]:=Qw (by decide+kernel)
 have st:Ej (Z3 "stop")=[Z3 "stop"]:=Qw (by decide+kernel)
 have s:∀q:Rat,Ej (Ay q)=[Ay q]:=λ q=>Qw (Gq q 59 (by omega))
 have one:∀p:Pc,DP (toks p)=toks p/\DP (Eg p)=toks p++[Z3 ";"]:=by
  intro p;cases p<;>refine ⟨?_,?_⟩<;>simp only [DP,toks,Eg,wd,fracs,YB,FG,ze,List.flatten_nil,c,a,st,s,AT5]<;>rfl
 intro ps
 induction ps with
 | nil=>intro h;exact absurd rfl h
 | cons p r b=>
  intro _;cases r with
  | nil=>exact (one p).1
  | cons q r=>
   show DP (Eg p++Dw (q::r))=toks p++Z3 ";"::FJ (q::r);have e:DP (Eg p++Dw (q::r))=DP (Eg p)++DP (Dw (q::r)):=by
    unfold DP;rw [U4,List.flatten_append]
   rw [e,(one p).2,b (by simp),Xs]
   rfl
end Tx
namespace Lib
open PySem L2 Fr Op Tx
abbrev Cw (C a b:Addr)(i:Nat):HO:=.ins C a [("words",.ref b),("place",.int (i:Int))]
structure RdAt (C a dx wl:Addr)(ws:List Str)(i:Nat)(H:Hp):Prop where
 r:H a=some (Cw C dx wl i)
 w:H wl=some (.lst (ws.map V.str))
 le:ws.length<=50000
theorem RdAt.keep {C a b c:Addr}{d:List Str}{i:Nat}{H e:Hp}(h:RdAt C a b c d i H)(s:Same H e):RdAt C a b c d i e:=⟨s _ _ h.r,s _ _ h.w,h.le⟩
theorem RdAt.ne {C a d b:Addr}{f:List Str}{i:Nat}{H:Hp}(h:RdAt C a d b f i H):b≠a:=λ e=>by
 have g:=h.r;have c:=h.w;rw [e,g] at c;cases c
theorem RdAt.step {C a b c:Addr}{d:List Str}{i:Nat}{H:Hp}(h:RdAt C a b c d i H)(j:Nat):RdAt C a b c d j (upd H a (Cw C b c j)):=⟨Ar,by rw [BK h.ne];exact h.w,h.le⟩
theorem JB {a:Addr}{H:Hp}(o:HO):SD a H (upd H a o):=λ b u n e=>by rw [BK n];exact e
theorem SD.ofSame {a:Addr}{H c:Hp}(s:Same H c):SD a H c:=λ b u _ e=>s _ _ e
theorem Ug {C a d f:Addr}{i:Nat}{H c:Hp}(h:H a=some (Cw C d f i))(s:SD a H c):Gd H c:=λ b g=>⟨λ e=>s b _ (λ z=>by rw [z,h] at e;cases e) e,λ o e=>s b _ (λ z=>by rw [z,h] at e;cases e) e⟩
theorem WK {n:Nat}(h:n<=50000):n < Y3:=xB h (by decide)
inductive iQ (C:Addr)(vs:List V)(H:Hp)(Q:VK)(zz3:XK):Prop | mk:∀a dx wl,(vs=[.ref a,.ref wl])->(H a=some (.ins C dx []))->(Q .non (upd H a (Cw C dx wl 0)))->iQ C vs H Q zz3
inductive nW (C:Addr)(vs:List V)(H:Hp)(Q:VK)(zz3:XK):Prop | mk:∀a dx wl ws i,(vs=[.ref a])->(RdAt C a dx wl ws i H)->(Q (.bl (decide (i=ws.length))) H)->nW C vs H Q zz3
inductive lR (C:Addr)(vs:List V)(H:Hp)(Q:VK)(zz3:XK):Prop | mk:∀a dx wl ws i z,(vs=[.ref a])->(RdAt C a dx wl ws i H)->(ws[i]?=some z)->(Q (.str z) (upd H a (Cw C dx wl (i+1))))->lR C vs H Q zz3
inductive eU (C:Addr)(vs:List V)(H:Hp)(Q:VK)(zz3:XK):Prop | mk:∀a dx wl ws i z,(vs=[.ref a,.str z])->(RdAt C a dx wl ws i H)->(i<=ws.length)->((ws[i]?=some z->Q (.bl true) (upd H a (Cw C dx wl (i+1)))))->((ws[i]?≠some z->Q (.bl false) H))->eU C vs H Q zz3
inductive iR (vs:List V)(H:Hp)(Q:VK)(zz3:XK):Prop | mk:∀x:Str,(vs=[.str x])->(x.length+2<=Y3)->((XG x (Z3 " ")).length<=20001)->((∀w∈XG x (Z3 " "),w.length<=50000))->(∀l H',Same H H'->H l=none->H' l=some (.lst ((DP (XG x (Z3 " "))).map V.str))->Q (.ref l) H')->iR vs H Q zz3
inductive kY (vs:List V)(H:Hp)(Q:VK)(zz3:XK):Prop | mk:∀(x:Str) (m:Nat),(vs=[.str x])->(cl x=dg m)->((dg m).length<=15)->(∀H',Same H H'->Q (.int (m:Int)) H')->kY vs H Q zz3
inductive Ny (K:FrG)(vs:List V)(H:Hp)(Q:VK)(zz3:XK):Prop | mk:∀q:Rat,(vs=[.str (Ay q)])->(Short q)->(∀v H',Same H H'->DV K H' v (Aj q)->Q v H')->Ny K vs H Q zz3
def Ef (p:Pc):Prop:=p.ok/\∀q∈fracs p,Short q
inductive cO (K:FrG)(C:Addr)(vs:List V)(H:Hp)(Q:VK)(zz3:XK):Prop | mk:∀(a dx wl:Addr) (ws:List Str) (i:Nat) (p:Pc) (dp:Int),(vs=[.ref a,.int dp])->(RdAt C a dx wl ws i H)->((∀j t,(toks p)[j]?=some t->ws[i+j]?=some t))->(Ef p)->(∀v H',SD a H H'->RdAt C a dx wl ws (i+(toks p).length) H'->DV K H' v (CV p)->Q v H')->cO K C vs H Q zz3
inductive qJ (K:FrG)(C:Addr)(vs:List V)(H:Hp)(Q:VK)(zz3:XK):Prop | mk:∀(a dx wl:Addr) (ws:List Str) (ps:List Pc) (dp:Int),(vs=[.ref a,.int dp])->(RdAt C a dx wl ws 0 H)->(ws=FJ ps)->(ps≠[])->(ps.length<=60)->((∀p∈ps,Ef p))->(∀l xs H',SD a H H'->H l=none->RdAt C a dx wl ws ws.length H'->H' l=some (.lst xs)->DVs K H' xs (ps.map CV)->Q (.ref l) H')->qJ K C vs H Q zz3
inductive oW (K:FrG)(vs:List V)(H:Hp)(Q:VK)(zz3:XK):Prop | mk:∀(v:V) (ps:List Pc),(vs=[v])->(DV K H v (Ec ps))->(Q (.int (ps.length:Int)) H)->oW K vs H Q zz3
inductive qu (K:FrG)(vs:List V)(H:Hp)(Q:VK)(zz3:XK):Prop | mk:∀(v:V) (ps:List Pc),(vs=[v])->(DV K H v (Ec ps))->(ps.length<=60)->(∀l xs H',Same H H'->H l=none->H' l=some (.lst xs)->DVs K H' xs (ps.map CV)->Q (.ref l) H')->qu K vs H Q zz3
inductive jU (K:FrG)(vs:List V)(H:Hp)(Q:VK)(zz3:XK):Prop | mk:∀ps:List Pc,(vs=[.str (Ed ps)])->(ps.length<=60)->((∀p∈ps,Ef p))->(∀l xs H',Same H H'->H l=none->H' l=some (.lst xs)->DVs K H' xs (ps.map CV)->Q (.ref l) H')->jU K vs H Q zz3
theorem Jk (p:Pc):(toks p).length<=3/\2<=(toks p).length:=by cases p<;>exact ⟨by simp [toks,fracs],by simp [toks,fracs]⟩
theorem Oj {q:Rat}(h:Short q):(Ay q).length<=40:=by rw [<- Dm,JP];exact bN q h
theorem vG (p q:Pc)(r:List Pc):FJ (p::q::r)=toks p++Z3 ";"::FJ (q::r):=rfl
theorem lN:∀ps:List Pc,(FJ ps).length<=4 * ps.length
 | []=>by decide
 | [p]=>by have:=Jk p;show (toks p).length<=4 * 1;omega
 | p::q::r=>by
  rw [vG,X1,X9];have:=Jk p;have:=lN (q::r);simp only [X9] at *;omega
theorem Ab0 (p:Pc):(Eg p).length<=3:=by cases p<;>simp [Eg]
theorem T9:∀ps:List Pc,(Dw ps).length<=3 * ps.length
 | []=>by decide
 | [p]=>by have:=Jk p;show (toks p).length<=3 * 1;omega
 | p::q::r=>by
  show (Eg p++Dw (q::r)).length<=_;rw [X1];have:=Ab0 p;have:=T9 (q::r);simp only [X9] at *;omega
theorem AY1 (p:Pc)(h:Ef p)(t:Str)(m:t∈toks p):t.length<=50:=by
 rcases X2.mp m with rfl | m
 ·cases p with
  | gap _=>show (Z3 "gap").length<=50;decide+kernel
  | glass _=>show (Z3 "glass").length<=50;decide+kernel
  | stop _ _=>show (Z3 "stop").length<=50;decide+kernel
 ·obtain ⟨q,a,rfl⟩:=XW.mp m;have:=Oj (h.2 q a);omega
theorem yI (p:Pc)(h:Ef p)(t:Str)(m:t∈Eg p):t.length<=50:=by
 have e:∀q∈fracs p,(Ay q++(⟨#[59]⟩:Str)).length<=50:=λ q a=>by
  rw [<- Dm,Bv,X1,Dm];have:=Oj (h.2 q a);show _+1<=50;omega
 have s:∀q∈fracs p,(Ay q).length<=50:=λ q a=>by have:=Oj (h.2 q a);omega
 cases p<;>simp only [Eg,X2,YN,or_false] at m
 ·rcases m with rfl | rfl
  ·decide+kernel
  ·exact e _ (by simp [fracs])
 ·rcases m with rfl | rfl
  ·decide+kernel
  ·exact e _ (by simp [fracs])
 ·rcases m with rfl | rfl | rfl
  ·decide+kernel
  ·exact s _ (by simp [fracs])
  ·exact e _ (by simp [fracs])
theorem Y4:∀(ps:List Pc),(∀p∈ps,Ef p)->∀t∈Dw ps,t.length<=50
 | [],_,t,h=>by cases h
 | [p],a,t,h=>AY1 p (a p U1) t h
 | p::q::r,a,t,h=>by
  rcases YE.mp (show t∈Eg p++Dw (q::r) from h) with m | m
  ·exact yI p (a p U1) t m
  ·exact Y4 (q::r) (λ x b=>a x (Y9 _ b)) t m
theorem qM (b:Str)(a:List Str)(c:Nat)(h:∀t∈a,t.length<=c):(ZT b a).length<=a.length * (c+b.length):=by
 have f:=FP b a;have g:(a.map (·.length)).sum<=a.length * c:=by
  induction a with
  | nil=>exact WO _
  | cons t a d=>
   rw [YB,yT,X9,FE];have:=h t U1;have:=d (λ x e=>h x (Y9 _ e)) (FP b a)
   omega
 rw [Nat.mul_add];omega
theorem Lg {ps:List Pc}(h:ps.length<=60)(a:∀p∈ps,Ef p):(Ed ps).length<=10000:=by
 cases ps with
 | nil=>decide+kernel
 | cons p r=>
  rw [Q5 _ (by simp)]
  have b:=qM ⟨#[32]⟩ (Dw (p::r)) 50 (Y4 _ a);have c:=T9 (p::r);have d:(Dw (p::r)).length * (50+(⟨#[32]⟩:Str).length)<=180 * 51:=Nat.mul_le_mul (by omega) (by decide)
  omega
theorem AK1 {ps:List Pc}(h:ps≠[]):Ed ps≠Z3 "":=λ e=>by
 have a:=congrArg cl e;rw [Q5 ps h] at a;cases ps with
 | nil=>exact h rfl
 | cons p r=>
  have b:cl (ZT ⟨#[32]⟩ (Dw (p::r)))≠[]:=by
   cases r with
   | nil=>cases p<;>(show cl (_++_++_)≠[];rw [Bv,Bv];intro z;simp at z)
   | cons q r=>
    obtain ⟨t,d,c⟩:=Uc q r;show cl (ZT ⟨#[32]⟩ (Eg p++Dw (q::r)))≠[];rw [c];cases p<;>(show cl (_++_++_)≠[];rw [Bv,Bv];intro z;simp at z)
  exact b a
end Lib
namespace L2
open PySem PySem.Spec PyProof.Rows
section
variable {κ:Type}[DecidableEq κ]
def valV (a:List (κ×V))(k:κ):Option V:=(a.find? λ b=>decide (b.1=k)).map (·.2)
def putK (a:List (κ×V))(k:κ)(v:V):List (κ×V):=
 if (a.any λ b=>decide (b.1=k))=true then a.map (λ b=>if b.1=k then (b.1,v) else b) else a++[(k,v)]
theorem G9 {p:κ×V}{r:List (κ×V)}{k:κ}(e:p.1=k):valV (p::r) k=some p.2:=by simp [valV,yy,e]
theorem G4 {p:κ×V}{r:List (κ×V)}{k:κ}(e:¬ p.1=k):valV (p::r) k=valV r k:=by simp [valV,yy,e]
theorem Ou (k:κ):∀a:List (κ×V),(a.any λ b=>decide (b.1=k))=(valV a k).isSome
 | []=>rfl
 | p::r=>by
  rw [JI];by_cases e:p.1=k
  ·simp only [G9 e,decide_eq_true e,Bool.true_or,Option.isSome_some]
  ·rw [G4 e,decide_eq_false e,Bool.false_or];exact Ou k r
theorem j0 (k j:κ)(y:V):∀a:List (κ×V),valV (a.map λ b=>if b.1=k then (b.1,y) else b) j=(valV a j).map λ x=>if j=k then y else x
 | []=>rfl
 | p::r=>by
  have c:=j0 k j y r;rw [YB];by_cases h:p.1=k
  ·rw [if_pos h];by_cases e:p.1=j
   ·rw [G9 (p:=(p.1,y)) e,G9 e,uu,if_pos (e.symm.trans h)]
   ·rw [G4 (p:=(p.1,y)) e,G4 e,c]
  ·rw [if_neg h];by_cases e:p.1=j
   ·rw [G9 (p:=p) e,G9 e,uu,if_neg (λ z=>h (e.trans z))]
   ·rw [G4 (p:=p) e,G4 e,c]
theorem jc (k j:κ)(y:V):∀a:List (κ×V),valV a k=none->valV (a++[(k,y)]) j=if j=k then some y else valV a j
 | [],_=>by
  by_cases e:k=j
  ·rw [if_pos e.symm];exact G9 (p:=(k,y)) e
  ·rw [if_neg (λ z=>e z.symm)];exact G4 (p:=(k,y)) e
 | p::r,b=>by
  rw [wx];have c:¬ p.1=k:=λ z=>by rw [G9 z] at b;cases b
  rw [G4 c] at b;have d:=jc k j y r b;by_cases e:p.1=j
  ·rw [G9 e,G9 e,if_neg (λ z=>c (e.trans z))]
  ·rw [G4 e,G4 e,d]
theorem aF (b:List (κ×V))(k j:κ)(y:V):valV (putK b k y) j=if j=k then some y else valV b j:=by
 unfold putK;by_cases a:(b.any λ c=>decide (c.1=k))=true
 ·rw [if_pos a,j0];rw [Ou] at a;by_cases e:j=k
  ·obtain ⟨x,d⟩:=GN.mp a;rw [if_pos e,e,d,uu,if_pos rfl]
  ·rw [if_neg e];cases valV b j with
   | none=>rfl
   | some x=>rw [uu,if_neg e]
 ·rw [if_neg a];refine jc k j y b ?_;rw [Ou] at a;cases q:valV b k with
  | none=>rfl
  | some x=>rw [q] at a;exact (a rfl).elim
theorem jz (a:List (κ×V))(k:κ)(v:V):(putK a k v).length<=a.length+1:=by
 unfold putK
 split
 ·rw [Y2];omega
 ·rw [X1,X9,YG];omega
theorem RelO.isSome_eq {o:Option V}{u:Option Value}(r:RelO o u):o.isSome=u.isSome:=by
 cases o with
 | none=>cases u with
  | none=>rfl
  | some _=>exact (show False from r).elim
 | some _=>cases u with
  | none=>exact (show False from r).elim
  | some _=>rfl
theorem RelO.getD {o:Option V}{u:Option Value}{d:V}{d':Value}(r:RelO o u)(a:RelV d d'):RelV (o.getD d) (u.getD d'):=by
 cases o with
 | none=>cases u with
  | none=>exact a
  | some _=>exact (show False from r).elim
 | some _=>cases u with
  | none=>exact (show False from r).elim
  | some _=>exact r
theorem KV.val {a:List (κ×V)}{vs:List (κ×Value)}(r:KV a vs)(k:κ):RelO (valV a k) (FS vs k):=by
 unfold KV at r
 induction r with
 | nil=>exact zl
 | @cons p q ps qs h t f=>
  obtain ⟨d,g⟩:=h;by_cases e:p.1=k
  ·have c:q.1=k:=d.symm.trans e;have b:FS (q::qs) k=some q.2:=by simp [FS,yy,c]
   rw [G9 e,b];exact g
  ·have c:¬ q.1=k:=λ z=>e (d.trans z)
   have b:FS (q::qs) k=FS qs k:=by simp [FS,yy,c]
   rw [G4 e,b];exact f
theorem KV.any {a:List (κ×V)}{vs:List (κ×Value)}(r:KV a vs)(k:κ):(a.any λ b=>decide (b.1=k))=vs.any λ b=>decide (b.1=k):=by
 unfold KV at r
 induction r with
 | nil=>rfl
 | cons h t c=>rw [JI,JI,c,h.1]
theorem KV.repl {c:List (κ×V)}{vs:List (κ×Value)}(r:KV c vs)(k:κ){y:V}{u:Value}(ry:RelV y u):
  KV (c.map λ a=>if a.1=k then (a.1,y) else a) (vs.map λ a=>if a.1=k then (a.1,u) else a):=by
 unfold KV at r ⊢
 induction r with
 | nil=>exact .nil
 | @cons p q ps qs h t d=>
  rw [YB,YB];refine .cons ?_ d;obtain ⟨b,f⟩:=h;by_cases e:p.1=k
  ·rw [if_pos e,if_pos (b.symm.trans e)];exact ⟨b,ry⟩
  ·rw [if_neg e,if_neg (λ z=>e (b.trans z))];exact ⟨b,f⟩
theorem KV.put {a:List (κ×V)}{vs:List (κ×Value)}(r:KV a vs)(k:κ){y:V}{u:Value}(ry:RelV y u):KV (putK a k y) (stored vs k u):=by
 unfold putK stored;rw [r.any k];by_cases e:(vs.any λ b=>decide (b.1=k))=true
 ·rw [if_pos e,if_pos e];exact r.repl k ry
 ·rw [if_neg e,if_neg e];exact xr.snoc r ⟨rfl,ry⟩
theorem KV.length {a:List (κ×V)}{vs:List (κ×Value)}(r:KV a vs):a.length=vs.length:=Mc r
end
theorem KN {P:Yf}{w:World}{k:Key}{u:Value}(r:RelV (kV k) u):(mixKind P w).is k u=true:=by
 cases k with
 | inl i=>obtain ⟨t,e⟩:=(show ∃t,u=jp i t from r);subst e;exact AL8 P w i t
 | inr x=>obtain ⟨t,e⟩:=(show ∃t,u=NO x t from r);subst e;exact mC P w x t
theorem bZ {P:Yf}{w:World}:∀{ks:List Key} {us:List Value},Vals (ks.map kV) us->ItemsAre (mixKind P w) ks us
 | [],_,r=>by rw [FG] at r;cases r;exact .nil
 | k::ks,_,r=>by
  rw [YB] at r;cases r with
  | cons h t=>exact .cons (KN h) (bZ t)
abbrev KT (H:Hp):List (List Key×V)->List (List Key×Addr×Value)->Prop:=xr λ p q=>p.1=q.1/\H q.2.1=some (.tup (p.1.map kV))/\RelV p.2 q.2.2
theorem KT.val {H:Hp}{a:List (List Key×V)}{xs:List (List Key×Addr×Value)}(r:KT H a xs)(k:List Key):RelO (valV a k) ((atKey xs k).map (·.2)):=by
 induction r with
 | nil=>exact zl
 | @cons p q ps qs h t f=>
  obtain ⟨d,_,g⟩:=h;by_cases e:p.1=k
  ·have c:q.1=k:=d.symm.trans e;have b:atKey (q::qs) k=some q.2:=by simp [atKey,yy,c]
   rw [G9 e,b];exact g
  ·have c:¬ q.1=k:=λ z=>e (d.trans z)
   have b:atKey (q::qs) k=atKey qs k:=by simp [atKey,yy,c]
   rw [G4 e,b];exact f
theorem KT.repl {H:Hp}{b:List (List Key×V)}{xs:List (List Key×Addr×Value)}(r:KT H b xs)(k:List Key){y:V}{u:Value}(ry:RelV y u):
  KT H (b.map λ c=>if c.1=k then (c.1,y) else c) (xs.map (putAt k u)):=by
 induction r with
 | nil=>exact .nil
 | @cons p q ps qs h t f=>
  rw [YB,YB];refine .cons ?_ f;obtain ⟨a,d,g⟩:=h;unfold putAt;by_cases e:p.1=k
  ·rw [if_pos e,if_pos (a.symm.trans e)];exact ⟨a,d,ry⟩
  ·rw [if_neg e,if_neg (λ z=>e (a.trans z))];exact ⟨a,d,g⟩
theorem KT.put {H:Hp}{a:List (List Key×V)}{xs:List (List Key×Addr×Value)}(r:KT H a xs)(k:List Key){b:Addr}{y:V}{u:Value}(c:H b=some (.tup (k.map kV)))(ry:RelV y u):
  KT H (putK a k y) (storedH xs k b u):=by
 have e:(a.any λ d=>decide (d.1=k))=(atKey xs k).isSome:=by
  rw [Ou,(r.val k).isSome_eq,Option.isSome_map]
 unfold putK storedH;rw [e];by_cases q:(atKey xs k).isSome=true
 ·rw [if_pos q,if_pos q];exact r.repl k ry
 ·rw [if_neg q,if_neg q];exact xr.snoc r ⟨rfl,c,ry⟩
theorem KT.keeps {H c:Hp}{a:List (List Key×V)}{xs:List (List Key×Addr×Value)}(r:KT H a xs)(e:∀b d,H b=some (.tup d)->c b=some (.tup d)):KT c a xs:=
 xr.mapP r λ _ _ z=>⟨z.1,e _ _ z.2.1,z.2.2⟩
section
variable {P:Yf}{w:World}{H:Hp}{h:Heap}{a:Addr}
theorem bF {u:HO}(ok:HOk P w H h)(e:Rd H a u):ObjOk P w H h a u:=e.ok ok
theorem Nh {b:List (Key×V)}(ok:HOk P w H h)(e:Rd H a (.dK b)):b.length<=Y3/\(a == Qv)=false/\∃vs,KV b vs/\h.DictOf (mixKind P w) a vs:=
 show ObjOk P w H h a (.dK b) from bF ok e
theorem AL6 {b:List (Key×V)}(ok:HOk P w H h)(e:H a=some (.dK b)):b.length<=Y3/\(a == Qv)=false/\∃vs,KV b vs/\h.DictOf (mixKind P w) a vs:=Nh ok (.inl e)
theorem R7 {b:List Key}(ok:HOk P w H h)(e:H a=some (.tup (b.map kV))):(NS (mixKind P w)).is h b a:=by
 obtain ⟨_,its,r,o,c,d,n,f⟩:=(show ObjOk P w H h a (.tup (b.map kV)) from ok a _ e)
 exact ⟨o,its.toArray,n,c,d,f,by simpa using bZ r⟩
theorem Pj {c:List (List Key×V)}(ok:HOk P w H h)(e:Rd H a (.dT c)):c.length<=Y3/\(a == Qv)=false/\
  ∃xs,KT H c xs/\h.DictOfH (NS (mixKind P w)) a xs:=by
 obtain ⟨z,y,xs,r,o,es,f,g,i,j,k,n⟩:=(show ObjOk P w H h a (.dT c) from bF ok e)
 refine ⟨z,y,xs,r,o,es,f,g,i,j,k,λ x b=>?_,n⟩
 have all:∀{l:List (List Key×V)} {m:List (List Key×Addr×Value)},KT H l m->∀x∈m,(NS (mixKind P w)).is h x.1 x.2.1:=by
  intro l m q
  induction q with
  | nil=>intro x b;exact nomatch b
  | @cons p q ps qs d t s=>
   intro x b;rcases X2.mp b with e | b
   ·subst e;exact R7 ok (by rw [<- d.1];exact d.2.1)
   ·exact s x b
 exact all r x b
theorem xR {b:List (List Key×V)}(ok:HOk P w H h)(e:H a=some (.dT b)):b.length<=Y3/\(a == Qv)=false/\
  ∃xs,KT H b xs/\h.DictOfH (NS (mixKind P w)) a xs:=Pj ok (.inl e)
end
def DGet (H:Hp)(a:Addr)(y:V)(r:Option V):Prop:=
 (∃c k,Rd H a (.dK c)/\y=kV k/\r=valV c k)\/∃c k b,Rd H a (.dT c)/\y=.ref b/\H b=some (.tup (k.map kV))/\r=valV c k
def DPut (H:Hp)(a:Addr)(y v:V)(d:Hp):Prop:=
 (∃c k,H a=some (.dK c)/\y=kV k/\c.length < Y3/\d=upd H a (.dK (putK c k v)))\/
 ∃c k b,H a=some (.dT c)/\y=.ref b/\H b=some (.tup (k.map kV))/\c.length < Y3/\d=upd H a (.dT (putK c k v))
theorem DGet.k {H:Hp}{a:Addr}{b:List (Key×V)}{k:Key}(e:H a=some (.dK b)):DGet H a (kV k) (valV b k):=.inl ⟨b,k,.inl e,rfl,rfl⟩
theorem DPut.k {H:Hp}{a:Addr}{b:List (Key×V)}{k:Key}{v:V}(e:H a=some (.dK b))(hl:b.length < Y3):DPut H a (kV k) v (upd H a (.dK (putK b k v))):=.inl ⟨b,k,e,rfl,hl,rfl⟩
section
variable {X:Cx}{pins:List (Addr×Obj)}{σ:St}{H:Hp}{s:W9}{a:Addr}{y v:V}{u r:Value}{o:Option V}{A:WB}{E:Value->W9->Prop}
theorem Inv.big (b:Inv X pins σ H s):Qv < s.heap.objs.size:=by
 have h:Zq < s.heap.objs.size:=(b.mod.glob.keeps b.bk).lt;exact QB (by decide) h
theorem yW {Q:Value->W9->Prop}(q:A.units+1 < cLine)(j:Inv X pins σ H s)(B:DGet H a y (some v))(ry:RelV y u)(h:∀c s',Inv X pins σ H s'->RelV v c->Q c s'):
  wpAny (model X.prog X.w) A (GI (.ref a) u) Q E s:=by
 rcases B with ⟨m,k,e,g,l⟩ | ⟨m,k,b,e,g,t,l⟩
 ·subst g;obtain ⟨z,hd,vs,d,dd⟩:=Nh j.hok e;obtain ⟨c,i,f⟩:=RelO.some_of (v:=v) (o:=FS vs k) (by rw [l];exact d.val k)
  exact wpAny_getItem_of (KN ry) dd.mapOf i (h c _ (j.tok _) f)
 ·subst g;cases (show u=Wp b from ry)
  obtain ⟨z,hd,xs,d,dd⟩:=Pj j.hok e;obtain ⟨c,i,f⟩:=RelO.some_of (v:=v) (o:=(atKey xs k).map (·.2)) (by rw [l];exact d.val k)
  obtain ⟨p,x,n⟩:=QE.mp i;refine wpAny_getItem_heap (qA q) (R7 j.hok t) dd x ?_;rw [n];exact h c _ (j.tok _) f
theorem Ag1 {Q:Value->W9->Prop}(i:A.units+1 < cLine)(f:Inv X pins σ H s)(m:DGet H a y o)(ry:RelV y u)(h:∀s',Inv X pins σ H s'->Q (.bool (!o.isSome)) s'):
  wpAny (model X.prog X.w) A (UU .NotIn u (.ref a)) Q E s:=by
 rcases m with ⟨g,k,e,d,l⟩ | ⟨g,k,b,e,d,j,l⟩
 ·subst d;obtain ⟨z,hd,vs,c,dd⟩:=Nh f.hok e;refine wpAny_notIn_of (KN ry) hd dd.mapOf ?_;rw [<- (c.val k).isSome_eq,<- l];exact h _ (f.tok _)
 ·subst d;cases (show u=Wp b from ry)
  obtain ⟨z,hd,xs,c,dd⟩:=Pj f.hok e;refine wpAny_notIn_heap (qA i) (R7 f.hok j) hd dd ?_;have q:=(c.val k).isSome_eq;rw [Option.isSome_map] at q;rw [<- q,<- l];exact h _ (f.tok _)
theorem gQ {h':Heap}{t':Nat}{c:HO}(j:Inv X pins σ H s)(f:Mut (H a))(g:ya a s.heap h')(h:∃q,h'.get? a=some q)(d:ObjOk X.prog X.w (upd H a c) h' a c):
  Inv X pins σ (upd H a c) { s with heap:=h',toks:=t' }:=
 j.write (x:=a) (e:=a) f (.inl rfl) (λ b q i z=>(g.2 b i).trans z) h d
theorem AP9 {P:Yf}{w:World}{d:Hp}{h':Heap}{b:List (Key×V)}{vs:List (Key×Value)}(z:b.length<=Y3)(hd:(a == Qv)=false)(c:KV b vs)(dd:h'.DictOf (mixKind P w) a vs):
  ObjOk P w d h' a (.dK b):=⟨z,hd,vs,c,dd⟩
theorem Af5 {t:Hp}{Q:Unit->W9->Prop}(F:A.units+1 < cLine)(x:Inv X pins σ H s)(N:DPut H a y v t)(ry:RelV y u)(B:RelV v r)(h:∀s',Inv X pins σ t s'->Q () s'):
  wpAny (model X.prog X.w) A (setItem (.ref a) u r) Q E s:=by
 rcases N with ⟨d,k,e,j,l,m⟩ | ⟨d,k,b,e,j,C,l,m⟩
 ·subst j m;obtain ⟨z,hd,vs,f,dd⟩:=AL6 x.hok e;have n:vs.length<=Y3:=by rw [<- f.length];exact z
  have hl:(putK d k v).length<=Y3:=by have:=jz d k v;omega
  refine wpAny_setItem_pairs (hsz:=n) (KN ry) dd λ h' g p=>h _ ?_
  have G:∃q,h'.get? a=some q:=let ⟨q,_,_,i,_⟩:=g;⟨q,i⟩
  exact gQ x (by rw [e];exact zl) p G (AP9 hl hd (f.put k B) g)
 ·subst j m;cases (show u=Wp b from ry)
  obtain ⟨z,hd,xs,f,dd⟩:=xR x.hok e;have n:xs.length<=Y3:=by rw [<- Mc f];exact z
  have hl:(putK d k v).length<=Y3:=by have:=jz d k v;omega
  refine wpAny_setItem_heap (hsz:=n) (qA F) (R7 x.hok C) dd λ h' g p=>h _ ?_
  obtain ⟨q,es,I,i,J,K,L,_,M⟩:=g;refine gQ x (by rw [e];exact zl) p ⟨q,i⟩ ⟨hl,hd,_,(f.put k C B).keeps λ c O D=>?_,q,es,I,i,J,K,L,M⟩
  rw [BK (zN D e (λ z=>nomatch z))]
  exact D
end
def NoSl (i:Expr):Prop:=∀a b,GH i false a b=operate [a,b] (GI a b)
theorem lD {prog:Yf}{w:World}{A:WB}{E:Value->W9->Prop}{s:W9}{env:Env}{b a:Expr}{pos:Pos}{T id:String}{Q:Value->W9->Prop}
  (hl:typeLookup (.type T) "__getitem__"=pure (some (.builtin id))) (m:NoSl a)
  (h:wpAny (model prog w) A (eval b env) (λ o e=>wpAny (model prog w) A (eval a env) (λ i c=>c.TypeIs o T/\wpAny (model prog w) A (GI o i) Q E c) E e) E s):
  wpAny (model prog w) A (eval (.Subscript b a pos) env) Q E s:=by
 refine Subscript_ (Jn h (λ o e j=>Jn j (λ i c d=>?_) λ _ _ x=>x) λ _ _ x=>x)
 obtain ⟨l,d⟩:=d;unfold subscriptTail;refine ZA ?_;rw [getitemInPython_of_ne l.not_modules];refine ZA (wpAny_specialOf l hl ?_);have f:wpAny (model prog w) A (GH a false o i) (λ r g=>wpAny (model prog w) A (letTemporaryGo b o r >>= λ _=>pure r) Q E g) E c:=by
  rw [m o i];exact wpAny_operating (Jn d (λ r g k=>ZA (wpAny_letTemporaryGo (Yq k))) λ _ _ x=>x)
 first
  | exact Yq (ZA f)
  | exact ZA (Yq (ZA f))
  | exact ZA f
theorem AS3 {X:Cx}{c:List (Addr×Obj)}{f:St}{H:Hp}{s:W9}{a:Addr}{y:V}{o:Option V}(g:Inv X c f H s)(h:DGet H a y o):s.TypeIs (.ref a) "dict":=by
 rcases h with ⟨d,k,e,_,_⟩ | ⟨d,k,b,e,_,_,_⟩
 ·obtain ⟨_,_,vs,_,dd⟩:=Nh g.hok e;exact dd.typeIs
 ·obtain ⟨_,_,xs,_,dd⟩:=Pj g.hok e;exact dd.typeIs
def tDGet (d e:TE):TE:=λ b H Q=>d b H λ x f=>e b f λ y c=>∃a v,x=.ref a/\DGet c a y (some v)/\Q v c
def tDNotIn (d e:TE):TE:=λ b H Q=>d b H λ y f=>e b f λ x c=>∃a o,x=.ref a/\DGet c a y o/\Q (.bl (!o.isSome)) c
def sDPut (d e f:TE):TS:=λ j b H=>f b H λ v g=>d b g λ x h=>e b h λ y i=>∃a c,x=.ref a/\DPut i a y v c/\j.nx b c
section
variable {X:Cx}{o i e value:Expr}{pos pos' tpos:Pos}{td ty tv:TE}
theorem rH (g:X.A.units+1 < cLine)(j:PE X o td)(hi:PE X i ty)(k:NoSl i):PE X (.Subscript o i pos) (tDGet td ty):=by
 intro b s c H Q B h;refine lD qB.lookup k (thn (j b s c H _ B h) λ u l ⟨x,m,n,p,q⟩=>thn (hi b l c m _ n q) λ C D ⟨y,r,d,ry,a,v,ex,z,t⟩=>?_)
 subst ex;obtain rfl:u=Wp a:=p;exact ⟨AS3 d z,yW g d z ry λ E G w f=>⟨v,r,w,f,t⟩⟩
theorem tM (d:X.A.units+1 < cLine)(hi:PE X i ty)(f:PE X o td):PC X .NotIn i o (tDNotIn ty td):=by
 intro b s c H Q v h;refine thn (hi b s c H _ v h) λ w g ⟨y,j,k,ry,l⟩=>thn (f b g c j _ k l) λ u z ⟨x,m,n,p,a,q,ex,B,r⟩=>?_
 subst ex;obtain rfl:u=Wp a:=p;exact Ag1 d n B ry λ C t=>⟨.bl (!q.isSome),m,t,rfl,r⟩
theorem z6 (d:X.A.units+1 < cLine)(f:PE X o td)(hi:PE X i ty)(hv:PE X value tv)(g:js value (some (.Subscript o i pos')) pos.line X.env=pure false):
  PS X (.Assign [.Subscript o i pos'] value pos) (sDPut td ty tv):=by
 intro b s c H M F h;refine wpAny_Assign_Subscript (thn (hv b s c H _ F h) λ r j ⟨v,k,l,m,n⟩=>thn (f b j c k _ l n) λ u p ⟨x,q,t,w,z⟩=>thn (hi b p c q _ t z) λ G I ⟨y,J,B,ry,a,C,ex,K,D⟩=>?_) g
 subst ex;obtain rfl:u=Wp a:=w;exact Af5 d B K ry m λ L E=>⟨c,C,E,D⟩
end
theorem rM {P:Yf}{w:World}{H:Hp}(h:Heap)(a:Qv < h.objs.size):ObjOk P w H (h.push { cls:=.type "dict",data:=.dict #[] }) h.objs.size (.dK []):=
 ⟨WO _,beq_eq_false_iff_ne.mpr (UX (XV a)),[],.nil,Heap.DictOf.new h⟩
def tDNewK:TE:=λ _ H Q=>∀p,H p=none->Q (.ref p) (upd H p (.dK []))
section
variable {X:Cx}{pos:Pos}
theorem wQ:PE X (.Dict [] [] pos) tDNewK:=λ b s d H Q c h=>
 wpAny_Dict_empty ⟨.ref s.heap.objs.size,_,c.laid (a:=s.heap.objs.size) (o:=.dK []) (t':=s.toks) (λ _ _ q=>ZE _ q) (ZK _) (rM s.heap c.big),rfl,h _ (c.hok.fresh (ZK _))⟩
end
structure M1 (X:Cx)(o:Expr)(m:Str)(apos:Pos)(e:Expr)(cpos:Pos):Prop where
 base:wZ o m X.env (eval o X.env)=eval o X.env
 few:((yY cpos (XA [e] X.env)).all (λ x=>!x.1) && (backToKw cpos (GM [] X.env)).all (λ x=>x.1.isSome)
  && decide (([e]:List Expr).length+([]:List Keyword).length+(if ([]:List Keyword).isEmpty then 0 else 1) < 30))=true
 line:(apos.endLine == cpos.line)=true
 trees:yY cpos (XA [e] X.env)=[(false,eval e X.env)]
end L2
namespace PySem
open Sem (wp)
end PySem
namespace L2
open PySem PySem.Spec PyProof.Rows PySem.Builtin
theorem RoomB.units1 {c:Bool}{k:Nat}{A:WB}(h:RoomB c k A):A.units+1 < cLine:=xB (by omega) h.units
end L2
namespace L2
open PySem PySem.Spec PyProof.Rows
end L2
namespace L2
open PySem PySem.Spec PyProof.Rows PySem.Builtin
structure DKG (P:Yf)(w:World)(K:FrG)(a:Addr)(kvs:List (Key×V)):Prop where
 ex:∃(vs:List (Key×Value)) (o:Obj) (es:Array wP) (ep:Nat),KV kvs vs/\K.lookup a=some o/\o.ExactDict/\o.data=.dict es ep/\KeysOf (mixKind P w) es/\Pairs (mixKind P w) es.toList vs/\(vs.map (·.1)).Nodup
 ns:(a == Qv)=false
section
variable {X:Cx}{pins:List (Addr×Obj)}{σ:St}{H:Hp}{s:W9}{a:Addr}{kvs:List (Key×V)}
theorem DKG.dd (g:Inv X pins σ H s)(h:DKG X.prog X.w X.K a kvs):∃vs,KV kvs vs/\s.heap.DictOf (mixKind X.prog X.w) a vs:=by
 obtain ⟨vs,o,es,b,c,l,ex,hd,d,e,f⟩:=h.ex;exact ⟨vs,c,o,es,b,g.kIn _ _ l,ex,hd,d,e,f⟩
def AY6 (P:Yf)(w:World)(K:FrG)(b c:TE):TE:=λ σ H Q=>b σ H λ x d=>c σ d λ y e=>∃a kvs k v,x=.ref a/\DKG P w K a kvs/\y=kV k/\valV kvs k=some v/\Q v e
def Aa0 (P:Yf)(w:World)(K:FrG)(b c:TE):TE:=λ σ H Q=>b σ H λ x d=>∃a kvs,x=.ref a/\DKG P w K a kvs/\c σ d λ y e=>∃k,y=kV k/\Q ((valV kvs k).getD .non) e
end
section
variable {X:Cx}{o i e:Expr}{es:List Expr}{pos apos cpos:Pos}{td ty tf:TE}{t:TA}{E:XK}
theorem az (j:PE X o td)(hi:PE X i ty)(m:NoSl i):PE X (.Subscript o i pos) (AY6 X.prog X.w X.K td ty):=by
 intro b s c H Q I h;refine lD qB.lookup m (thn (j b s c H _ I h) λ u n ⟨x,p,q,r,z⟩=>thn (hi b n c p _ q z) λ J L ⟨y,A,d,ry,a,G,k,v,ex,M,B,l,C⟩=>?_)
 subst ex;subst B;obtain rfl:u=Wp a:=r;obtain ⟨vs,f,dd⟩:=M.dd d;obtain ⟨N,D,g⟩:=RelO.some_of (v:=v) (o:=FS vs k) (by rw [<- l];exact f.val k)
 exact ⟨dd.typeIs,wpAny_getItem_of (KN ry) dd.mapOf D ⟨v,A,d.tok _,g,C⟩⟩
theorem yo (p:PE X o td)(r:PE X e ty)(m:M1 X o "get" apos e cpos):PE X (.Call (.Attribute o "get" apos) [e] [] cpos) (Aa0 X.prog X.w X.K td ty):=by
 intro c s f H Q P h;refine wpAny_Call_method m.base m.few m.line PySem.F.plainAttrs_dict Nd PySem.F.type_dict_get (thn (p c s f H _ P h) λ u v ⟨x,z,g,A,a,j,ex,B,C⟩=>?_)
 subst ex;obtain rfl:u=Wp a:=A;obtain ⟨O,D,d⟩:=B.dd g;refine ⟨d.typeIs,(λ b q=>?_),?_⟩
 ·cases q
  obtain ⟨G,_,_,I,J,_⟩:=d;exact ⟨G,I,J.2.1⟩
 rw [m.trees];refine FD rfl (No (Calls.spliced_cons (thn (r c v f z _ g C) λ R S ⟨y,L,l,ry,k,M,N⟩=>Calls.spliced_nil ?_)))
 subst M;obtain ⟨vs,n,dd⟩:=B.dd l;exact call_meetsIn Nd dd.typeIs PySem.F.entry_dict_get (PySem.F.args_dict_get_2 _ _) (meets_dict_get (mixKind X.prog X.w) a (KN ry) B.ns) ⟨_,dd.mapOf,⟨(valV j k).getD .non,L,l.tok _,(n.val k).getD (show RelV .non Fn from rfl),N⟩⟩
def AJ1 (P:Yf)(w:World)(K:FrG)(mg:Str->Option Value)(base:Heap)(A:WB)(E:XK)(tf:TE)(t:TA):TE:=λ a H Q=>tf a H λ x b=>∃(f:Addr) (fd:UK) (m:Nat) (ps:List Str) (sp:Sp),x=.ref f/\FnB P w K mg base true m f fd ps sp/\Ya K (.ref f)=true/\Binds K fd ps []/\RoomB true m A/\t a b λ vs c=>sp (vs++[]) c Q E
theorem jV (g:Passes (Hg X.prog X.w) X E)(hf:PE X o tf)(j:PA X (e::es) t)
  (k:XA (e::es) X.env=(false,eval e X.env)::XA es X.env:=by rfl) (d:(yY pos (XA es X.env)).any (·.1)=false:=by rfl)
  (l:eval (.Call o (e::es) [] pos) X.env=(do callWith pos (<- eval o X.env) [] (yY pos (XA (e::es) X.env)) (backToKw pos (GM [] X.env))):=by rfl):
  PE X (.Call o (e::es) [] pos) (AJ1 X.prog X.w X.K X.mg X.base X.A E tf t):=by
 intro a s b H Q I h;refine Call_ (thn (hf a s b H _ I h) λ u n ⟨x,p,v,y,f,fd,m,ps,sp,ex,J,z,B,C,q⟩=>?_) l
 subst ex;obtain rfl:u=Wp f:=y;refine yb (h₀:=X.base) I.ok.mod.kin z (thn (j pos a n b p _ v q) λ us D ⟨vs,F,c,r,G⟩=>⟨c.kIn,?_⟩) k d
 exact Rk J C B c r G λ e s' h=>g a b F D e s' c h
end
end L2
namespace Tx
open PySem PySem.Builtin PySem.Builtin.Str PySem.StrLaws
theorem UT (s sub:Str)(hi b:Nat):∀(l:List Nat) (st:Array Nat×Nat),∃more,(forIn l st (FT s sub hi b)).run.fst.toList=st.fst.toList++more
 | [],st=>⟨[],by simp⟩
 | a::l,st=>by
  rw [yn];unfold FT
  split
  ·obtain ⟨more,h⟩:=UT s sub hi b l (st.fst.push a,a+sub.length);exact ⟨a::more,by
    have h':(forIn l (st.fst.push a,a+sub.length) (FT s sub hi b)).run.fst.toList=st.fst.toList++(a::more):=by rw [h];simp
    exact h'⟩
  ·exact UT s sub hi b l (st.fst,st.snd)
theorem cG (s sub:Str)(hi k:Nat):∀(l:List Nat) (st:Array Nat×Nat),k<=st.fst.size->(forIn l st (FT s sub hi k)).run.fst=st.fst
 | [],st,_=>rfl
 | a::l,st,h=>by
  rw [yn];unfold FT;rw [if_neg (λ z=>by have:=z.1.1.1;omega)]
  exact cG s sub hi k l (st.fst,st.snd) h
theorem Uz (s sub:Str)(hi:Nat){k d:Nat}(b:k<=d):∀(l:List Nat) (st:Array Nat×Nat),st.fst.size<=k->(forIn l st (FT s sub hi k)).run.fst.toList=(forIn l st (FT s sub hi d)).run.fst.toList.take k
 | [],st,h=>by
  show st.fst.toList=st.fst.toList.take k;rw [QD (by rw [UF];exact h)]
 | a::l,st,h=>by
  by_cases e:st.fst.size=k
  ·rw [cG s sub hi k (a::l) st (by omega)]
   obtain ⟨more,f⟩:=UT s sub hi d (a::l) st;rw [f,List.take_left' (by rw [UF];exact e)]
  ·have lt:st.fst.size < k:=by omega
   rw [yn,yn];unfold FT;by_cases c:(st.snd<=a/\a+sub.length<=hi)/\subAt s sub a=true
   ·rw [if_pos ⟨⟨⟨lt,c.1.1⟩,c.1.2⟩,c.2⟩,if_pos ⟨⟨⟨by omega,c.1.1⟩,c.1.2⟩,c.2⟩]
    exact Uz s sub hi b l (st.fst.push a,a+sub.length) (by simp only [Array.size_push];omega)
   ·rw [if_neg (λ z=>c ⟨⟨z.1.1.2,z.1.2⟩,z.2⟩),if_neg (λ z=>c ⟨⟨z.1.1.2,z.1.2⟩,z.2⟩)]
    exact Uz s sub hi b l (st.fst,st.snd) h
theorem AX0 (x y:Str){k:Nat}(h:k<=x.length+1):WF x y 0 x.length k=(WF x y 0 x.length (x.length+1)).take k:=by
 rw [occ_eq,occ_eq];exact Uz x y x.length h _ _ (WO _)
theorem sG {x:Str}{c:Nat}{a b t:List Nat}(i:cl x=a++c::(b++c::t))(o:c∉a)(p:c∉b):∃c0 c1,WF x ⟨#[c]⟩ 0 x.length 2=[c0,c1]/\(xo x [c0,c1] 1).map cl=[a,b,t]:=by
 have d:=JZ x c;rw [i,Ij _ o,Ij _ p] at d;have hl:2<=x.length+1:=by
  have:(cl x).length=x.length:=by show x.cps.toList.length=_;rw [UF];rfl
  rw [i] at this;simp only [X1,X9] at this;omega
 have s:2<=(cut c t).length+1:=by
  have:cut c t≠[]:=by
   cases t with
   | nil=>simp [cut]
   | cons z zs=>
    unfold cut
    split
    ·simp
    ·split<;>simp
  have:=List.length_pos_iff.mpr this;omega
 have j:=AX0 x ⟨#[c]⟩ hl;have e:XG x ⟨#[c]⟩=NX x 1 0 (WF x ⟨#[c]⟩ 0 x.length (x.length+1))\/(XG x ⟨#[c]⟩).length=1:=by
  unfold XG
  split
  ·exact .inr rfl
  ·split
   ·exact .inr rfl
   ·exact .inl (FY x _ 1)
 rcases e with e | e
 ·rw [e] at d;cases k:WF x ⟨#[c]⟩ 0 x.length (x.length+1) with
  | nil=>
   rw [k] at d;have:=congrArg QK d;simp only [NX,Y2,X9,YG] at this;omega
  | cons c0 r=>
   rw [k] at d j;cases r with
   | nil=>
    have:=congrArg QK d;simp only [NX,Y2,X9,YG] at this;omega
   | cons c1 r=>
    have e2:WF x ⟨#[c]⟩ 0 x.length 2=[c0,c1]:=j;refine ⟨c0,c1,e2,?_⟩;have d:cl (xt x 0 c0)::cl (xt x (c0+1) c1)::(NX x 1 (c1+1) r).map cl=a::b::cut c t:=d;have l:=(XP d).1;have m:=(XP (XP d).2).1;rw [FY];show [cl (xt x 0 c0),cl (xt x (c0+1) c1),cl (xt x (c1+1) x.length)]=_;obtain ⟨f,ch⟩:=occ_chain x ⟨#[c]⟩ 2;rw [e2] at ch;have h:=join_partsFrom x ⟨#[c]⟩ [c0,c1] 0 f ch;rw [sub_whole] at h;have h:ZT ⟨#[c]⟩ [xt x 0 c0,xt x (c0+1) c1,xt x (c1+1) x.length]=x:=h;have g:=congrArg cl h;rw [show ZT ⟨#[c]⟩ [xt x 0 c0,xt x (c0+1) c1,xt x (c1+1) x.length]=xt x 0 c0++⟨#[c]⟩++(xt x (c0+1) c1++⟨#[c]⟩++xt x (c1+1) x.length) from rfl,Bv,Bv,Bv,Bv,l,m,i] at g
    have n:cl (⟨#[c]⟩:Str)=[c]:=rfl;rw [n] at g;have q:cl (xt x (c1+1) x.length)=t:=by
     have:a++[c]++(b++[c]++cl (xt x (c1+1) x.length))=a++c::(b++c::t):=g;simp only [Xs,wx,Qb] at this;have:=Fc this;have:=(XP this).2;have:=Fc this;exact (XP this).2
    rw [l,m,q]
 ·have:=congrArg QK d;rw [Y2,e] at this;simp only [X9] at this;omega
end Tx
namespace L2
open PySem PySem.Spec PyProof.Rows PySem.Builtin PySem.Builtin.Str Tx
inductive dI (x:V)(vs:List V)(H:Hp)(Q:VK):Prop | mk:∀i sa sb st:Str,(x=.str i)->(vs=[.str (Z3 " "),.int 2])->(cl i=cl sa++32::(cl sb++32::cl st))->(32∉cl sa)->(32∉cl sb)->(i.length+2<=Y3)->(∀p,H p=none->Q (.ref p) (upd H p (.lst [.str sa,.str sb,.str st])))->dI x vs H Q
theorem Ad1 {a b:Str}(h:cl a=cl b):a=b:=by
 obtain ⟨⟨x⟩⟩:=a;obtain ⟨⟨y⟩⟩:=b;have h:x=y:=h;rw [h]
theorem rJ {X:Cx}:MtM X "str.split" dI:=by
 intro g s A H x vs v us Q z j k h;obtain ⟨i,sa,a,st,rfl,rfl,hi,l,m,B,q⟩:=h;obtain ⟨t,rfl⟩:=j;obtain ⟨u,w,rfl,n,c⟩:=vals2 k;obtain ⟨t',rfl⟩:=n;obtain ⟨t2,rfl⟩:=c;have e1:(Z3 " ")=(⟨#[32]⟩:Str):=by decide+kernel
 obtain ⟨c0,c1,d,b⟩:=sG hi l m;rw [e1];have o:0 < i.length:=by
  have:(cl i).length=i.length:=by show i.cps.toList.length=_;rw [UF];rfl
  rw [hi] at this;simp only [X1,X9] at this;omega
 have p:(decide (i.length < (⟨#[32]⟩:Str).length) || decide (qE i < qE ⟨#[32]⟩))=false:=by
  have r:qE (⟨#[32]⟩:Str)=1:=by decide+kernel
  have C:1<=qE i:=by
   unfold qE
   split
   ·exact ZK _
   ·split<;>decide
  have y:(⟨#[32]⟩:Str).length=1:=rfl;rw [r,y,decide_eq_false (by omega),decide_eq_false (by omega)]
  rfl
 have f:limitOf i 2=2:=rfl;have hf:(WF i ⟨#[32]⟩ 0 i.length (limitOf i 2)).isEmpty=false:=by rw [f,d];rfl
 have pb:xo i (WF i ⟨#[32]⟩ 0 i.length (limitOf i 2)) (⟨#[32]⟩:Str).length=[sa,a,st]:=by
  rw [f,d];have b:(xo i [c0,c1] 1).map cl=[sa,a,st].map cl:=b;exact List.map_inj_right (λ _ _=>Ad1) |>.mp b
 refine xI XY (wE _ _ _) PySem.F.entry_str_split (PySem.F.args_str_split_3 _ _ _) (meets_str_split_sep_max i ⟨#[32]⟩ 2 t t' t2 (by decide) p rfl hf (by omega) (by rw [pb];show 3<=Y3;decide)) ?_
 show wants _ _ _ { s with toks:=_,heap:=s.heap.push { cls:=.type "list",data:=.seq (strsFrom s.toks (xo i (WF i ⟨#[32]⟩ 0 i.length (limitOf i 2)) (⟨#[32]⟩:Str).length)).toArray } }
 rw [pb,strsFrom_eq];refine ⟨.ref s.heap.objs.size,_,?_,rfl,q _ z.fresh⟩;have e:(numbered s.toks [sa,a,st]).map (·.1)=[sa,a,st]:=NM _ _
 have:[V.str sa,V.str a,V.str st]=((numbered s.toks [sa,a,st]).map (·.1)).map V.str:=by rw [e];rfl
 rw [this];exact z.lnew (Wk _) (by rw [e];show 3<=Y3;decide)
end L2
namespace L2
open PySem PySem.Spec PyProof.Rows PySem.Builtin
def Dk (p:GT)(x:Str):Int:=if x.cps.isEmpty=true then 0 else reduceHash (p.strHash x.cps)
theorem rP {w:World}{p:GT}(h:w.params=p)(x:Str):hashStr w x=Dk p x:=by
 subst h;rfl
inductive Ent (p:GT):List wP->List (Str×V)->Prop
 | nil:Ent p [] []
 | cons {e:wP} {x:Str} {t:Tok} {v:V} {es:List wP} {ps:List (Str×V)}:e.hash=Dk p x->e.key=.str x t->RelV v e.val->Ent p es ps->Ent p (e::es) ((x,v)::ps)
def Es (ps:List (Str×V)):List (Key×V):=ps.map λ q=>(.inr q.1,q.2)
theorem Ent.parts {P:Yf}{w:World}{p:GT}(b:w.params=p):∀{es:List wP} {ps:List (Str×V)},Ent p es ps->∃vs:List (Key×Value),KV (Es ps) vs/\Pairs (mixKind P w) es vs/\vs.map (·.1)=ps.map (λ q=>xk q.1)/\∀e∈es,∃k,(mixKind P w).is k e.key=true/\e.hash=(mixKind P w).hash k
 | _,_,.nil=>⟨[],.nil,.nil,rfl,λ _ h=>nomatch h⟩
 | _,_,@Ent.cons _ e x t v es ps d f g r=>by
  obtain ⟨vs,i,j,l,m⟩:=Ent.parts (P:=P) b r;have c:(mixKind P w).is (.inr x) e.key=true:=by rw [f];exact mC P w x t
  refine ⟨(.inr x,e.val)::vs,.cons ⟨rfl,g⟩ i,.cons c rfl j,by rw [YB,YB,l],λ n a=>?_⟩
  rcases X2.mp a with rfl | a
  ·exact ⟨.inr x,c,by rw [d,<- rP b];rfl⟩
  ·exact m n a
theorem gw:∀{l:List Str},l.Nodup->(l.map (xk:Str->Key)).Nodup
 | [],_=>.nil
 | a::l,h=>by
  rw [XO] at h;rw [YB,XO];refine ⟨λ z=>?_,gw h.2⟩
  obtain ⟨b,c,e⟩:=XW.mp z;cases e
  exact h.1 c
theorem gr {P:Yf}{w:World}{K:FrG}{a:Addr}{es:Array wP}{b:Nat}{p:GT}{ps:List (Str×V)}(c:w.params=p)(l:K.lookup a=some ⟨.type "dict",none,.dict es b,#[]⟩)(h:Ent p es.toList ps)(nd:(ps.map (·.1)).Nodup)(ns:(a == Qv)=false):DKG P w K a (Es ps):=by
 obtain ⟨vs,d,f,g,i⟩:=h.parts (P:=P) c;refine ⟨⟨vs,_,es,b,d,l,⟨rfl,rfl,rfl⟩,rfl,λ e j=>i e (Nn.mpr j),f,?_⟩,ns⟩
 rw [g];have:ps.map (λ q=>(xk q.1:Key))=(ps.map (·.1)).map xk:=by rw [zh];rfl
 rw [this];exact gw nd
end L2
namespace L2
open PySem PySem.Spec PyProof.Rows
def Mi (lo st:Int)(n:Nat):It:=⟨λ i _=>i < n,λ i H x a=>a=H/\x=.int (lo+(i:Nat) * st),λ i _=>n<=i⟩
theorem sE {P:Yf}{w:World}{K:FrG}{tg:Expr}(it:Addr)(lo c:Int)(n:Nat):Turn P w K tg (Mi lo c n) [it] it (λ i h=>NK h it (lo+(i:Nat) * c) ((n:Int) - (i:Nat)) c) where
 mem:=by simp
 obj:=λ i h st b a=>by
  have e:b=it:=by simpa using a
  subst e;exact ⟨_,st,λ v z=>nomatch (show Data.fields _=Data.cell v from z)⟩
 keep:=λ i h h' st k=>k it (by simp) _ st
 item:=by
  intro X g j l m i d s A H E B hf st p;subst g j l;obtain ⟨q,r,C,u,x,y⟩:=hf it (by simp)
  refine (Walks.range (prog:=X.prog) (w:=X.w) (B.ok.hd m) it lo c n).item i s _ _ p st λ v h' tk hv f D=>?_
  obtain ⟨t,rfl⟩:=hv;have F:Inv X d A H { s with heap:=h',toks:=tk }:=B.turned (λ b o a e=>D b o (by simpa using a) e) q r u x y
  exact ⟨_,rfl,Nq (s:={ s with heap:=h',toks:=tk }) (n:="range_iterator") f rfl rfl (by decide) ⟨.int (lo+(i:Nat) * c),H,F,⟨t,rfl⟩,⟨rfl,rfl⟩,f,λ b a=>(hf b a).1⟩⟩
 done:=by
  intro X g j l m i d s A H E B hf st p;subst g j l;obtain ⟨q,r,C,u,x,y⟩:=hf it (by simp)
  exact wpAny_pyNext_range_end (B.ok.hd m) st (by have:n<=i:=p;omega) λ h' G=>⟨rfl,B.turned (t':=s.toks) (λ b o a e=>G b o a e) q r u x y⟩
 self:=λ _ _ _ _ _ st h=>wpAny_pyIter_rangeiter st h
section
variable {X:Cx}{tg:Expr}
def AO0 (a:TA):TI:=λ b H e=>a b H λ vs d=>∃(i j c:Int) (n:Nat),vs=[.int i,.int j,.int c]/\c≠0/\Ue.Range.small i j c=true/\zQ i j c=(n:Int)/\Ue.divisionGoesByPylong (j - i) c=false/\e (Mi i c n) d
theorem uR {a b c:Expr}{m:TA}{p pos:Pos}(z:Gl X "range")(A:X.mg "range"=none)(B:PA X [a,b,c] m)(C:XA [a,b,c] X.env=[(false,eval a X.env),(false,eval b X.env),(false,eval c X.env)]:=by rfl)(k:XA [b,c] X.env=[(false,eval b X.env),(false,eval c X.env)]:=by rfl):
  PI X tg (.Call (.Name "range" p) [a,b,c] [] pos) (AO0 m):=by
 intro d s w H K J h;refine Call_ (Je J z A boot_range (QA (thn (B pos d s w H _ J h) λ us f ⟨vs,x,D,E,F⟩=>?_) (by rw [C,k]) (by rw [k];rfl)))
 obtain ⟨i,j,c,n,e,c0,sm,sz,np,q⟩:=F;subst e;cases E with
 | cons r g=>
  cases g with
  | cons G g=>
   cases g with
   | cons y g=>
    cases g
    obtain ⟨t,rfl⟩:=r;obtain ⟨u,rfl⟩:=G;obtain ⟨v,rfl⟩:=y;refine call_range_3 c0 (wpAny_pyIter_range (IsRange.new ..) sm ?_) (.inl np);have l:Inv X d w x { f with heap:=f.heap.push { cls:=.type "range",data:=.fields #[.int i t,.int j u,.int c v] } }:=D.kept (t':=f.toks) λ b o e=>ZE _ e
    refine ⟨_,[_],_,_,x,rfl,l.kept (t':=f.toks) λ b o e=>ZE _ e,sE _ i c n,?_,λ b I=>?_,q⟩
    ·have e1:i+((0:Nat):Int) * c=i:=by simp
     show NK _ _ (i+((0:Nat):Int) * c) ((n:Int) - ((0:Nat):Int)) c;rw [e1,<- sz,show zQ i j c - ((0:Nat):Int)=zQ i j c by simp]
     exact XU _ rfl
    ·have e:b=(f.heap.push { cls:=.type "range",data:=.fields #[.int i t,.int j u,.int c v] }).objs.size:=by simpa using I
     subst e;exact l.fpOk (ZK _) (l.hok.fresh (ZK _))
theorem AT1 {lo st:Int}{n:Nat}{r:TG}{tb:TS}{h:Ends}{a:St}{H:Hp}(b:Nat->St->Hp->Prop)(k:b 0 a H)
  (l:∀i a H,i < n->b i a H->r (.int (lo+(i:Nat) * st)) a H λ d g=>tb { h with nx:=b (i+1),ct:=b (i+1),bk:=h.nx } d g) (hd:∀a H,b n a H->h.nx a H):
  ∃o:Nat->Nat->St->Hp->Prop,(∃m,o 0 m a H)/\∀i m a H,o i m a H->
   ((Mi lo st n).stop i H/\h.nx a H)\/((Mi lo st n).go i H/\∃N:St->Hp->Prop,(∀e c,N e c->∃j,j < m/\o (i+1) j e c)/\∀x c,(Mi lo st n).yld i H x c->r x a c λ d g=>tb { h with nx:=N,ct:=N,bk:=h.nx } d g):=by
 refine ⟨λ i m a H=>m=n - i/\i<=n/\b i a H,⟨n,by simp,WO _,k⟩,?_⟩
 rintro i m a H ⟨rfl,hi,p⟩
 by_cases f:i < n
 ·refine .inr ⟨f,b (i+1),λ e c q=>⟨n - (i+1),by omega,rfl,f,q⟩,λ x c y=>?_⟩
  obtain ⟨rfl,rfl⟩:=y;exact l i a _ f p
 ·obtain rfl:i=n:=by omega
  exact .inl ⟨ZK _,hd a H p⟩
end
end L2
namespace Tx
open PySem PySem.Spec PySem.Builtin PySem.Builtin.Str L2 Lib Op
end Tx
namespace Lib
open PySem L2 Fr Op Tx
end Lib
namespace L2
open PySem PySem.Spec PyProof.Rows
section
variable {X:Cx}{k:Nat}{C:Addr}{ps:List Str}{sp:Sp}{x:Str}{p pos:Pos}{tg l:Expr}{tl:TE}
theorem AX7 (M:MkC X.prog X.w X.K X.mg X.base k x C ps sp)(b:RoomB true (k+1) X.A)(c:Gl X x:=by rfl)(a:(x == ("__debug__":Str))=false:=by decide):
  PE X (.Call (.Name x p) [] [] pos) (tMake C sp [] E0 tNil):=by
 obtain ⟨f,fd,g,d,e⟩:=M.ex;exact AV5 d g.ok b.room c M.mg e .nil Ah a
theorem qp (hl:PE X l tl):PI X tg l (λ a H c=>iList X.K tl a H c\/iTup X.K tl a H c):=λ b s a H c d h=>h.elim (Dc hl b s a H c d) (Qx hl b s a H c d)
end
end L2
namespace Tx
open PySem PySem.Spec PySem.Builtin PySem.Builtin.Str L2 Lib Fr Op
theorem Ka (s a b:Y1)(r:List Y1):ZT s (a::b::r)=a++s++ZT s (b::r):=rfl
theorem j1 (s a:Y1):ZT s [a]=a:=rfl
def K1 (u x:Y1)(qs:List Rat):Y1:=ZT ⟨#[32]⟩ (u::x::qs.map Ay)
def Bw (qs:List Rat):Y1:=ue (Z3 " ") (qs.map Ay)
theorem Kr {p u x:Y1}{q:Rat}{qs:List Rat}(h:cl p=cl u++[32]):p++x++Z3 " "++Bw (q::qs)=K1 u x (q::qs):=ext (by
 unfold K1 Bw;rw [Ek,YB,Ka,Ka,Gi];simp only [Bv,h,Xs])
theorem AH8 (q:Rat):Bw [q]=Ay q:=by
 unfold Bw;rw [Ek];exact j1 _ _
theorem AS7 {u x:Y1}{qs:List Rat}(b:32∉cl u)(c:32∉cl x):XG (K1 u x qs) (Z3 " ")=u::x::qs.map Ay:=by
 refine QS ?_;rw [Gi,JZ];refine M8 (by simp) λ t a=>?_
 rcases X2.mp a with rfl | a
 ·exact b
 rcases X2.mp a with rfl | a
 ·exact c
 obtain ⟨q,_,rfl⟩:=XW.mp a;exact Gq q 32 (by decide)
theorem W5:∀a:List Y1,(ZT ⟨#[32]⟩ a).length<=(a.map λ t=>t.length+1).sum
 | []=>WO _
 | [t]=>by rw [j1];simp
 | t::u::r=>by
  have:=W5 (u::r);rw [Ka,<- Dm,Bv,Bv,X1,X1,YB,yT];simp only [Dm];have e:(UC #[32]).length=1:=rfl;omega
theorem Ke {a:Type}{f:a->Nat}{c:Nat}:∀{l:List a},(∀x∈l,f x<=c)->(l.map f).sum<=l.length * c
 | [],_=>WO _
 | x::l,h=>by
  rw [YB,yT,X9,FE];have:=h x U1;have:=Ke (l:=l) λ y b=>h y (Y9 _ b)
  omega
theorem AS2 {u x:Y1}{qs:List Rat}(c:u.length<=8)(d:x.length<=8)(a:qs.length<=5)(h:∀q∈qs,Short q):(K1 u x qs).length<=300:=by
 have b:=W5 (u::x::qs.map Ay);rw [YB,yT,YB,yT,zh] at b;have e:(qs.map ((λ t:Y1=>t.length+1) ∘ Ay)).sum<=qs.length * 41:=Ke λ q a=>xl (Oj (h q a))
 have f:qs.length * 41<=5 * 41:=YP _ a;show (ZT ⟨#[32]⟩ (u::x::qs.map Ay)).length<=300;omega
theorem Gk:(2:Nat) ^ 1900<=10 ^ 575:=by decide+kernel
theorem Kf {q:Rat}(h:Bd 1900 q):(Ay q).length<=1200:=by
 have a:=(Fe (m:=q.num.natAbs) (k:=575) (by decide)).mpr (Y7 h.1 Gk)
 have b:=(Fe (m:=q.den) (k:=575) (by decide)).mpr (Y7 h.2 Gk)
 rw [<- Dm,JP];unfold sh
 split<;>split<;>simp only [X1,X9,YG]<;>omega
theorem cB {qs:List Rat}(h:∀q∈qs,Bd 1900 q)(hl:qs.length<=60):JoinOk (Z3 " ") (qs.map Ay)=true:=by
 refine JL ?_ (by decide+kernel)
 have b:((qs.map Ay).map (·.length)).sum<=qs.length * 1200:=by
  rw [zh];exact Ke λ q a=>Kf (h q a)
 have c:qs.length * 1200<=60 * 1200:=YP _ hl;rw [Y2];omega
end Tx
namespace Lib
open PySem L2 Fr Op Tx
def BnA (K:FrG)(H:Hp)(l:Addr)(ps:List Pc):Prop:=∃xs,H l=some (.lst xs)/\DVs K H xs (ps.map CV)/\xs.length=ps.length
theorem BnA.of {K:FrG}{H:Hp}{l:Addr}{xs:List V}{ps:List Pc}(h:H l=some (.lst xs))(d:DVs K H xs (ps.map CV)):BnA K H l ps:=⟨xs,h,d,by have:=d.len;rw [Y2] at this;exact this⟩
theorem BnA.keep {K:FrG}{H a:Hp}{l:Addr}{ps:List Pc}(h:BnA K H l ps)(s:Same H a):BnA K a l ps:=by
 obtain ⟨xs,b,c,d⟩:=h;exact ⟨xs,s _ _ b,c.keep s,d⟩
theorem BnA.dv {K:FrG}{H:Hp}{l:Addr}{ps:List Pc}(h:BnA K H l ps):DV K H (.ref l) (Ec ps):=by
 obtain ⟨xs,a,b,c⟩:=h;exact .lst (SqL.of a) b
theorem jx {m:Nat}{p:Pc}(ok:p.ok)(b:p.bd m)(c:m<=40):Ef p:=by
 have sh:∀q:Rat,Bd m q->Short q:=λ q h=>by
  have e:(2:Nat) ^ 40<=10 ^ 15:=by decide
  have f:(2:Nat) ^ m<=2 ^ 40:=zi (by decide) c
  exact ⟨by have:=h.n;omega,by have:=h.d;omega⟩
 refine ⟨ok,λ q a=>?_⟩
 cases p with
 | gap g=>rw [W1.mp a];exact sh _ b
 | glass g=>rw [W1.mp a];exact sh _ b
 | stop lo hi=>
  rcases X2.mp a with rfl | h
  ·exact sh _ b.1
  ·rw [W1.mp h];exact sh _ b.2
abbrev Di:=Str->Option (List Pc)
def setB (a:Di)(x:Str)(ps:List Pc):Di:=λ y=>if y=x then some ps else a y
def OkB (ps:List Pc):Prop:=ps.length<=8/\∀p∈ps,Ef p
theorem OkB.sh {ps:List Pc}(h:OkB ps):∀p∈ps,Ef p:=h.2
theorem AH5 {m M n:Nat}(a:m<=n)(b:M<=n):∀{p:Pc},p.fd m M->p.bd n
 | .gap _,h=>Bd.mono h a
 | .glass _,h=>Bd.mono h a
 | .stop _ _,h=>⟨h.1.mono b,h.2.mono b⟩
theorem KH {q:Rat}(h:Short q):Bd 50 q:=by
 have a:(10:Nat) ^ 15<=2 ^ 50:=by decide
 exact ⟨Y7 h.n a,Y7 h.d a⟩
theorem AN9 {p:Pc}(h:Ef p):p.bd 50:=by
 cases p with
 | gap q=>exact KH (h.2 q (by simp [fracs]))
 | glass q=>exact KH (h.2 q (by simp [fracs]))
 | stop lo hi=>exact ⟨KH (h.2 lo (by simp [fracs])),KH (h.2 hi (by simp [fracs]))⟩
theorem OkB.good {ps:List Pc}(h:OkB ps):Good 50 ps:=⟨Zo h.1 (by decide),λ p a=>(h.2 p a).1,λ p a=>AN9 (h.2 p a)⟩
def OkS (ps:List Pc):Prop:=ps.length<=7/\∀p∈ps,Ef p/\p.fd 12 17
theorem OkS.w {ps:List Pc}(h:OkS ps):OkB ps:=⟨Zo h.1 (by decide),λ p a=>(h.2 p a).1⟩
theorem OkS.good {ps:List Pc}(h:OkS ps):Good 18 ps:=⟨Zo h.1 (by decide),λ p a=>(h.2 p a).1.1,λ p a=>AH5 (by decide) (by decide) (h.2 p a).2⟩
def DicB (K:FrG)(H:Hp)(q:List Addr)(a:List (Key×V))(b:Di):Prop:=∀x:Str,match b x with
 | none=>valV a (.inr x)=none
 | some ps=>OkB ps/\∃l,valV a (.inr x)=some (.ref l)/\BnA K H l ps/\l∉q
section
variable {K:FrG}{H H':Hp}{q:List Addr}{a l:Addr}{kvs:List (Key×V)}{S:Di}{ps:List Pc}{x:Str}
theorem DicB.at (h:DicB K H q kvs S)(e:S x=some ps):OkB ps/\∃l,valV kvs (.inr x)=some (.ref l)/\BnA K H l ps/\l∉q:=by
 have:=h x;rw [e] at this;exact this
theorem DicB.map (h:DicB K H q kvs S)(f:∀l ps,BnA K H l ps->l∉q->BnA K H' l ps):DicB K H' q kvs S:=λ x=>by
 have:=h x;cases e:S x with
 | none=>rw [e] at this;exact this
 | some ps=>
  rw [e] at this;obtain ⟨o,l,c,d,b⟩:=this;exact ⟨o,l,c,f l ps d b,b⟩
theorem Ls (h:BnA K H l ps)(t:Gd H H')(s:∀o,H l=some o->H' l=some o):BnA K H' l ps:=by
 obtain ⟨xs,b,c,d⟩:=h;exact ⟨xs,s _ b,Cv t (DY KD ps) c,d⟩
theorem DicB.keep (h:DicB K H q kvs S)(s:Same H H'):DicB K H' q kvs S:=h.map λ l ps b _=>b.keep s
theorem oA {c:List (Key×V)}(h:H a=some (.dK c))(s:SD a H H'):Gd H H':=λ b d=>⟨λ e=>s b _ (λ z=>by rw [z,h] at e;cases e) e,λ o e=>s b _ (λ z=>by rw [z,h] at e;cases e) e⟩
theorem eN {d:List (Key×V)}(h:BnA K H l ps)(b:H a=some (.dK d))(s:SD a H H'):BnA K H' l ps:=by
 refine Ls h (oA b s) λ o e=>s _ _ (λ z=>?_) e
 obtain ⟨xs,c,_⟩:=h;rw [z,b] at c;cases c
theorem DicB.keepD {c:List (Key×V)}(h:DicB K H q kvs S)(d:H a=some (.dK c))(s:SD a H H'):DicB K H' q kvs S:=h.map λ l ps b _=>eN b d s
theorem DicB.nil:DicB K H q [] (λ _=>none):=λ _=>rfl
theorem DicB.put (h:DicB K H q kvs S)(b:BnA K H l ps)(n:l∉q)(o:OkB ps):DicB K H q (putK kvs (.inr x) (.ref l)) (setB S x ps):=λ y=>by
 unfold setB;by_cases e:y=x
 ·subst e;rw [if_pos rfl];exact ⟨o,l,by rw [aF,if_pos rfl],b,n⟩
 ·rw [if_neg e];have c:¬ (xk y:Key)=.inr x:=λ z=>e (xk.inj z)
  have:=h y;cases f:S y with
  | none=>rw [f] at this;rw [show valV (putK kvs (.inr x) (.ref l)) (.inr y)=valV kvs (.inr y) by rw [aF,if_neg c]];exact this
  | some qs=>
   rw [f] at this;obtain ⟨o,l,d,g,i⟩:=this;exact ⟨o,l,by rw [aF,if_neg c];exact d,g,i⟩
end
theorem wy (a:List (Key×V))(k:Key)(v:V):(putK a k v).length<=a.length+1:=by
 unfold putK
 split
 ·rw [Y2];omega
 ·simp
structure DkA (K:FrG)(H:Hp)(q:List Addr)(C o dx d:Addr)(S:Di)(n:Nat):Prop where
 o:H o=some (.ins C dx [("benches",.ref d)])
 d:∃kvs,H d=some (.dK kvs)/\kvs.length<=n/\DicB K H q kvs S
section
variable {K:FrG}{H H':Hp}{q:List Addr}{C o dx d a l:Addr}{S:Di}{n:Nat}{ps:List Pc}{x:Str}
theorem DkA.keep (h:DkA K H q C o dx d S n)(s:Same H H'):DkA K H' q C o dx d S n:=by
 obtain ⟨b,c,e,f⟩:=h.d;exact ⟨s _ _ h.o,b,s _ _ c,e,f.keep s⟩
theorem DkA.ok (h:DkA K H q C o dx d S n)(e:S x=some ps):OkB ps:=by
 obtain ⟨c,f,g,b⟩:=h.d;exact (b.at e).1
theorem DkA.ne (h:DkA K H q C o dx d S n):o≠d:=λ e=>by
 obtain ⟨c,b,_⟩:=h.d;have:=h.o;rw [e,b] at this;cases this
theorem DkA.put {c:List (Key×V)}(h:DkA K H q C o dx d S n)(e:H d=some (.dK c))(b:BnA K H l ps)(f:l∉q)(ok:OkB ps):DkA K (upd H d (.dK (putK c (.inr x) (.ref l)))) q C o dx d (setB S x ps) (n+1):=by
 obtain ⟨g,i,k,j⟩:=h.d;cases i.symm.trans e
 refine ⟨by rw [BK h.ne];exact h.o,_,Ar,Zo (wy _ _ _) (by omega),?_⟩
 exact (j.put b f ok).keepD e Qp
end
inductive eZ (C:Addr)(vs:List V)(H:Hp)(Q:VK)(zz3:XK):Prop | mk:∀a dx,(vs=[.ref a])->(H a=some (.ins C dx []))->(∀d,H d=none->Q .non (upd (upd H d (.dK [])) a (.ins C dx [("benches",.ref d)])))->eZ C vs H Q zz3
inductive nO (K:FrG)(C:Addr)(vs:List V)(H:Hp)(Q:VK)(zz3:XK):Prop | mk:∀(o dx d:Addr) (q:List Addr) (x:Str) (S:Di) (n:Nat) (ps:List Pc),(vs=[.ref o,.str x])->(DkA K H q C o dx d S n)->(S x=some ps)->(∀l,BnA K H l ps->l∉q->Q (.ref l) H)->nO K C vs H Q zz3
inductive iZ (K:FrG)(C:Addr)(vs:List V)(H:Hp)(Q:VK)(zz3:XK):Prop | mk:∀(o dx d:Addr) (q:List Addr) (l:Addr) (x:Str) (S:Di) (n:Nat) (ps:List Pc),(vs=[.ref o,.str x,.ref l])->(DkA K H q C o dx d S n)->(n<=1000)->(BnA K H l ps)->(l∉q)->(OkB ps)->(∀H',SD d H H'->DkA K H' q C o dx d (setB S x ps) (n+1)->Q (.str "ok") H')->iZ K C vs H Q zz3
def Nm (x:Str):Prop:=nameB x=true
def Gb (x t:Str):Str:=Z3 "bench "++x++Z3 " "++t
inductive Zh (K:FrG)(C:Addr)(vs:List V)(H:Hp)(Q:VK)(zz3:XK):Prop | mk:∀(o dx d:Addr) (q:List Addr) (x:Str) (S:Di) (n:Nat) (ps:List Pc),(vs=[.ref o,.str (Gb x (Ed ps))])->(DkA K H q C o dx d S n)->((∀a∈q,∃z,H a=some z))->(n<=1000)->(Nm x)->(OkB ps)->(∀H',SD d H H'->DkA K H' q C o dx d (setB S x ps) (n+1)->Q (.str "ok") H')->Zh K C vs H Q zz3
inductive qT (vs:List V)(H:Hp)(Q:VK)(zz3:XK):Prop | mk:∀x:Str,(vs=[.str x])->(Nm x)->(∀H',Same H H'->Q .non H')->qT vs H Q zz3
inductive Jc (K:FrG)(R:List Pc->List Rat->Str->Prop)(vs:List V)(H:Hp)(Q:VK)(zz3:XK):Prop | mk:∀(v u:V) (ps:List Pc) (qs:List Rat) (t:Str),(vs=[v,u])->(DV K H v (Ec ps))->(OkB ps)->(DV K H u (.list (qs.map Aj)))->(R ps qs t)->(∀H',Same H H'->Q (.str t) H')->Jc K R vs H Q zz3
inductive Jj (K:FrG)(C:Addr)(u:Str)(m:Nat)(R:List Pc->List Rat->Str->Prop)(vs:List V)(H:Hp)(Q:VK)(zz3:XK):Prop | mk:∀(o dx d:Addr) (q:List Addr) (x:Str) (S:Di) (n:Nat) (ps:List Pc) (qs:List Rat) (t:Str),(vs=[.ref o,.str (K1 u x qs)])->(DkA K H q C o dx d S n)->(Nm x)->(S x=some ps)->(qs.length=m)->((∀q∈qs,Short q))->((u=Z3 "sharp"->∃q,qs[4]?=some q/\0<=q))->(R ps qs t)->(∀H',Same H H'->Q (.str t) H')->Jj K C u m R vs H Q zz3
theorem vp:Lq ⟨#[32]⟩=false:=by decide+kernel
theorem Nm.no {x:Str}(h:Nm x):32∉cl x:=λ m=>by
 have h:nameB x=true:=h;unfold nameB at h;have b:=(WS.mp h).2;have a:=GV.mp b ⟨#[32]⟩ (XW.mpr ⟨32,m,rfl⟩);rw [vp] at a;cases a
theorem Nm.len {x:Str}(h:Nm x):x.length<=8:=AZ2 h
theorem Jx (x:Str):(cl x).length=x.length:=rfl
theorem V7 (x t:Str):cl (Gb x t)=cl (Z3 "bench")++32::(cl x++32::cl t):=by
 unfold Gb;rw [Bv,Bv,Bv,show cl (Z3 "bench ")=cl (Z3 "bench")++[32] by decide+kernel,show cl (Z3 " ")=[32] by decide+kernel]
 simp only [Xs];rfl
theorem uE {x t:Str}(h:Nm x):∃r,XG (Gb x t) (Z3 " ")=Z3 "bench"::r:=by
 have e:(XG (Gb x t) ⟨#[32]⟩).map cl=cl (Z3 "bench")::cut 32 (cl x++32::cl t):=by
  rw [JZ,V7,Ij _ (by decide+kernel)]
 have e:(XG (Gb x t) (Z3 " ")).map cl=cl (Z3 "bench")::cut 32 (cl x++32::cl t):=e;cases f:XG (Gb x t) (Z3 " ") with
 | nil=>rw [f] at e;cases e
 | cons a r=>
  rw [f] at e
  injection e with e1 e2
  exact ⟨r,by rw [ext e1]⟩
theorem bj {x t:Str}(h:Nm x):(Gb x t).length=t.length+x.length+7:=by
 rw [<- Jx,V7];simp only [X1,X9,Jx];rw [show (Z3 "bench").length=5 by decide+kernel]
 omega
def IV (a t r:Int):Str:=Wt (Z3 "lens") none (some t)++⟨#[97+a.toNat]⟩++Wt (Z3 "lens") (some t) (some (t+r))
def called (z i:Int):Str:=if z % 3=0 then NR (Z3 "m") (1+i) else IV ((z / 24+5 * i) % 26) (z / 3 % 5) (z % 4)
theorem YX:∀a:Fin 26,∀t:Fin 5,∀r:Fin 4,nameB (IV (a.val:Nat) (t.val:Nat) (r.val:Nat))=true/\IV (a.val:Nat) (t.val:Nat) (r.val:Nat)≠IV (((a.val+5) % 26:Nat):Int) (t.val:Nat) (r.val:Nat):=by decide+kernel
theorem Aa3:∀i:Fin 4,nameB (NR (Z3 "m") (1+((i.val:Nat):Int)))=true:=by decide+kernel
theorem Rz (z:Int){i:Int}(b:0<=i)(h:i < 4):Nm (called z i):=by
 unfold Nm called
 split
 ·have:=Aa3 ⟨i.toNat,by omega⟩
  have e:((i.toNat:Nat):Int)=i:=by omega
  simp only [e] at this;exact this
 ·have:=(YX ⟨((z / 24+5 * i) % 26).toNat,by omega⟩ ⟨(z / 3 % 5).toNat,by omega⟩ ⟨(z % 4).toNat,by omega⟩).1
  have e1:((((z / 24+5 * i) % 26).toNat:Nat):Int)=(z / 24+5 * i) % 26:=by omega
  have e2:(((z / 3 % 5).toNat:Nat):Int)=z / 3 % 5:=by omega
  have a:(((z % 4).toNat:Nat):Int)=z % 4:=by omega
  simp only [e1,e2,a] at this;exact this
theorem yj:∀a:Fin 26,(Z3 "abcdefghijklmnopqrstuvwxyz").cps[a.val]?=some (97+a.val):=by decide+kernel
theorem vd:∀t:Fin 5,∀r:Fin 4,(Wt (Z3 "lens") none (some ((t.val:Nat):Int))).length<=4/\(Wt (Z3 "lens") (some ((t.val:Nat):Int)) (some (((t.val:Nat):Int)+((r.val:Nat):Int)))).length<=4:=by decide+kernel
inductive Q3 (K:FrG)(vs:List V)(H:Hp)(Q:VK)(zz3:XK):Prop | mk:∀(v:V) (q:Rat),(vs=[v])->(DV K H v (Aj q))->(Bd 1900 q)->(Q (.str (Ay q)) H)->Q3 K vs H Q zz3
def PBig (p:Pc):Prop:=p.ok/\∀q∈fracs p,Bd 1900 q
inductive nY (K:FrG)(vs:List V)(H:Hp)(Q:VK)(zz3:XK):Prop | mk:∀(v:V) (p:Pc),(vs=[v])->(DV K H v (CV p))->(PBig p)->(∀H',Same H H'->Q (.str (FZ p)) H')->nY K vs H Q zz3
inductive qI (K:FrG)(vs:List V)(H:Hp)(Q:VK)(zz3:XK):Prop | mk:∀(v:V) (ps:List Pc),(vs=[v])->(DV K H v (Ec ps))->(ps.length<=60)->((∀p∈ps,PBig p))->(∀H',Same H H'->Q (.str (Ed ps)) H')->qI K vs H Q zz3
theorem Sq {m:Nat}(h:m < 2 ^ 1900):m.log2 < 1920:=Fr.eV (QB h (by decide+kernel)) (by decide)
theorem Ji {q:Rat}(h:Short q):Bd 1900 q:=by
 have a:(10:Nat) ^ 15<=2 ^ 1900:=by decide+kernel
 exact ⟨Y7 h.n a,Y7 h.d a⟩
theorem PBig.of {p:Pc}(h:Ef p):PBig p:=⟨h.1,λ q a=>Ji (h.2 q a)⟩
theorem OkB.pbig {ps:List Pc}(h:OkB ps):∀p∈ps,PBig p:=λ p a=>.of (h.sh p a)
theorem qg (p:Pc)(h:PBig p):∀t∈toks p,t.length<=1200:=λ t a=>by
 rcases X2.mp (show t∈wd p::(fracs p).map Ay from a) with rfl | a
 ·cases p with
  | gap _=>exact Zo (show (Z3 "gap").length<=5 by decide+kernel) (by decide)
  | glass _=>exact Zo (show (Z3 "glass").length<=5 by decide+kernel) (by decide)
  | stop _ _=>exact Zo (show (Z3 "stop").length<=5 by decide+kernel) (by decide)
 ·obtain ⟨q,b,rfl⟩:=XW.mp a;exact Kf (h.2 q b)
inductive lZ (vs:List V)(H:Hp)(Q:VK)(zz3:XK):Prop | mk:∀n:Int,(vs=[.int n])->(n.natAbs < 10 ^ 575)->(∀z:Y1,cl z=(if n < 0 then [45] else [])++dg n.natAbs->Q (.str z) H)->lZ vs H Q zz3
inductive Z9 (K:FrG)(vs:List V)(H:Hp)(Q:VK)(zz3:XK):Prop | mk:∀(v:V) (qs:List Rat),(vs=[v])->((DV K H v (.list (qs.map Aj))\/DV K H v (.tuple (qs.map Aj))))->((∀q∈qs,Bd 1900 q))->(qs.length<=60)->(∀H',Same H H'->Q (.str (Bw qs)) H')->Z9 K vs H Q zz3
def LC (n:Nat):Str:=Z3 (toString (n:Int))
theorem sO (n:Nat):cl (LC n)=dg n:=by
 unfold LC;rw [Lj,if_neg (by omega),Qb,YV]
def G7 (ps:List Pc)(r:Ab):Ab:=lastOf (wk 0 ps r).1 r
def Hy (ps:List Pc)(r:Ab):Str:=match (walk ps r).2 with
 | some n=>Z3 "stopped "++LC n
 | none=>Z3 "by "++Bw [(G7 ps r).1,(G7 ps r).2]
def Jv (t:Tab)(s:Rat):Str:=match img t s with
 | none=>Z3 "none"
 | some p=>Bw [p,1 / (spread t s).2]
def Gr (cs:List Ab):Str:=if cs=[] then Z3 "none" else ue (Z3 ", ") (cs.map λ r=>Bw [r.1,r.2])
def GC (t:Tab)(x:Lamp)(m:Rat):Str:=if growing t x=0 then (if m < Gf t x 0 then Z3 "none" else Z3 "all") else Bw [mid t x.s - reach t x m,mid t x.s+reach t x m]
def El (ps:List Pc)(x:Lamp)(m:Rat):Str:=match Ei (Bg ps) x.h x.s x.f x.l with
 | none=>Z3 "dark"
 | some a=>GC (tabOf ps) ⟨x.h,x.s,a.1,a.2⟩ m
def mR (ps:List Pc)(qs:List Rat)(t:Str):Prop:=∃y u,qs=[y,u]/\Short y/\Short u/\t=Hy ps (y,u)
def jX (ps:List Pc)(qs:List Rat)(t:Str):Prop:=OkS ps/\∃s,qs=[s]/\Bd 12 s/\t=Jv (tabOf ps) s
def bD (ps:List Pc)(qs:List Rat)(t:Str):Prop:=OkS ps/\∃x:Box,qs=[x.a,x.b,x.c,x.d]/\x.ok/\x.bd 12/\t=Gr (Ds (Bg ps) x)
def mJ (ps:List Pc)(qs:List Rat)(t:Str):Prop:=OkS ps/\∃(x:Lamp) (m:Rat),qs=[x.h,x.s,x.f,x.l,m]/\LpB 12 x/\0<=m/\Bd 12 m/\t=El ps x m
section
variable {ps:List Pc}{t:Tab}{x:Lamp}{m:Rat}{r:Ab}
theorem NB {q:Rat}{n:Nat}(h:Bd n q)(a:n<=40):Short q:=by
 have b:(2:Nat) ^ 40<=10 ^ 15:=by decide
 have c:(2:Nat) ^ n<=2 ^ 40:=zi (by decide) a
 exact ⟨by have:=h.1;omega,by have:=h.2;omega⟩
theorem OkS.tb (h:OkS ps):Tb 154 (tabOf ps):=oX h.good (Zo h.1 (by decide))
theorem Tj (h:OkB ps)(a:RB 100 r):Bd 1900 (G7 ps r).1/\Bd 1900 (G7 ps r).2:=by
 have z:=Ad5 h.good.bd a _ (uc (qX ps r));have l:=YP (50+1) h.1;exact ⟨z.y.mono (by omega),z.u.mono (by omega)⟩
theorem aY (h:OkS ps){s:Rat}(f:Bd 12 s){p:Rat}(e:img (tabOf ps) s=some p):Bd 1900 p/\Bd 1900 (1 / (spread (tabOf ps) s).2):=by
 have tb:=h.tb;have b1:Bd 321 (spread (tabOf ps) s).1:=((tb.a.mul f).add tb.b).mono (by decide)
 have b2:Bd 321 (spread (tabOf ps) s).2:=((tb.c.mul f).add tb.d).mono (by decide)
 unfold img at e
 split at e
 ·cases e
 ·rename_i g
  cases e
  exact ⟨((Ff 1 (by decide)).sub (b1.div b2 g)).mono (by decide),((HY 1 (by decide)).div b2 g).mono (by decide)⟩
theorem OkS.field (h:OkS ps){x:Box}(o:x.ok)(b:x.bd 12):FieldOk 80 17 (Bg ps) x:=
 ⟨o,⟨b.a.mono (by decide),b.b.mono (by decide),b.c.mono (by decide),b.d.mono (by decide)⟩,by decide,λ l hl=>(AU3 (λ p e=>(h.2 p e).2) l hl).mono (by have:=YP (12+1) (show ps.length - 1<=6 by have:=h.1;omega);omega) (ZK _)⟩
theorem oN (h:OkS ps){x:Box}(o:x.ok)(b:x.bd 12):∀r∈Ds (Bg ps) x,Bd 1900 r.1/\Bd 1900 r.2:=λ r a=>by
 have z:=(h.field o b).poly.rn r a;exact ⟨z.1.mono (by decide),z.2.mono (by decide)⟩
theorem OkS.lpv (h:OkS ps)(a:LpB 12 x){c g':Rat}(e:Ei (Bg ps) x.h x.s x.f x.l=some (c,g')):LpV ⟨x.h,x.s,c,g'⟩:=by
 obtain ⟨d,g,i⟩:=W7 e;have q:∀y∈Ew (Bg ps) x.h x.s,Bd 160 y:=λ y j=>(Ad3 (m:=12) (M:=17) (λ p k=>(h.2 p k).2) a.h a.s y j).mono (by
  have:=YP (12+2) (show ps.length - 1<=6 by have:=h.1;omega)
  omega)
 refine ⟨a.h,a.s,?_,?_,i a.o⟩
 ·rcases X2.mp d with rfl | b
  ·exact a.f.mono (by decide)
  ·exact q _ b
 ·rcases X2.mp g with rfl | b
  ·exact a.l.mono (by decide)
  ·exact q _ b
theorem uV (a:Tb 154 t)(b:LpV x)(d:Bd 12 m)(c:growing t x≠0):Bd 1900 (mid t x.s - reach t x m)/\Bd 1900 (mid t x.s+reach t x m):=by
 have e1:=lW a b c;have e2:=o9 a b c (d.mono (by decide))
 exact ⟨(e1.sub e2).mono (by decide),(e1.add e2).mono (by decide)⟩
end
theorem nJ {K:FrG}{H:Hp}{v:V}{qs:List Rat}{t:VK}(hv:DV K H v (.list (qs.map Aj))\/DV K H v (.tuple (qs.map Aj)))(big:∀q∈qs,Bd 1900 q)(u:qs.length<=60)(k:∀p o,Same H o->o p=some (.lst ((qs.map Ay).map V.str))->t (.ref p) o):
  Jh (λ c H w=>iList K (tVar 0) c H w\/iTup K (tVar 0) c H w) (gName 0) IK (tCall (Q3 K) [] E0 (tCons (tVar 0) tNil)) [none] [some v] H t:=by
 have step:∀{xs:List V},DVs K H xs (qs.map Aj)->∀(i:Nat) (x:V),xs[i]?=some x->∃r,qs[i]?=some r/\DV K H x (Aj r):=λ {xs} f i x hi=>by
  obtain ⟨d,hd,l⟩:=f.get hi;rw [ZN] at hd;obtain ⟨r,j,rfl⟩:=QE.mp hd;exact ⟨r,j,l⟩
 have n:∀{i:Nat} {r:Rat},qs[i]?=some r->((qs.take i).map Ay).map V.str++[V.str (Ay r)]=((qs.take (i+1)).map Ay).map V.str:=λ {i r} e=>by
  rw [Xe,e,U4,U4];rfl
 have few:∀i,(((qs.take i).map Ay).map V.str).length<=Y3:=λ i=>by
  rw [Y2,Y2,YR];exact XT (small1000 (by omega))
 rcases hv with hv | hv
 ·obtain ⟨b,xs,rfl,m,f⟩:=hv.lst_of;have hl:xs.length=qs.length:=by have:=f.len;rw [Y2] at this;exact this
  refine .inl ⟨_,rfl,b,rfl,⟨_,m⟩,?_⟩;refine Io (K:=K) (a:=b) (xs:=xs) (λ i c g h=>∃c0,c=[c0]/\g=((qs.take i).map Ay).map V.str/\h=H) ⟨_,rfl,rfl,rfl⟩ ?_ ?_ ?_
  ·rintro i c g h hi ⟨c0,rfl,rfl,rfl⟩
   exact ⟨few i,m⟩
  ·rintro i x c g h hi ⟨c0,rfl,rfl,rfl⟩
   obtain ⟨r,j,l⟩:=step f i x hi;exact ⟨_,rfl,x,r,rfl,l,big r (ZB j),nx (CT hi) ⟨_,rfl,n j,rfl⟩⟩
  ·rintro c g h p ⟨c0,rfl,rfl,rfl⟩ s
   rw [hl,YU];exact k p _ (Am s _) Ar
 ·obtain ⟨b,xs,rfl,m,f⟩:=hv.tup_of;have hl:xs.length=qs.length:=by have:=f.len;rw [Y2] at this;exact this
  refine .inr ⟨_,rfl,b,rfl,⟨_,m⟩,?_⟩;refine R1 (K:=K) (a:=b) (xs:=xs) (λ i c g h=>∃c0,c=[c0]/\g=((qs.take i).map Ay).map V.str/\h=H) ⟨_,rfl,rfl,rfl⟩ ?_ ?_ ?_
  ·rintro i c g h hi ⟨c0,rfl,rfl,rfl⟩
   exact ⟨few i,m⟩
  ·rintro i x c g h hi ⟨c0,rfl,rfl,rfl⟩
   obtain ⟨r,j,l⟩:=step f i x hi;exact ⟨_,rfl,x,r,rfl,l,big r (ZB j),nx (CT hi) ⟨_,rfl,n j,rfl⟩⟩
  ·rintro c g h p ⟨c0,rfl,rfl,rfl⟩ s
   rw [hl,YU];exact k p _ (Am s _) Ar
theorem Zk {y u:Rat}(a:Short y)(b:Short u):RB 100 (y,u):=Rb.of (KH a) (KH b)
theorem Gm {qs:List Rat}(h:∀q∈qs,Bd 1900 q)(hl:qs.length<=5):(Bw qs).length<=6005:=by
 unfold Bw;rw [Ek,Gi];have a:=W5 (qs.map Ay);rw [zh] at a;have c:(qs.map ((λ t:Y1=>t.length+1) ∘ Ay)).sum<=qs.length * 1201:=Ke λ q b=>xl (Kf (h q b))
 have d:=YP 1201 hl;omega
theorem vZ {cs:List Ab}(h:∀r∈cs,Bd 1900 r.1/\Bd 1900 r.2)(hl:cs.length<=20):JoinOk (Z3 ", ") (cs.map λ r=>Bw [r.1,r.2])=true:=by
 refine JL ?_ (by decide+kernel)
 have c:((cs.map λ r=>Bw [r.1,r.2]).map (·.length)).sum<=cs.length * 6005:=by
  rw [zh];exact Ke λ r b=>Gm (qs:=[r.1,r.2]) (λ q a=>by
   rcases X2.mp a with rfl | a
   ·exact (h r b).1
   ·rw [W1.mp a];exact (h r b).2) (by show 2<=5;decide)
 have d:=YP 6005 hl;rw [Y2];omega
theorem all2 {a b:Rat}(d:Bd 1900 a)(e:Bd 1900 b):∀q∈[a,b],Bd 1900 q:=λ q c=>by
 rcases X2.mp c with rfl | c
 ·exact d
 ·rw [W1.mp c];exact e
theorem AY4 {n:Nat}(h:n < 2 ^ 1900):(LC n).length<=575:=by
 rw [<- Jx,sO];exact (Fe (by decide)).mpr (Y7 h Gk)
theorem xJ {n:Nat}(h:n < 8):n < 2 ^ 1900:=Y7 (show n < 2 ^ 3 by omega) (zi (by decide) (by decide))
def BnL (K:FrG)(H:Hp)(bs:List Addr)(a:List (List Pc)):Prop:=bs.length=a.length/\∀(i:Nat) (b:Addr) (ps:List Pc),bs[i]?=some b->a[i]?=some ps->BnA K H b ps
section
variable {K:FrG}{H H':Hp}{bs:List Addr}{pss:List (List Pc)}{b l q:Addr}{ps:List Pc}
theorem BnL.map (h:BnL K H bs pss)(f:∀b∈bs,∀ps,BnA K H b ps->BnA K H' b ps):BnL K H' bs pss:=⟨h.1,λ i b ps a c=>f b (ZB a) ps (h.2 i b ps a c)⟩
theorem BnL.keep (h:BnL K H bs pss)(s:Same H H'):BnL K H' bs pss:=h.map λ _ _ _ z=>z.keep s
theorem BnL.sd {xs:List V}(h:BnL K H bs pss)(hl:H l=some (.lst xs))(s:SD l H H')(n:∀b∈bs,b≠l):BnL K H' bs pss:=h.map λ b a ps z=>Ls z (s.t hl) λ o e=>s _ _ (n b a) e
theorem BnL.sdD {a:List (Key×V)}(h:BnL K H bs pss)(hl:H l=some (.dK a))(s:SD l H H'):BnL K H' bs pss:=h.map λ _ _ _ z=>eN z hl s
theorem BnL.se {c:Addr}{d:Nat}(h:BnL K H bs pss)(dr:DrG H q c d)(s:SE q c H H')(n:∀b∈bs,b≠q/\b≠c):BnL K H' bs pss:=h.map λ b a ps z=>Ls z (dr.t s) λ o e=>s _ _ (n b a).1 (n b a).2 e
theorem BnL.snoc (h:BnL K H bs pss)(z:BnA K H b ps):BnL K H (bs++[b]) (pss++[ps]):=⟨by rw [X1,X1,h.1];rfl,λ i f d a c=>by
 by_cases hi:i < bs.length
 ·rw [UD hi] at a;rw [UD (by rw [<- h.1];exact hi)] at c
  exact h.2 i _ _ a c
 ·have hl:=CT a;rw [X1] at hl;have e:i=bs.length:=by simp only [X9,YG] at hl;omega
  subst e;rw [QN (ZK _),Nat.sub_self] at a;rw [QN (by rw [h.1];exact ZK _),h.1,Nat.sub_self] at c
  cases a
  cases c
  exact z⟩
end
theorem DkA.se {K:FrG}{H b:Hp}{q c C o f d:Addr}{m:Di}{n p:Nat}(h:DkA K H [q,c] C o f d m n)(dr:DrG H q c p)(s:SE q c H b):DkA K b [q,c] C o f d m n:=by
 obtain ⟨g,a,j,k⟩:=h.d;obtain ⟨_,_,_,r,e1,e2,_⟩:=dr.x;refine ⟨s _ _ (λ e=>by have:=h.o;rw [e,e1] at this;cases this) (λ e=>by have:=h.o;rw [e,e2] at this;cases this) h.o,g,s _ _ (λ e=>by rw [e,e1] at a;cases a) (λ e=>by rw [e,e2] at a;cases a) a,j,k.map λ l ps z i=>Ls z (dr.t s) λ o e=>s _ _ (λ z=>i (by rw [z];exact U1)) (λ z=>i (by rw [z];exact Y9 _ U1)) e⟩
structure Lw74 (K:FrG)(H:Hp)(C o dx d ln lb q c:Addr)(F:Nat)(S:Di)(n:Nat)(z:Int)(bs:List Addr)(pss:List (List Pc)):Prop where
 dr:DrG H q c F
 ds:DkA K H [q,c] C o dx d S n
 nm:H ln=some (.lst ((Wc 4).map λ k=>V.str (called z (k:Nat))))
 hl:H lb=some (.lst (bs.map V.ref))
 nn:(ln≠q/\ln≠c)/\lb≠q/\lb≠c
 bl:BnL K H bs pss
 bn:∀b∈bs,b≠q/\b≠c
 m:2<=bs.length/\bs.length<=3
 ok:∀ps∈pss,OkS ps
 sx:∀(i:Nat) (ps:List Pc),pss[i]?=some ps->S (called z i)=some ps
section
variable {K:FrG}{H H':Hp}{C o dx d ln lb q c:Addr}{F:Nat}{S:Di}{n:Nat}{z:Int}{bs:List Addr}{pss:List (List Pc)}
theorem Lw74.keep (h:Lw74 K H C o dx d ln lb q c F S n z bs pss)(s:Same H H'):Lw74 K H' C o dx d ln lb q c F S n z bs pss:=⟨h.dr.keep s,h.ds.keep s,s _ _ h.nm,s _ _ h.hl,h.nn,h.bl.keep s,h.bn,h.m,h.ok,h.sx⟩
theorem Lw74.draw {a:Nat}(h:Lw74 K H C o dx d ln lb q c F S n z bs pss)(dr:DrG H' q c a)(s:SE q c H H'):Lw74 K H' C o dx d ln lb q c a S n z bs pss:=
 ⟨dr,h.ds.se h.dr s,s _ _ h.nn.1.1 h.nn.1.2 h.nm,s _ _ h.nn.2.1 h.nn.2.2 h.hl,h.nn,h.bl.se h.dr s h.bn,h.bn,h.m,h.ok,h.sx⟩
theorem Lw74.there (h:Lw74 K H C o dx d ln lb q c F S n z bs pss):∀a∈[q,c],∃z,H a=some z:=λ a b=>by
 obtain ⟨_,_,_,e,e1,e2,_⟩:=h.dr.x;rcases X2.mp b with rfl | b
 ·exact ⟨_,e1⟩
 ·rw [W1.mp b];exact ⟨_,e2⟩
theorem Lw74.ps (h:Lw74 K H C o dx d ln lb q c F S n z bs pss){i:Nat}(hi:i < bs.length):∃b ps,bs[i]?=some b/\BnA K H b ps/\OkS ps/\S (called z i)=some ps:=by
 have a:i < pss.length:=by rw [<- h.bl.1];exact hi
 have e1:=ZO hi;have e2:=ZO a;exact ⟨_,_,e1,h.bl.2 i _ _ e1 e2,h.ok _ (ZB e2),h.sx i _ e2⟩
theorem vD:∀a:Fin 26,∀t:Fin 5,∀r:Fin 4,IV (a.val:Nat) (t.val:Nat) (r.val:Nat)≠IV (((a.val+10) % 26:Nat):Int) (t.val:Nat) (r.val:Nat):=by decide+kernel
theorem AQ7 (z:Int):called z 0≠called z 1/\called z 0≠called z 2/\called z 1≠called z 2:=by
 unfold called
 split
 ·exact ⟨by decide+kernel,by decide+kernel,by decide+kernel⟩
 ·have e2:(((z / 3 % 5).toNat:Nat):Int)=z / 3 % 5:=by omega
  have f:(((z % 4).toNat:Nat):Int)=z % 4:=by omega
  have a:=(YX ⟨((z / 24+5 * 0) % 26).toNat,by omega⟩ ⟨(z / 3 % 5).toNat,by omega⟩ ⟨(z % 4).toNat,by omega⟩).2
  have b:=vD ⟨((z / 24+5 * 0) % 26).toNat,by omega⟩ ⟨(z / 3 % 5).toNat,by omega⟩ ⟨(z % 4).toNat,by omega⟩
  have e:=(YX ⟨((z / 24+5 * 1) % 26).toNat,by omega⟩ ⟨(z / 3 % 5).toNat,by omega⟩ ⟨(z % 4).toNat,by omega⟩).2
  have g:((((z / 24+5 * 0) % 26).toNat:Nat):Int)=(z / 24+5 * 0) % 26:=by omega
  have h:((((z / 24+5 * 1) % 26).toNat:Nat):Int)=(z / 24+5 * 1) % 26:=by omega
  have b1:(((((z / 24+5 * 0) % 26).toNat+5) % 26:Nat):Int)=(z / 24+5 * 1) % 26:=by omega
  have b2:(((((z / 24+5 * 0) % 26).toNat+10) % 26:Nat):Int)=(z / 24+5 * 2) % 26:=by omega
  have b3:(((((z / 24+5 * 1) % 26).toNat+5) % 26:Nat):Int)=(z / 24+5 * 2) % 26:=by omega
  simp only [g,h,b1,b2,b3,e2,f] at a b e;exact ⟨a,b,e⟩
theorem AV6 {z:Int}{i j:Nat}(hi:i < 3)(a:j < 3)(h:called z i=called z j):i=j:=by
 obtain ⟨b,e,f⟩:=AQ7 z;have hi:i=0\/i=1\/i=2:=by omega
 have a:j=0\/j=1\/j=2:=by omega
 rcases hi with rfl | rfl | rfl
 ·rcases a with rfl | rfl | rfl
  ·rfl
  ·exact absurd h b
  ·exact absurd h e
 ·rcases a with rfl | rfl | rfl
  ·exact absurd h.symm b
  ·rfl
  ·exact absurd h f
 ·rcases a with rfl | rfl | rfl
  ·exact absurd h.symm e
  ·exact absurd h.symm f
  ·rfl
theorem AY9:∀a:Fin 26,∀t:Fin 5,∀r:Fin 4,IV (a.val:Nat) (t.val:Nat) (r.val:Nat)≠Z3 "seen":=by decide+kernel
theorem AI4:∀i:Fin 4,NR (Z3 "m") (1+((i.val:Nat):Int))≠Z3 "seen":=by decide+kernel
theorem vg (z:Int){i:Nat}(h:i < 4):called z i≠Z3 "seen":=by
 unfold called
 split
 ·exact AI4 ⟨i,h⟩
 ·have a:=AY9 ⟨((z / 24+5 * (i:Int)) % 26).toNat,by omega⟩ ⟨(z / 3 % 5).toNat,by omega⟩ ⟨(z % 4).toNat,by omega⟩
  have b:((((z / 24+5 * (i:Int)) % 26).toNat:Nat):Int)=(z / 24+5 * (i:Int)) % 26:=by omega
  have e2:(((z / 3 % 5).toNat:Nat):Int)=z / 3 % 5:=by omega
  have e:(((z % 4).toNat:Nat):Int)=z % 4:=by omega
  simp only [b,e2,e] at a;exact a
theorem Lw74.seen (h:Lw74 K H C o dx d ln lb q c F S n z bs pss){ps:List Pc}(sd:SD d H H')(ds:DkA K H' [q,c] C o dx d (setB S (Z3 "seen") ps) (n+1)):Lw74 K H' C o dx d ln lb q c F (setB S (Z3 "seen") ps) (n+1) z bs pss:=by
 obtain ⟨f,a,_,_⟩:=h.ds.d;obtain ⟨_,_,_,j,e1,e2,_⟩:=h.dr.x;refine ⟨h.dr.keepD sd (λ e=>by rw [e,a] at e1;cases e1) (λ e=>by rw [e,a] at e2;cases e2),ds,sd _ _ (λ e=>by have:=h.nm;rw [e,a] at this;cases this) h.nm,sd _ _ (λ e=>by have:=h.hl;rw [e,a] at this;cases this) h.hl,h.nn,h.bl.sdD a sd,h.bn,h.m,h.ok,λ i b e=>?_⟩
 have hi:=CT e;rw [<- h.bl.1] at hi;have g:=h.m.2;unfold setB;rw [if_neg (vg z (by omega))]
 exact h.sx i b e
end
inductive kO (vs:List V)(H:Hp)(Q:VK)(zz3:XK):Prop | mk:∀(z i:Int),(vs=[.int z,.int i])->(0<=z)->(z < 2147483647)->(0<=i)->(i < 4)->(Q (.str (called z i)) H)->kO vs H Q zz3
inductive kJ (K:FrG)(vs:List V)(H:Hp)(Q:VK)(zz3:XK):Prop | mk:∀(d c:Addr) (F m:Nat),(vs=[.ref d,.int (m:Int),.int 1])->(m<=3)->(DrG H d c (F+400))->(∀(l:Addr) (bs:List Addr) (pss:List (List Pc)) H',DrG H' d c F->SE d c H H'->H l=none->(∀b∈bs,H b=none/\b≠l)->H' l=some (.lst (bs.map V.ref))->bs.length=m->BnL K H' bs pss->(∀ps∈pss,OkS ps)->Q (.ref l) H')->kJ K vs H Q zz3
theorem wD:∀{p:Pc},p.bd 12->p.fd 12 17
 | .gap _,h=>h
 | .glass _,h=>h
 | .stop _ _,h=>⟨h.1.mono (by decide),h.2.mono (by decide)⟩
inductive pI (K:FrG)(C:Addr)(vs:List V)(H:Hp)(Q:VK)(zz3:XK):Prop | mk:∀(q c:Addr) (F:Nat) (z:Int),(vs=[.ref q,.int z,.int 1])->(DrG H q c (F+401))->(0<=z)->(z < 2147483647)->(∀(r o dx d ln lb:Addr) (S:Di) (n:Nat) (bs:List Addr) (pss:List (List Pc)) H',SE q c H H'->H' r=some (.lst [.ref o,.ref ln,.ref lb])->n<=3->Lw74 K H' C o dx d ln lb q c F S n z bs pss->Q (.ref r) H')->pI K C vs H Q zz3
theorem dw {K:FrG}{H a:Hp}{l d c:Addr}{xs:List V}{j:Nat}{f:List V}{ds:List U2}(hl:a l=some (.lst xs))(nd:d≠l)(nc:c≠l)(h:H l=none)(hd:DrG a d c j)(s:SE d c H a)(dv:DVs K a f ds)(zs:List V)(i:Hj ds=true:=by rfl):
  DrG (upd a l (.lst zs)) d c j/\SE d c H (upd a l (.lst zs))/\DVs K (upd a l (.lst zs)) f ds/\(upd a l (.lst zs)) l=some (.lst zs):=by
 have g:SD l a (upd a l (.lst zs)):=Qp;exact ⟨hd.keepD g nd nc,λ b o n m e=>by rw [BK (Bt e h)];exact s b o n m e,Cv (g.t hl) i dv,Ar⟩
theorem vK {K:FrG}{H:Hp}{q:List Addr}{C o a d:Addr}(no:H o=none)(c:H a=none)(ne:a≠o)(hd:upd (upd H a (.own o)) o (.ins C a []) d=none):
  Same H (upd (upd (upd (upd H a (.own o)) o (.ins C a [])) d (.dK [])) o (.ins C a [("benches",.ref d)]))/\DkA K (upd (upd (upd (upd H a (.own o)) o (.ins C a [])) d (.dK [])) o (.ins C a [("benches",.ref d)])) q C o a d (λ _=>none) 0/\H d=none/\H o=none:=by
 have f:d≠o:=λ e=>by rw [e,Ar] at hd;cases hd
 rw [BK f] at hd;have g:d≠a:=λ e=>by rw [e,Ar] at hd;cases hd
 rw [BK g] at hd;refine ⟨λ b u e=>?_,⟨Ar,[],by rw [BK f];exact Ar,ZK _,DicB.nil⟩,hd,no⟩
 rw [BK (Bt e no),BK (Bt e hd),BK (Bt e no),BK (Bt e c)];exact e
structure Ly74 (K:FrG)(H:Hp)(C o dx d ln lb q c:Addr)(F:Nat)(S:Di)(i:Nat)(z:Int)(bs:List Addr)(pss:List (List Pc)):Prop where
 dr:DrG H q c F
 ds:DkA K H [q,c] C o dx d S i
 nm:H ln=some (.lst ((Wc 4).map λ k=>V.str (called z (k:Nat))))
 hl:H lb=some (.lst (bs.map V.ref))
 bl:BnL K H bs pss
 sx:∀(j:Nat) (ps:List Pc),j < i->pss[j]?=some ps->S (called z j)=some ps
section
variable {K:FrG}{H H':Hp}{C o dx d ln lb q c:Addr}{F:Nat}{S:Di}{i:Nat}{z:Int}{bs:List Addr}{pss:List (List Pc)}
theorem Ly74.keep (h:Ly74 K H C o dx d ln lb q c F S i z bs pss)(s:Same H H'):Ly74 K H' C o dx d ln lb q c F S i z bs pss:=⟨h.dr.keep s,h.ds.keep s,s _ _ h.nm,s _ _ h.hl,h.bl.keep s,h.sx⟩
theorem Ly74.there (h:Ly74 K H C o dx d ln lb q c F S i z bs pss):∀a∈[q,c],∃z,H a=some z:=λ a b=>by
 obtain ⟨_,_,_,e,e1,e2,_⟩:=h.dr.x;rcases X2.mp b with rfl | b
 ·exact ⟨_,e1⟩
 ·rw [W1.mp b];exact ⟨_,e2⟩
theorem Ly74.next (h:Ly74 K H C o dx d ln lb q c F S i z bs pss){ps:List Pc}(b:pss[i]?=some ps)(m:bs.length<=3)(sd:SD d H H')(ds:DkA K H' [q,c] C o dx d (setB S (called z i) ps) (i+1)):Ly74 K H' C o dx d ln lb q c F (setB S (called z i) ps) (i+1) z bs pss:=by
 obtain ⟨l,a,_,_⟩:=h.ds.d;have hi:=CT b;obtain ⟨_,_,_,r,f,g,_⟩:=h.dr.x;rw [<- h.bl.1] at hi;refine ⟨h.dr.keepD sd (λ e=>by rw [e,a] at f;cases f) (λ e=>by rw [e,a] at g;cases g),ds,sd _ _ (λ e=>by have:=h.nm;rw [e,a] at this;cases this) h.nm,sd _ _ (λ e=>by have:=h.hl;rw [e,a] at this;cases this) h.hl,h.bl.sdD a sd,λ j p n e=>?_⟩
 unfold setB;by_cases k:j=i
 ·subst k;rw [b] at e;cases e
  rw [if_pos rfl]
 ·rw [if_neg (λ z=>k (AV6 (by omega) (by omega) z))]
  exact h.sx j p (by omega) e
end
end Lib
namespace Tx
open PySem PySem.Spec PySem.Builtin PySem.Builtin.Str L2 Lib Fr Op PySem.NumText
theorem qY {c:Nat}:∀{a b u v:List Nat},c∉a->c∉b->a++c::u=b++c::v->a=b/\u=v
 | [],[],_,_,_,_,h=>⟨rfl,(XP h).2⟩
 | [],y::b,_,_,_,d,h=>absurd (U1) ((XP h).1▸d)
 | x::a,[],_,_,e,_,h=>absurd (U1) ((XP h).1▸e)
 | x::a,y::b,u,v,e,d,h=>by
  obtain ⟨f,g⟩:=XP (show x::(a++c::u)=y::(b++c::v) from h)
  obtain ⟨i,j⟩:=qY (λ z=>e (Y9 _ z)) (λ z=>d (Y9 _ z)) g
  exact ⟨by rw [f,i],j⟩
abbrev sp2:Y1:=⟨#[44,32]⟩
theorem NQ (a b:Y1)(r:List Y1):cl (ZT sp2 (a::b::r))=cl a++44::32::cl (ZT sp2 (b::r)):=by
 rw [Ka,Bv,Bv,Xs];rfl
theorem fO:∀{a us:List Y1},a≠[]->us≠[]->(∀t∈a,44∉cl t)->(∀t∈us,44∉cl t)->cl (ZT sp2 a)=cl (ZT sp2 us)->a=us
 | [],_,h,_,_,_,_=>absurd rfl h
 | _,[],_,h,_,_,_=>absurd rfl h
 | [t],[u],_,_,_,_,h=>by rw [ext (show cl t=cl u from h)]
 | [t],u::v::r,_,_,b,_,h=>by
  rw [NQ] at h;have h:cl t=_:=h;exact absurd (by rw [h];simp) (b t U1)
 | t::s::r,[u],_,_,_,c,h=>by
  rw [NQ] at h;have h:_=cl u:=h;exact absurd (by rw [<- h];simp) (c u U1)
 | t::s::r,u::v::q,_,_,b,c,h=>by
  rw [NQ,NQ] at h;obtain ⟨e,f⟩:=qY (b t U1) (c u U1) h;rw [ext e,fO (by simp) (by simp) (λ x d=>b x (Y9 _ d)) (λ x d=>c x (Y9 _ d)) (XP f).2]
theorem oh:∀{b:List Y1},(∀t∈b,44∉cl t)->∀k,(cl (ZT sp2 b))[k]?=some 44->(cl (ZT sp2 b))[k+1]?=some 32
 | [],_,k,h=>by cases h
 | [t],a,k,h=>absurd (ZB (show (cl t)[k]?=some 44 from h)) (a t U1)
 | t::u::r,a,k,h=>by
  rw [NQ] at h ⊢;by_cases c:k < (cl t).length
  ·rw [UD c] at h;exact absurd (ZB h) (a t U1)
  ·rw [QN (by omega)] at h ⊢
   rw [show k+1 - (cl t).length=(k - (cl t).length)+1 by omega]
   generalize k - (cl t).length=j at h ⊢
   match j,h with
   | 0,_=>rfl
   | 1,h=>cases h
   | j+2,h=>exact oh (λ x d=>a x (Y9 _ d)) j h
open StrLaws in
theorem lX {x:Y1}{k:Nat}(b:x.cps.toList[k]?=some 44)(a:x.cps.toList[k+1]?=some 32):At x sp2 x.length k:=by
 obtain ⟨hl,_⟩:=Yn.mp a;have hl:k+1 < x.length:=by simpa [Y1.length] using hl
 refine ⟨by show k+2<=_;omega,?_⟩
 rw [subAt_eq];show ((x.cps.toList.drop k).take 2 == [44,32])=true;have e:(x.cps.toList.drop k).take 2=[44,32]:=by
  obtain ⟨c,d⟩:=Yn.mp b;obtain ⟨f,g⟩:=Yn.mp a;rw [UE c,UE f,d,g];rfl
 rw [e];rfl
open StrLaws in
theorem S5 {x:Y1}(f:∀k,x.cps.toList[k]?=some 44->x.cps.toList[k+1]?=some 32){a b:Nat}(g:∀k,a<=k->k < b->¬ At x sp2 x.length k):44∉(xt x a b).cps.toList:=by
 intro d;rw [strSub_toList] at d;obtain ⟨j,c⟩:=ui d;have e:j < b - a:=by
  have h:j < ((x.cps.toList.drop a).take (b - a)).length:=(Yn.mp c).1;rw [YR] at h;omega
 rw [GP e,xE] at c;exact g (a+j) (by omega) (by omega) (lX c (f _ c))
open StrLaws in
theorem cC {x:Y1}(c:∀k,x.cps.toList[k]?=some 44->x.cps.toList[k+1]?=some 32):∀(b:List Nat) (a f:Nat),ChainG x sp2 x.length a b f->(∀k,f<=k->¬ At x sp2 x.length k)->∀p∈NX x sp2.length a b,44∉p.cps.toList
 | [],a,f,h,g,p,i=>by
  have e:f=a:=h;subst e;rw [W1.mp i];exact S5 c λ k l _=>g k l
 | d::r,a,f,h,g,p,i=>by
  rcases X2.mp i with rfl | j
  ·exact S5 c h.2.2.1
  ·exact cC c r _ f h.2.2.2 g p j
open StrLaws in
theorem Ae2 {x:Y1}(a:∀k,x.cps.toList[k]?=some 44->x.cps.toList[k+1]?=some 32):∀p∈XG x sp2,44∉cl p:=by
 obtain ⟨f,b,d⟩:=occ_tight x sp2 (by decide)
 unfold XG
 split
 ·rename_i g
  intro p c i;rw [W1.mp c] at i;obtain ⟨j,l⟩:=ui i;have m:=lX l (a j l);rw [Bool.or_eq_true,decide_eq_true_eq,decide_eq_true_eq] at g;rcases g with h | h
  ·have:=m.1;omega
  ·have e:qE sp2=1:=by decide+kernel
   rw [e] at h;unfold qE at h
   split at h
   ·omega
   ·split at h<;>omega
 ·split
  ·rename_i n
   intro p c;rw [W1.mp c];have o:WF x sp2 0 x.length (x.length+1)=[]:=List.isEmpty_iff.mp n;rw [o] at b;have q:f=0:=b;subst q;rw [<- sub_whole x];exact S5 a λ k r _=>d k r
  ·rw [FY];exact cC a _ 0 f b d
theorem yH {a:List Y1}(h:a≠[])(b:∀t∈a,44∉cl t):XG (ZT sp2 a) sp2=a:=by
 refine fO (λ e=>?_) h (Ae2 (oh b)) b (by rw [MA])
 have:=PyProof.Rows.split_pos (ZT sp2 a) sp2;rw [e] at this;cases this
end Tx
namespace Tx
open PySem PySem.Builtin PySem.Builtin.Str L2 Lib Fr Op PySem.NumText
theorem Jm {c:Nat}{s:Y1}(a:c∉cl s):∀{b:List Y1},(∀t∈b,c∉cl t)->c∉cl (ZT s b)
 | [],_=>λ h=>nomatch h
 | [t],h=>h t U1
 | t::u::r,h=>by
  rw [Ka,Bv,Bv];intro m;rcases YE.mp m with m | m
  ·rcases YE.mp m with m | m
   ·exact h t U1 m
   ·exact a m
  ·exact Jm a (λ x d=>h x (Y9 _ d)) m
theorem XF {z:Y1}{n:Int}(h:cl z=(if n < 0 then [45] else [])++dg n.natAbs)(hl:z.length<=640):JJ z=some n:=by
 by_cases a:n < 0
 ·rw [if_pos a] at h;rw [intText_neg (cs:=dg n.natAbs) h (Gn _) (Q0 _) (Zo hl (by decide)),XN]
  exact congrArg some (by omega)
 ·rw [if_neg a,Qb] at h;have e:=intText_digits (x:=z) (by show NW (cl z);rw [h];exact Gn _) (by show cl z≠[];rw [h];exact Q0 _) (Zo hl (by decide))
  rw [e];show some ((digitsVal (cl z):Nat):Int)=_;rw [h,XN];exact congrArg some (by omega)
theorem AT8:Z3 "/"=⟨#[47]⟩:=by decide+kernel
theorem AM6 {q:Rat}(h:Bd 1900 q):∃a b r,XG (Ay q) (Z3 "/")++[Z3 "1"]=a::b::r/\r.length<=1/\a.length<=640/\b.length<=640/\JJ a=some q.num/\JJ b=some (q.den:Int):=by
 have o:=(Fe (m:=q.num.natAbs) (k:=575) (by decide)).mpr (Y7 h.1 Gk)
 have p:=(Fe (m:=q.den) (k:=575) (by decide)).mpr (Y7 h.2 Gk)
 have e:(XG (Ay q) (Z3 "/")).map cl=cut 47 (sh q):=by rw [AT8,JZ,JP]
 have fr:47∉(if q.num < 0 then [45] else [])++dg q.num.natAbs:=λ m=>by
  rcases YE.mp m with m | m
  ·split at m
   ·exact absurd (W1.mp m) (by decide)
   ·cases m
  ·exact absurd (Gn _ _ m) (by decide)
 have fd:47∉dg q.den:=λ m=>absurd (Gn _ _ m) (by decide)
 have c:∀x:Y1,cl x=(if q.num < 0 then [45] else [])++dg q.num.natAbs->x.length<=640:=λ x e=>by
  rw [<- Dm,e,X1]
  split<;>simp only [X9,YG]<;>omega
 have lb:∀x:Y1,cl x=dg q.den->x.length<=640:=λ x e=>by
  rw [<- Dm,e];omega
 have n:∀x:Y1,cl x=dg q.den->JJ x=some (q.den:Int):=λ x e=>XF (by rw [e,if_neg (by omega),Qb,YV]) (lb x e)
 unfold sh at e;by_cases d:q.den=1
 ·rw [if_pos d,YY,Kd fr] at e;obtain ⟨x,r,f,ex,g⟩:=uj.mp e;obtain rfl:=zD.mp g;rw [f];refine ⟨x,Z3 "1",[],rfl,by decide,c x ex,by decide+kernel,XF ex (c x ex),?_⟩
  rw [d]
  decide+kernel
 ·rw [if_neg d,Ij _ fr,Kd fd] at e;obtain ⟨x,r,f,ex,g⟩:=uj.mp e;obtain ⟨y,s,i,j,l⟩:=uj.mp g;obtain rfl:=zD.mp l;subst i;rw [f];exact ⟨x,y,[Z3 "1"],rfl,by decide,c x ex,lb y j,XF ex (c x ex),n y j⟩
theorem AL0 {q:Rat}(h:Bd 1900 q):(∃a,XG (Ay q) (Z3 "/")=[a]/\q.den=1/\a.length<=640/\JJ a=some q.num)\/∃a b,XG (Ay q) (Z3 "/")=[a,b]/\a.length<=640/\b.length<=640/\JJ a=some q.num/\JJ b=some (q.den:Int):=by
 obtain ⟨a,b,r,e,g,d,lb,f,c⟩:=AM6 h;generalize XG (Ay q) (Z3 "/")=l at e ⊢
 match l,e with
 | [],e=>cases e
 | [x],e=>
  have e1:=XP e;have e2:=XP e1.2;rw [<- e2.1,show JJ (Z3 "1")=some 1 by decide+kernel] at c
  have c:(1:Int)=(q.den:Int):=XM c;exact .inl ⟨x,rfl,by omega,by rw [e1.1];exact d,by rw [e1.1];exact f⟩
 | [x,y],e=>
  have e1:=XP e;have e2:=XP e1.2;exact .inr ⟨x,y,rfl,by rw [e1.1];exact d,by rw [e2.1];exact lb,by rw [e1.1];exact f,by rw [e2.1];exact c⟩
 | x::y::z::t,e=>
  have e1:z::(t++[Z3 "1"])=r:=(XP (XP e).2).2;rw [<- e1,X9,X1] at g;have:[Z3 "1"].length=1:=rfl;omega
theorem jq {qs:List Rat}(h:qs≠[]):XG (Bw qs) (Z3 " ")=qs.map Ay:=by
 refine QS ?_;unfold Bw;rw [Ek,Gi,JZ];refine M8 (λ e=>h (zD.mp e)) λ t a=>?_
 obtain ⟨q,_,rfl⟩:=XW.mp a;exact Gq q 32 (by decide)
theorem jC (s:Y1):∀a:List Y1,(ZT s a).length<=(a.map λ t=>t.length+s.length).sum
 | []=>WO _
 | [t]=>by rw [j1];simp
 | t::u::r=>by
  have:=jC s (u::r);rw [Ka,<- Dm,Bv,Bv,X1,X1,YB,yT];simp only [Dm];omega
theorem iH:Z3 ", "=⟨#[44,32]⟩:=by decide+kernel
theorem yz (qs:List Rat):44∉cl (Bw qs):=by
 unfold Bw;rw [Ek,Gi];refine Jm (by decide) λ t a=>?_
 obtain ⟨q,_,rfl⟩:=XW.mp a;exact Gq q 44 (by decide)
theorem sr {cs:List Op.Ab}(h:cs≠[]):XG (ue (Z3 ", ") (cs.map λ r=>Bw [r.1,r.2])) (Z3 ", ")=cs.map λ r=>Bw [r.1,r.2]:=by
 rw [Ek,iH];refine yH (λ e=>h (zD.mp e)) λ t a=>?_
 obtain ⟨r,_,rfl⟩:=XW.mp a;exact yz _
end Tx
namespace Lib
open PySem L2 Fr Op Tx
section
variable {ps:List Pc}{x:Box}{n M:Nat}{r:Ab}
theorem yK (a:FieldOk n M (Bg ps) x)(h:r∈Ds (Bg ps) x):x.has r/\(walk ps r).2=none:=by
 obtain ⟨b,c⟩:=(a.in r).mp (AH2 a.poly.es h);exact ⟨b,by rw [<- ir];exact (Vb _ _).mpr c⟩
theorem yF (a:FieldOk n M (Bg ps) x)(h:Ds (Bg ps) x=[])(b:x.has r):(walk ps r).2≠none:=λ e=>by
 rw [<- ir] at e;have:=(a.in r).mpr ⟨b,(Vb _ _).mp e⟩;rw [h] at this;exact this
end
section
variable {ps:List Pc}{h s c d:Rat}
theorem xu {f g':Rat}(ok:∀p∈ps,p.ok)(e:Ei (Bg ps) h s c c=some (f,g')):f=g':=by
 have lo:∀l∈Bg ps,¬ l.hi < l.lo:=lC ps 0 _ _ ok;obtain ⟨_,_,g⟩:=W7 e;have g:=g (wT);have a:=(XQ lo h s c c f).mp (by rw [e];exact ⟨f,g',rfl,wT,g⟩)
 have b:=(XQ lo h s c c g').mp (by rw [e];exact ⟨f,g',rfl,g,wT⟩)
 have i:f=c:=by have:=a.1;have:=a.2.1;grind
 have b1:g'=c:=by have:=b.1;have:=b.2.1;grind
 rw [i,b1]
theorem vX {x:Lamp}(ok:∀p∈ps,p.ok)(b:x.f=x.l):El ps x 0=Z3 "dark"\/El ps x 0=Z3 "all":=by
 unfold El;cases e:Ei (Bg ps) x.h x.s x.f x.l with
 | none=>exact .inl rfl
 | some g=>
  obtain ⟨a,g'⟩:=g;rw [b] at e;have e:=xu ok e;refine .inr ?_;show GC (tabOf ps) ⟨x.h,x.s,a,g'⟩ 0=_;unfold GC;rw [if_pos (show growing (tabOf ps) ⟨x.h,x.s,a,g'⟩=0 by unfold growing;show _ * (g' - a)=0;rw [e];grind),gq (show a=g' from e),if_neg wT]
theorem xO {x:Lamp}(z:(spread (tabOf ps) x.s).2=0)(b:El ps x 0≠Z3 "dark")(a:El ps x 0≠Z3 "all"):El ps x 0=Z3 "none":=by
 unfold El at b a ⊢;cases e:Ei (Bg ps) x.h x.s x.f x.l with
 | none=>rw [e] at b;exact absurd rfl b
 | some i=>
  obtain ⟨g,g'⟩:=i;rw [e] at a;have a:GC (tabOf ps) ⟨x.h,x.s,g,g'⟩ 0≠_:=a;show GC (tabOf ps) ⟨x.h,x.s,g,g'⟩ 0=_;unfold GC at a ⊢;have j:growing (tabOf ps) ⟨x.h,x.s,g,g'⟩=0:=by unfold growing;show (spread (tabOf ps) x.s).2 * _=0;rw [z];grind
  rw [if_pos j] at a ⊢
  split
  ·rfl
  ·rename_i c
   rw [if_neg c] at a;exact absurd rfl a
theorem AO7 {x:Lamp}(z:(spread (tabOf ps) x.s).2≠0)(i:El ps x 0≠Z3 "dark")(a:El ps x 0≠Z3 "all"):El ps x 0=Bw [mid (tabOf ps) x.s,mid (tabOf ps) x.s]:=by
 unfold El at i a ⊢;cases e:Ei (Bg ps) x.h x.s x.f x.l with
 | none=>rw [e] at i;exact absurd rfl i
 | some j=>
  obtain ⟨b,g'⟩:=j;rw [e] at a;have a:GC (tabOf ps) ⟨x.h,x.s,b,g'⟩ 0≠_:=a;show GC (tabOf ps) ⟨x.h,x.s,b,g'⟩ 0=_;unfold GC at a ⊢;by_cases g:growing (tabOf ps) ⟨x.h,x.s,b,g'⟩=0
  ·rw [if_pos g] at a;have e1:b=g':=by
    have g:(spread (tabOf ps) x.s).2 * (g' - b)=0:=g;rcases yv.mp g with h | h
    ·exact absurd h z
    ·grind
   rw [gq (show b=g' from e1),if_neg wT] at a
   exact absurd rfl a
  ·rw [if_neg g];have k:reach (tabOf ps) ⟨x.h,x.s,b,g'⟩ 0=0:=by unfold reach;grind
   rw [k]
   congr 2
   ·grind
   ·congr 1;grind
end
theorem vH {ps:List Pc}{h s u:Rat}(z:(spread (tabOf ps) s).2≠0):(walk (Cj ps++[.gap (mid (tabOf ps) s)]) (h+s * u,u)).2=none/\(G7 (Cj ps++[.gap (mid (tabOf ps) s)]) (h+s * u,u)).1=1 / (spread (tabOf ps) s).2 * h:=by
 have ns:lU (Cj ps++[.gap (mid (tabOf ps) s)]):=λ p f=>by
  rcases YE.mp f with h | h
  ·exact km ps p h
  ·rw [W1.mp h];rfl
 have e:=vR ns (h+s * u,u);have w:(walk (Cj ps++[.gap (mid (tabOf ps) s)]) (h+s * u,u)).2=none:=by
  cases q:(walk (Cj ps++[.gap (mid (tabOf ps) s)]) (h+s * u,u)).2 with
  | none=>rfl
  | some j=>rw [ye q] at e;cases e
 refine ⟨w,?_⟩;have e2:G7 (Cj ps++[.gap (mid (tabOf ps) s)]) (h+s * u,u)=BV (Cj ps++[.gap (mid (tabOf ps) s)]) (h+s * u,u):=oM _ 0 _ w;rw [e2,Lp,Nj,Vg ps];have det:=Pu ps;generalize tabOf ps=t at z det ⊢;show (t.a * (h+s * u)+t.b * u)+mid t s * (t.c * (h+s * u)+t.d * u)=1 / (t.c * s+t.d) * h;have z:t.c * s+t.d≠0:=z;have g:mid t s * (t.c * s+t.d)=0 - (t.a * s+t.b):=by
  show (0 - (t.a * s+t.b) / (t.c * s+t.d)) * (t.c * s+t.d)=_;have:=ql (a:=t.a * s+t.b) z
  grind
 have det:t.a * t.d - t.b * t.c=1:=det;have v:1 / (t.c * s+t.d) * (t.c * s+t.d)=1:=ql z;generalize mid t s=m at g ⊢;generalize 1 / (t.c * s+t.d)=k at v ⊢
 grind
end Lib
namespace Tx
open PySem PySem.Builtin PySem.Builtin.Str L2 Lib Fr Op PySem.NumText
theorem AQ8 {n k:Nat}(c:k<=n):QI none (some (k:Int)) 1 n=Wc k:=by
 unfold QI sliceRange;simp only [show (1:Int) > 0 by decide,if_true]
 have a:max 0 (min (if (k:Int) < 0 then (k:Int)+(n:Int) else (k:Int)) (n:Int))=(k:Int):=by
  rw [if_neg (by omega)]
  omega
 rw [a];have b:(if (0:Int) < (k:Int) then ((k:Int) - 0+1 - 1) / 1 else 0).toNat=k:=by
  split<;>simp<;>omega
 rw [b];refine (zJ λ k _=>?_).trans (List.map_id _)
 simp
theorem AL3 {n k:Nat}(c:k<=n):QI (some (k:Int)) none 1 n=(Wc (n - k)).map (k+·):=by
 unfold QI sliceRange;simp only [show (1:Int) > 0 by decide,if_true]
 have a:max 0 (min (if (k:Int) < 0 then (k:Int)+(n:Int) else (k:Int)) (n:Int))=(k:Int):=by
  rw [if_neg (by omega)]
  omega
 rw [a];have b:(if (k:Int) < (n:Int) then ((n:Int) - (k:Int)+1 - 1) / 1 else 0).toNat=n - k:=by
  split<;>simp<;>omega
 rw [b]
 apply zJ
 intro j _;omega
theorem Sg:∀(l:List Nat) (k:Nat),k<=l.length->(Wc k).filterMap (λ j=>l[j]?)=l.take k
 | l,0,_=>by simp
 | l,k+1,h=>by
  rw [List.range_succ,List.filterMap_append,Sg l k (by omega),Xe]
  congr 1
theorem AS9 (l:List Nat)(k:Nat)(a:k<=l.length):((Wc (l.length - k)).map (k+·)).filterMap (λ j=>l[j]?)=l.drop k:=by
 rw [xA];have e:((λ j=>l[j]?) ∘ λ x=>k+x)=λ j=>(l.drop k)[j]?:=by
  funext j
  rw [xE];rfl
 rw [e,<- JF,Sg _ _ (ZK _),YU]
theorem lK (l:List Nat)(k:Nat)(a:k<=l.length):Wt ⟨l.toArray⟩ none (some (k:Int))=⟨(l.take k).toArray⟩:=by
 have hl:(UC l.toArray).length=l.length:=by show l.toArray.size=_;simp
 unfold Wt;rw [hl,AQ8 a]
 split
 ·rename_i h
  simp at h
  rw [h,YU]
 ·show (⟨((Wc k).filterMap (λ j=>l.toArray[j]?)).toArray⟩:Y1)=_
  rw [<- Sg l k a];simp
theorem vU (l:List Nat)(k:Nat)(a:k<=l.length):Wt ⟨l.toArray⟩ (some (k:Int)) none=⟨(l.drop k).toArray⟩:=by
 have hl:(UC l.toArray).length=l.length:=by show l.toArray.size=_;simp
 unfold Wt;rw [hl,AL3 a]
 split
 ·rename_i h
  simp at h
  have:k=0\/l.length=0:=by omega
  rcases this with rfl | b
  ·simp
  ·rw [List.eq_nil_of_length_eq_zero b];simp
 ·show (⟨(((Wc (l.length - k)).map (k+·)).filterMap (λ j=>l.toArray[j]?)).toArray⟩:Y1)=_
  rw [<- AS9 l k a];simp
end Tx
namespace Lib
open PySem L2 Fr Op Tx
inductive cz (K:FrG)(vs:List V)(H:Hp)(Q:VK)(zz3:XK):Prop | mk:∀q:Rat,(vs=[.str (Ay q)])->(Bd 1900 q)->(∀v H',Same H H'->DV K H' v (Aj q)->Q v H')->cz K vs H Q zz3
inductive q8 (K:FrG)(vs:List V)(H:Hp)(Q:VK)(zz3:XK):Prop | mk:∀qs:List Rat,(vs=[.str (Bw qs)])->(qs≠[])->(qs.length<=5)->((∀q∈qs,Bd 1900 q))->(∀l xs H',Same H H'->H' l=some (.lst xs)->DVs K H' xs (qs.map Aj)->Q (.ref l) H')->q8 K vs H Q zz3
def Fit (qs:List Rat):Prop:=∀q∈qs,q.num.natAbs < 10 ^ 14/\q.den < 10 ^ 14
theorem Fit.short {qs:List Rat}(h:Fit qs):∀q∈qs,Short q:=λ q a=>⟨Y7 (h q a).1 (by decide),Y7 (h q a).2 (by decide)⟩
theorem Ac0 {qs:List Rat}(h:∀q∈qs,Bd 40 q):Fit qs:=λ q a=>⟨Y7 (h q a).1 (by decide),Y7 (h q a).2 (by decide)⟩
inductive fQ (K:FrG)(vs:List V)(H:Hp)(Q:VK)(zz3:XK):Prop | mk:∀(v:V) (qs:List Rat),(vs=[v])->(DV K H v (.list (qs.map Aj)))->(qs.length<=60)->(∀(b:Bool) H',Same H H'->(b=true↔Fit qs)->Q (.bl b) H')->fQ K vs H Q zz3
inductive bw (K:FrG)(C:Addr)(vs:List V)(H:Hp)(Q:VK)(zz3:XK):Prop | mk:∀(o dx d:Addr) (q:List Addr) (x:Str) (S:Di) (n:Nat) (ps:List Pc) (v:V) (y u:Rat),(vs=[.ref o,.str x,v])->(DkA K H q C o dx d S n)->(Nm x)->(S x=some ps)->(DV K H v (.list ([y,u].map Aj)))->(Bd 1900 y)->(Bd 1900 u)->(∀(b:Bool) H',Same H H'->(b=true↔(¬ Fit [y,u]\/(walk ps (y,u)).2=none))->Q (.bl b) H')->bw K C vs H Q zz3
def Ex (q:Rat):Bool:=decide (q.num.natAbs < 10 ^ 14) && decide (q.den < 10 ^ 14)
theorem rT (qs:List Rat):Fit qs↔qs.filter (λ q=>!Ex q)=[]:=by
 rw [List.filter_eq_nil_iff];refine forall_congr' λ q=>forall_congr' λ _=>?_
 unfold Ex;simp only [Bool.not_eq_true',Bool.not_eq_false',QM,decide_eq_true_eq,Bool.not_eq_true,Bool.not_eq_false]
theorem wu (q:Rat):decide ((if (q.den:Int) > (if q.num < 0 then -q.num else q.num) then (q.den:Int) else (if q.num < 0 then -q.num else q.num))≥10 ^ (14:Int).toNat)=!Ex q:=by
 have e:(10:Int) ^ (14:Int).toNat=100000000000000:=by decide
 have e2:(10:Nat) ^ 14=100000000000000:=by decide
 unfold Ex;rw [e,e2,yk];simp only [decide_eq_true_eq,Bool.not_eq_true',Bool.and_eq_false_iff,decide_eq_false_iff_not]
 split<;>split<;>omega
theorem Qg:cl (Z3 "by ")=[98,121,32]:=by decide+kernel
theorem Ag4 (t:Str):Wt (Z3 "by "++t) none (some 3)=Z3 "by ":=by
 have e:Z3 "by "++t=⟨([98,121,32]++cl t).toArray⟩:=ext (by rw [Bv,Qg])
 rw [e];exact (lK _ 3 (by simp)).trans (ext (by rw [Qg];rfl))
theorem vL (t:Str):Wt (Z3 "by "++t) (some 3) none=t:=by
 have e:Z3 "by "++t=⟨([98,121,32]++cl t).toArray⟩:=ext (by rw [Bv,Qg])
 rw [e];exact (vU _ 3 (by simp)).trans (ext (by simp))
theorem AU4:cl (Z3 "stopped ")=[115,116,111,112,112,101,100,32]:=by decide+kernel
theorem AM7 (t:Str):Wt (Z3 "stopped "++t) none (some 3)≠Z3 "by ":=λ h=>by
 have e:Z3 "stopped "++t=⟨([115,116,111,112,112,101,100,32]++cl t).toArray⟩:=ext (by rw [Bv,AU4])
 rw [e] at h;have h:=congrArg cl ((lK _ 3 (by simp)).symm.trans h)
 rw [Qg] at h;have h:[115,116,111]=[98,121,32]:=h;exact absurd h (by decide)
theorem xV (ps:List Pc)(r:Ab):Wt (Hy ps r) none (some 3)=Z3 "by "↔(walk ps r).2=none:=by
 unfold Hy;cases e:(walk ps r).2 with
 | none=>exact ⟨λ _=>rfl,λ _=>Ag4 _⟩
 | some n=>exact ⟨λ h=>absurd h (AM7 _),λ h=>by cases h⟩
theorem bR {ps:List Pc}{r:Ab}(h:OkB ps)(a:RB 100 r):(Hy ps r).length<=7000:=by
 unfold Hy;cases e:(walk ps r).2 with
 | none=>
  have b:=Tj h a;have l:=Gm (all2 b.1 b.2) (by show 2<=5;decide)
  show (Z3 "by "++Bw _).length<=_
  rw [Ck,show (Z3 "by ").length=3 by decide+kernel]
  omega
 | some n=>
  show (Z3 "stopped "++LC n).length<=_;have c:=(bV e).1;have d:=h.1;have l:=AY4 (xJ (n:=n) (by omega))
  rw [Ck,show (Z3 "stopped ").length=8 by decide+kernel]
  omega
inductive pH (K:FrG)(vs:List V)(H:Hp)(Q:VK)(zz3:XK):Prop | mk:∀(q c:Addr) (F:Nat),(vs=[.ref q])->(DrG H q c (F+28))->(∀(l:Addr) (xs:List V) (a b m d:Rat) H',DrG H' q c F->SE q c H H'->H l=none->H' l=some (.lst xs)->DVs K H' xs ([a,b,m,d].map Aj)->(Box.mk a b m d).ok->(Box.mk a b m d).bd 12->Q (.ref l) H')->pH K vs H Q zz3
inductive iz (K:FrG)(C:Addr)(vs:List V)(H:Hp)(Q:VK)(zz3:XK):Prop | mk:∀(o dx d:Addr) (q:List Addr) (x:Str) (S:Di) (n:Nat) (ps:List Pc) (l:Addr) (xs:List V) (z:Box),(vs=[.ref o,.str x,.ref l])->(DkA K H q C o dx d S n)->(Nm x)->(S x=some ps)->(OkS ps)->(H l=some (.lst xs))->(DVs K H xs ([z.a,z.b,z.c,z.d].map Aj))->(z.ok)->(z.bd 12)->(∀H',Same H H'->Q (.bl true) H')->iz K C vs H Q zz3
theorem AO4 (qs:List Rat):110∉cl (Bw qs):=by
 unfold Bw;rw [Ek,Gi];refine Jm (by decide) λ t a=>?_
 obtain ⟨q,_,rfl⟩:=XW.mp a;exact Gq q 110 (by decide)
theorem nj:cl (Z3 "none")=[110,111,110,101]:=by decide+kernel
theorem Ad0 (cs:List Ab):Gr cs=Z3 "none"↔cs=[]:=by
 unfold Gr;by_cases h:cs=[]
 ·rw [if_pos h];exact ⟨λ _=>h,λ _=>rfl⟩
 ·rw [if_neg h];refine ⟨λ e=>absurd ?_ (show ¬ (110∈cl (Z3 "none")) from λ m=>?_),λ e=>absurd e h⟩
  ·rw [nj];decide
  ·rw [<- e,Ek,iH] at m;exact Jm (by decide) (λ t a=>by
    obtain ⟨r,_,rfl⟩:=XW.mp a;exact AO4 _) m
theorem Ae0 {cs:List Ab}(h:∀r∈cs,Bd 1900 r.1/\Bd 1900 r.2)(hl:cs.length<=20):(Gr cs).length<=130000:=by
 unfold Gr
 split
 ·exact Zo (show (Z3 "none").length<=4 by decide+kernel) (by decide)
 ·rw [Ek];have a:(Z3 ", ").length<=2:=by decide+kernel
  have c:=jC (Z3 ", ") (cs.map λ r=>Bw [r.1,r.2])
  rw [zh] at c;have d:(cs.map ((λ t:Str=>t.length+(Z3 ", ").length) ∘ λ r=>Bw [r.1,r.2])).sum<=cs.length * 6007:=Ke λ r b=>Nat.add_le_add (Gm (all2 (h r b).1 (h r b).2) (by show 2<=5;decide)) a
  have e:=YP 6007 hl;omega
inductive jD (K:FrG)(C:Addr)(vs:List V)(H:Hp)(Q:VK)(zz3:XK):Prop | mk:∀(o dx d:Addr) (q:List Addr) (x:Str) (S:Di) (n:Nat) (ps:List Pc) (bv:V) (lm ls:Addr) (ms ss:List V) (z:Lamp),(vs=[.ref o,.str x,bv,.ref lm,.ref ls])->(DkA K H q C o dx d S n)->((∀a∈q,∃z,H a=some z))->(n<=900)->(Nm x)->(S x=some ps)->(OkS ps)->(DV K H bv (Ec ps))->(H lm=some (.lst ms))->(DVs K H ms ([z.h,z.s].map Aj))->(H ls=some (.lst ss))->(DVs K H ss ([z.f,z.l].map Aj))->(LpB 12 z)->((∀H',Same H H'->Q (.bl true) H'))->((∀ps' H',SD d H H'->DkA K H' q C o dx d (setB S (Z3 "seen") ps') (n+1)->Q (.bl true) H'))->jD K C vs H Q zz3
theorem tX (t:Str):Z3 "bench seen "++t=Gb (Z3 "seen") t:=by
 unfold Gb;rw [show Z3 "bench "++Z3 "seen"++Z3 " "=Z3 "bench seen " by decide+kernel]
theorem za (q:Rat)(qs:List Rat):Z3 "walk seen "++Bw (q::qs)=K1 (Z3 "walk") (Z3 "seen") (q::qs):=by
 rw [<- Kr (p:=Z3 "walk ") (by decide+kernel),show Z3 "walk "++Z3 "seen"++Z3 " "=Z3 "walk seen " by decide+kernel]
theorem aV:Nm (Z3 "seen"):=by
 show nameB (Z3 "seen")=true
 decide+kernel
theorem z8 (p:Rat):Ay p++Z3 " "++Ay p=Bw [p,p]:=by
 unfold Bw;rw [Ek];rfl
theorem sX (qs:List Rat)(t:Str)(c:Nat)(h:c∈cl t)(b:c=110\/c=97):Bw qs≠t:=λ e=>by
 rw [<- e] at h;unfold Bw at h;rw [Ek,Gi] at h;rcases b with rfl | rfl
 ·exact Jm (by decide) (λ t a=>by obtain ⟨q,_,rfl⟩:=XW.mp a;exact Gq q 110 (by decide)) h
 ·exact Jm (by decide) (λ t a=>by obtain ⟨q,_,rfl⟩:=XW.mp a;exact Gq q 97 (by decide)) h
theorem AJ2 (t:Tab)(s:Rat):((spread t s).2=0/\Jv t s=Z3 "none")\/((spread t s).2≠0/\Jv t s=Bw [mid t s,1 / (spread t s).2]/\Jv t s≠Z3 "none"):=by
 unfold Jv;by_cases h:(spread t s).2=0
 ·have e:img t s=none:=if_pos h;rw [e];exact .inl ⟨h,rfl⟩
 ·have e:img t s=some (mid t s):=if_neg h;rw [e];exact .inr ⟨h,rfl,sX _ _ 110 (by rw [nj];decide) (.inl rfl)⟩
theorem sI {bs:List Addr}(m:Int)(h:(0:Int) < (((bs.map V.ref).length:Nat):Int)):∃j:Nat,m % (((bs.map V.ref).length:Nat):Int)=(j:Int)/\j < bs.length:=by
 have a:=UO m (Int.ne_of_gt h);have b:=WV m h;refine ⟨(m % (((bs.map V.ref).length:Nat):Int)).toNat,by omega,?_⟩
 rw [Y2] at a b ⊢;omega
theorem wJ (c d a b:V):cutV [c,d,a,b] (some 2) none=[a,b]:=rfl
end Lib
namespace K74
open PySem L2 Lib Fr Op
seal PE PT PW PA PS PSs PG PGs PI PO
def top (i:Nat):Stmt:=PySem.Challenge.pw_grindbench_k74_whole_seen_at_the_desk.main.body.getD i (.Pass ⟨0,0,0,0⟩)
abbrev Xl:Stmt:=top 10
theorem Ae6:FnScope ["thing"] ["thing"] (defScope Xl):=by walk_at "s"
abbrev Tz:Stmt:=top 11
theorem Kh:FnScope ["one","other","greater","lesser","rest"] ["one","other"] (defScope Tz):=by walk_at "s"
abbrev U0:Stmt:=top 12
theorem Tp:FnScope ["thing","top","bottom"] ["thing"] (defScope U0):=by walk_at "s"
abbrev Yx:Stmt:=top 13
theorem Sx:FnScope ["top","bottom","divisor"] ["top","bottom"] (defScope Yx):=by walk_at "s"
abbrev RV:Stmt:=top 14
theorem AP7:FnScope ["one","other"] ["one","other"] (defScope RV):=by walk_at "s"
abbrev YF:Stmt:=top 15
theorem yR:FnScope ["one","other"] ["one","other"] (defScope YF):=by walk_at "s"
abbrev VF:Stmt:=top 16
theorem ud:FnScope ["one","other"] ["one","other"] (defScope VF):=by walk_at "s"
abbrev Wu:Stmt:=top 17
theorem AK6:FnScope ["one","other"] ["one","other"] (defScope Wu):=by walk_at "s"
abbrev Rp:Stmt:=top 18
theorem zp:FnScope ["one","other"] ["one","other"] (defScope Rp):=by walk_at "s"
abbrev LR:Stmt:=top 28
theorem xY:FnScope ["thing"] ["thing"] (defScope LR):=by walk_at "s"
abbrev Yz:Stmt:=top 29
theorem AQ6:FnScope ["told"] ["told"] (defScope Yz):=by walk_at "s"
abbrev Ub:Stmt:=top 30
theorem Tg:FnScope ["bench","number","thing"] ["bench"] (defScope Ub):=by walk_at "s"
abbrev Zy:Stmt:=top 35
theorem Ae5:FnScope ["thing"] ["thing"] (defScope Zy):=by walk_at "s"
abbrev RT:Stmt:=top 36
theorem AM1:FnScope ["table"] ["table"] (defScope RT):=by walk_at "s"
abbrev UW:Stmt:=top 37
theorem AQ5:FnScope ["high","slanted"] ["high","slanted"] (defScope UW):=by walk_at "s"
abbrev TV:Stmt:=top 38
theorem Iv:FnScope ["bench","high","slanted","told","piece"] ["bench"] (defScope TV):=by walk_at "s"
abbrev Te:Stmt:=top 39
theorem Rv:FnScope ["table","ray","height","slant"] ["table","ray"] (defScope Te):=by walk_at "s"
abbrev iU:Stmt:=top 40
abbrev j8:Stmt:=top 42
abbrev jN:Stmt:=top 43
abbrev lY:Stmt:=top 44
abbrev ak:Stmt:=top 45
abbrev qx:Stmt:=top 46
abbrev YL:Stmt:=top 48
theorem uv:FnScope ["first","last"] ["first","last"] (defScope YL):=by walk_at "s"
abbrev Xw:Stmt:=top 49
theorem AG4:FnScope ["first","last"] ["first","last"] (defScope Xw):=by walk_at "s"
abbrev Wf:Stmt:=top 50
theorem wg:FnScope ["thing"] ["thing"] (defScope Wf):=by walk_at "s"
abbrev YK:Stmt:=top 51
theorem yM:FnScope ["box"] ["box"] (defScope YK):=by walk_at "s"
abbrev Wv:Stmt:=top 53
theorem HH:FnScope ["bench","limits","high","slanted","number","told","piece"] ["bench"] (defScope Wv):=by walk_at "s"
abbrev YQ:Stmt:=top 55
theorem rQ:FnScope ["one","other"] ["one","other"] (defScope YQ):=by walk_at "s"
abbrev Y8:Stmt:=top 56
theorem VL:FnScope ["box","corners","corner"] ["box"] (defScope Y8):=by walk_at "s"
abbrev We:Stmt:=top 57
theorem Ku:FnScope ["limit","a","b","above","below"] ["limit"] (defScope We):=by walk_at "s"
abbrev T6:Stmt:=top 58
theorem AO3:FnScope ["edge","ray"] ["edge","ray"] (defScope T6):=by walk_at "s"
abbrev Zi:Stmt:=top 59
theorem Qn:FnScope ["one","other","one_room","other_room","part","height","slant"] ["one","other","one_room","other_room"] (defScope Zi):=by walk_at "s"
abbrev R8:Stmt:=top 60
theorem JH:FnScope ["edge","corners","rooms","left","number","corner","before","crossing"] ["edge","corners"] (defScope R8):=by walk_at "s"
abbrev S8:Stmt:=top 61
theorem NP:FnScope ["corners","least","number","corner"] ["corners"] (defScope S8):=by walk_at "s"
abbrev Vf:Stmt:=top 62
theorem KQ:FnScope ["bench","box","limits","corners","limit","edge"] ["bench","box"] (defScope Vf):=by walk_at "s"
abbrev S6:Stmt:=top 66
theorem SX:FnScope ["one","top","bottom"] ["one"] (defScope S6):=by walk_at "s"
abbrev Uo:Stmt:=top 67
theorem Ad4:FnScope ["text"] ["text"] (defScope Uo):=by walk_at "s"
abbrev Ly:Stmt:=top 69
theorem K9:FnScope ["text","is_below","parts","top","bottom","one"] ["text"] (defScope Ly):=by walk_at "s"
abbrev Yu:Stmt:=top 71
theorem Y0:FnScope ["table","s","height","slant"] ["table","s"] (defScope Yu):=by walk_at "s"
abbrev ZQ:Stmt:=top 72
theorem gF:FnScope ["table","s","spread"] ["table","s"] (defScope ZQ):=by walk_at "s"
abbrev VM:Stmt:=top 73
theorem cZ:FnScope ["table","s","spread"] ["table","s"] (defScope VM):=by walk_at "s"
abbrev ZD:Stmt:=top 75
theorem wV:FnScope ["one","other"] ["one","other"] (defScope ZD):=by walk_at "s"
abbrev Y5:Stmt:=top 76
theorem AK8:FnScope ["one","other"] ["one","other"] (defScope Y5):=by walk_at "s"
abbrev WQ:Stmt:=top 77
theorem yf:FnScope ["one","other"] ["one","other"] (defScope WQ):=by walk_at "s"
abbrev Vv:Stmt:=top 78
theorem Hk:FnScope ["limit","lamp","first","last","steady","rising","low","high","ends"] ["limit","lamp","first","last"] (defScope Vv):=by walk_at "s"
abbrev Tc:Stmt:=top 79
theorem Mz:FnScope ["bench","lamp","first","last","limits","slants","limit"] ["bench","lamp","first","last"] (defScope Tc):=by walk_at "s"
abbrev Vp:Stmt:=top 80
theorem qP:FnScope ["table","lamp","slant","t","ahead"] ["table","lamp","slant","t"] (defScope Vp):=by walk_at "s"
abbrev Rw:Stmt:=top 81
theorem iu:FnScope ["bench","lamp","slants","t","table"] ["bench","lamp","slants","t"] (defScope Rw):=by walk_at "s"
abbrev W4:Stmt:=top 82
theorem fX:FnScope ["bench","lamp","slants","t","spots"] ["bench","lamp","slants","t"] (defScope W4):=by walk_at "s"
abbrev ZW:Stmt:=top 86
theorem yV:FnScope ["thing"] ["thing"] (defScope ZW):=by walk_at "s"
abbrev Uj:Stmt:=top 88
theorem Kl:FnScope ["bench","ray","rays","number","told","piece"] ["bench","ray"] (defScope Uj):=by walk_at "s"
abbrev qF:Stmt:=top 91
abbrev V1:Stmt:=top 96
theorem Ks:FnScope ["bench","lamp","slants","most","table","growing","middle","reach"] ["bench","lamp","slants","most"] (defScope V1):=by walk_at "s"
abbrev Yh:Stmt:=top 105
theorem Z5:FnScope ["text","words","word"] ["text"] (defScope Yh):=by walk_at "s"
abbrev Xc:Stmt:=top 106
theorem wA:FnScope ["word"] ["word"] (defScope Xc):=by walk_at "s"
abbrev pA:Stmt:=top 108
abbrev Ws:Stmt:=top 109
theorem AR0:FnScope ["reader","word","deep","times","parts"] ["reader","word","deep"] (defScope Ws):=by walk_at "s"
abbrev Ys:Stmt:=top 110
theorem QX:FnScope ["reader","deep","word","low","high"] ["reader","deep"] (defScope Ys):=by walk_at "s"
abbrev RN:Stmt:=top 112
theorem qU:FnScope ["reader","deep","parts"] ["reader","deep"] (defScope RN):=by walk_at "s"
abbrev Vj:Stmt:=top 113
theorem MP:FnScope ["parts","count","part"] ["parts"] (defScope Vj):=by walk_at "s"
abbrev Yc:Stmt:=top 114
theorem Pk:FnScope ["parts","pieces","part"] ["parts"] (defScope Yc):=by walk_at "s"
abbrev XH:Stmt:=top 115
theorem V5:FnScope ["text","reader","parts"] ["text"] (defScope XH):=by walk_at "s"
abbrev gB:Stmt:=top 116
abbrev lA:Stmt:=top 117
abbrev YC:Stmt:=top 119
theorem AH1:FnScope ["bench"] ["bench"] (defScope YC):=by walk_at "s"
abbrev Rr:Stmt:=top 124
theorem ug:FnScope ["ratios"] ["ratios"] (defScope Rr):=by walk_at "s"
abbrev jf:Stmt:=top 125
abbrev YZ:Stmt:=top 126
theorem mX:FnScope ["bench","numbers","walk"] ["bench","numbers"] (defScope YZ):=by walk_at "s"
abbrev bO:Stmt:=top 127
abbrev nA:Stmt:=top 128
abbrev Vt:Stmt:=top 129
theorem Wj:FnScope ["bench","numbers","table","place"] ["bench","numbers"] (defScope Vt):=by walk_at "s"
abbrev XR:Stmt:=top 130
theorem qG:FnScope ["bench","numbers","corners"] ["bench","numbers"] (defScope XR):=by walk_at "s"
abbrev TQ:Stmt:=top 131
theorem PN:FnScope ["bench","numbers","lamp","slants","places"] ["bench","numbers"] (defScope TQ):=by walk_at "s"
abbrev bH:Stmt:=top 132
abbrev RL:Stmt:=top 134
theorem AH6:FnScope ["word"] ["word"] (defScope RL):=by walk_at "s"
abbrev UL:Stmt:=top 135
theorem yD:FnScope ["word"] ["word"] (defScope UL):=by walk_at "s"
abbrev Wa:Stmt:=top 137
theorem Kq:FnScope ["words","form","names","name","numbers"] ["words"] (defScope Wa):=by walk_at "s"
abbrev Ui:Stmt:=top 140
theorem AO8:FnScope ["_law_script","_law_k"] ["_law_script","_law_k"] (defScope Ui):=by walk_at "s"
abbrev Ur:Stmt:=top 141
theorem Jz:FnScope ["_law_script","_law_start","_law_cells","_law_number","_law_k","_law_mixed"] ["_law_script","_law_start"] (defScope Ur):=by walk_at "s"
abbrev Vw:Stmt:=top 142
theorem Qm:FnScope ["_law_drawn_here","_law_many","_law_cells","_law_turn","_law_digit"] ["_law_drawn_here","_law_many"] (defScope Vw):=by walk_at "s"
abbrev Va:Stmt:=top 143
theorem Np:FnScope ["_law_top","_law_bottom","_law_one","_law_other"] ["_law_top","_law_bottom"] (defScope Va):=by walk_at "s"
abbrev ZS:Stmt:=top 144
theorem zx:FnScope ["_law_one","_law_other"] ["_law_one","_law_other"] (defScope ZS):=by walk_at "s"
abbrev Nb:Stmt:=top 145
theorem KJ:FnScope ["_law_drawn_here","_law_far","_law_top","_law_bottom"] ["_law_drawn_here","_law_far"] (defScope Nb):=by walk_at "s"
abbrev WT:Stmt:=top 146
theorem Ld:FnScope ["_law_drawn_here","_law_far","_law_way","_law_one","_law_other"] ["_law_drawn_here","_law_far"] (defScope WT):=by walk_at "s"
abbrev YS:Stmt:=top 147
theorem AP5:FnScope ["_law_one","_law_other"] ["_law_one","_law_other"] (defScope YS):=by walk_at "s"
abbrev Yd:Stmt:=top 148
theorem uD:FnScope ["_law_one","_law_other"] ["_law_one","_law_other"] (defScope Yd):=by walk_at "s"
abbrev Us:Stmt:=top 149
theorem zH:FnScope ["_law_one","_law_other"] ["_law_one","_law_other"] (defScope Us):=by walk_at "s"
abbrev Xa:Stmt:=top 150
theorem Lz:FnScope ["_law_number","_law_figures","_law_left"] ["_law_number"] (defScope Xa):=by walk_at "s"
abbrev Zw:Stmt:=top 151
theorem AJ5:FnScope ["_law_part_here"] ["_law_part_here"] (defScope Zw):=by walk_at "s"
abbrev WW:Stmt:=top 152
theorem sS:FnScope ["_law_piece_here"] ["_law_piece_here"] (defScope WW):=by walk_at "s"
abbrev ZP:Stmt:=top 153
theorem AN1:FnScope ["_law_bench"] ["_law_bench"] (defScope ZP):=by walk_at "s"
abbrev Ww:Stmt:=top 154
theorem Xp:FnScope ["_law_number","_law_k","_law_letter","_law_at"] ["_law_number","_law_k"] (defScope Ww):=by walk_at "s"
abbrev ZM:Stmt:=top 155
theorem Hw:FnScope ["_law_drawn_here","_law_many","_law_least","_law_found","_law_k","_law_bench","_law_j","_law_piece_here","_law_low_here"] ["_law_drawn_here","_law_many","_law_least"] (defScope ZM):=by walk_at "s"
abbrev Nk:Stmt:=top 156
theorem Lh:FnScope ["_law_drawn_here","_law_number","_law_least","_law_names","_law_benches_here","_law_desk","_law_k"] ["_law_drawn_here","_law_number","_law_least"] (defScope Nk):=by walk_at "s"
abbrev Zg:Stmt:=top 157
theorem gC:FnScope ["_law_word","_law_parts"] ["_law_word"] (defScope Zg):=by walk_at "s"
abbrev U9:Stmt:=top 158
theorem w6:FnScope ["_law_text_here"] ["_law_text_here"] (defScope U9):=by walk_at "s"
abbrev T3:Stmt:=top 159
theorem AQ4:FnScope ["_law_parts"] ["_law_parts"] (defScope T3):=by walk_at "s"
abbrev Su:Stmt:=top 160
theorem uO:FnScope ["_law_parts"] ["_law_parts"] (defScope Su):=by walk_at "s"
abbrev PB:Stmt:=top 161
theorem Wh:FnScope ["_law_drawn_here","_law_parts","_law_k"] ["_law_drawn_here"] (defScope PB):=by walk_at "s"
abbrev T8:Stmt:=top 162
theorem zz:FnScope ["_law_desk","_law_name","_law_ray"] ["_law_desk","_law_name","_law_ray"] (defScope T8):=by walk_at "s"
abbrev Oq:Stmt:=top 163
theorem Jo:FnScope ["_law_desk","_law_name","_law_box_here","_law_told","_law_rays","_law_corner","_law_height","_law_slant"] ["_law_desk","_law_name","_law_box_here"] (defScope Oq):=by walk_at "s"
abbrev S9:Stmt:=top 164
theorem Hl:FnScope ["_law_desk","_law_name","_law_bench","_law_lamp_here","_law_slants","_law_told","_law_image","_law_place","_law_growth","_law_text_here","_law_height","_law_found"] ["_law_desk","_law_name","_law_bench","_law_lamp_here","_law_slants"] (defScope S9):=by walk_at "s"
abbrev Li:Stmt:=top 165
theorem Gg:FnScope ["_law_script","_law_drawn_here","_law_number","_law_desk","_law_names","_law_benches_here","_law_cell","_law_at","_law_lamp_here","_law_box_here"] ["_law_script"] (defScope Li):=by walk_at "s"
abbrev Hh:Stmt:=inClass (top 24) 0
theorem ph:FnScope ["self","ray"] ["self","ray"] (defScope Hh):=by walk_at "s"
abbrev Ng:Stmt:=inClass (top 24) 1
theorem yx:FnScope ["self","ray"] ["self","ray"] (defScope Ng):=by walk_at "s"
abbrev M4:Stmt:=inClass (top 25) 0
theorem Ag3:FnScope ["self","length"] ["self","length"] (defScope M4):=by walk_at "s"
abbrev Lb:Stmt:=inClass (top 25) 1
theorem AR4:FnScope ["self","ray"] ["self","ray"] (defScope Lb):=by walk_at "s"
abbrev Mp:Stmt:=inClass (top 26) 0
theorem AU1:FnScope ["self","strength"] ["self","strength"] (defScope Mp):=by walk_at "s"
abbrev N5:Stmt:=inClass (top 26) 1
theorem AI3:FnScope ["self","ray"] ["self","ray"] (defScope N5):=by walk_at "s"
abbrev N6:Stmt:=inClass (top 27) 0
theorem zE:FnScope ["self","low","high"] ["self","low","high"] (defScope N6):=by walk_at "s"
abbrev LQ:Stmt:=inClass (top 27) 1
theorem Af6:FnScope ["self","ray"] ["self","ray"] (defScope LQ):=by walk_at "s"
abbrev Mg:Stmt:=inClass (top 104) 0
theorem AS4:FnScope ["self","words"] ["self","words"] (defScope Mg):=by walk_at "s"
abbrev Mj:Stmt:=inClass (top 104) 1
theorem AI9:FnScope ["self"] ["self"] (defScope Mj):=by walk_at "s"
abbrev Ms:Stmt:=inClass (top 104) 2
theorem vA:FnScope ["self"] ["self"] (defScope Ms):=by walk_at "s"
abbrev Mv:Stmt:=inClass (top 104) 3
theorem yw:FnScope ["self","word"] ["self","word"] (defScope Mv):=by walk_at "s"
abbrev NZ:Stmt:=inClass (top 138) 0
theorem AU7:FnScope ["self"] ["self"] (defScope NZ):=by walk_at "s"
abbrev Lw:Stmt:=inClass (top 138) 1
theorem IW:FnScope ["self","row","words","read","names"] ["self","row"] (defScope Lw):=by walk_at "s"
abbrev Ky:Stmt:=inClass (top 138) 2
theorem pG:FnScope ["self","row","words"] ["self","row"] (defScope Ky):=by walk_at "s"
abbrev La:Stmt:=inClass (top 138) 3
theorem AI7:FnScope ["self","name"] ["self","name"] (defScope La):=by walk_at "s"
abbrev Mh:Stmt:=inClass (top 138) 4
theorem Ab8:FnScope ["self","name","bench"] ["self","name","bench"] (defScope Mh):=by walk_at "s"
structure Adr where
 z0:Nat:=0
 BenchError:Addr
 NoNumber:Addr
 NoText:Addr
 NoTable:Addr
 NoBox:Addr
 NoRow:Addr
 Unknown:Addr
 NoBench:Addr
 Piece:Addr
 Gap:Addr
 Glass:Addr
 Stop:Addr
 Reader:Addr
 Desk:Addr
 NOUGHT:Addr
 ONE:Addr
 LEAVING:Addr
 NOWHERE:Addr
 EVERYWHERE:Addr
 ROWS:Addr
 ROWS_join:Addr
 ROWS_turn:Addr
 ROWS_show:Addr
 ROWS_walk:Addr
 ROWS_table:Addr
 ROWS_apart:Addr
 ROWS_image:Addr
 ROWS_field:Addr
 ROWS_sharp:Addr
 ROWS_rounds:Addr
 ANSWERS:Addr
 ANSWERS_show:Addr
 ANSWERS_walk:Addr
 ANSWERS_table:Addr
 ANSWERS_apart:Addr
 ANSWERS_image:Addr
 ANSWERS_field:Addr
 ANSWERS_sharp:Addr
 ANSWERS_rounds:Addr
 tGAP:Tok
 tGLASS:Tok
 tSTOP:Tok
 tMOST_PIECES:Tok
 tFIGURES:Tok
 tMOST_FIGURES:Tok
 tPARTED:Tok
 tTIMES:Tok
 tOPENED:Tok
 tCLOSED:Tok
 tMOST_TIMES:Tok
 tMOST_DEEP:Tok
 tLETTERS:Tok
 tMOST_LETTERS:Tok
 tDONE:Tok
 tNONE:Tok
 tFROM:Tok
 tMOST_ROUNDS_OF_FRACTIONS:Tok
 pr:GT
structure Exc (K:FrG)(mg:Str->Option Value)(ad:Adr):Prop where
 tt:True:=trivial
 PL:mg "BenchError"=some (.ref ad.BenchError)
 PP:mg "NoNumber"=some (.ref ad.NoNumber)
 PX:mg "NoText"=some (.ref ad.NoText)
 R3:mg "NoTable"=some (.ref ad.NoTable)
 Q8:mg "NoBox"=some (.ref ad.NoBox)
 R5:mg "NoRow"=some (.ref ad.NoRow)
 Oz:mg "Unknown"=some (.ref ad.Unknown)
 Oa:mg "NoBench"=some (.ref ad.NoBench)
 Ot:mg "Piece"=some (.ref ad.Piece)
 NT:mg "Gap"=some (.ref ad.Gap)
 MN:mg "Glass"=some (.ref ad.Glass)
 Mu:mg "Stop"=some (.ref ad.Stop)
 Lx:mg "Reader"=some (.ref ad.Reader)
 Mr:mg "Desk"=some (.ref ad.Desk)
 m_GAP:mg "GAP"=some (.str "gap" ad.tGAP)
 m_GLASS:mg "GLASS"=some (.str "glass" ad.tGLASS)
 m_STOP:mg "STOP"=some (.str "stop" ad.tSTOP)
 m_MOST_PIECES:mg "MOST_PIECES"=some (.int 60 ad.tMOST_PIECES)
 m_FIGURES:mg "FIGURES"=some (.str "0123456789" ad.tFIGURES)
 m_MOST_FIGURES:mg "MOST_FIGURES"=some (.int 15 ad.tMOST_FIGURES)
 m_PARTED:mg "PARTED"=some (.str ";" ad.tPARTED)
 m_TIMES:mg "TIMES"=some (.str "times" ad.tTIMES)
 QC:mg "OPENED"=some (.str "(" ad.tOPENED)
 QW:mg "CLOSED"=some (.str ")" ad.tCLOSED)
 Py:mg "MOST_TIMES"=some (.int 60 ad.tMOST_TIMES)
 Ql:mg "MOST_DEEP"=some (.int 4 ad.tMOST_DEEP)
 m_LETTERS:mg "LETTERS"=some (.str "abcdefghijklmnopqrstuvwxyz" ad.tLETTERS)
 m_MOST_LETTERS:mg "MOST_LETTERS"=some (.int 8 ad.tMOST_LETTERS)
 m_DONE:mg "DONE"=some (.str "ok" ad.tDONE)
 m_NONE:mg "NONE"=some (.str "none" ad.tNONE)
 m_FROM:mg "FROM"=some (.str "from" ad.tFROM)
 Oe:mg "MOST_ROUNDS_OF_FRACTIONS"=some (.int 6 ad.tMOST_ROUNDS_OF_FRACTIONS)
 l_Gap:Cls K ad.Gap
 i_Gap:MkFn K mg "Gap" ad.Gap "Gap.__init__" M4
 q_Gap_lets:MtFn K ad.Gap "lets" "Piece.lets" Hh
 q_Gap_bent:MtFn K ad.Gap "bent" "Gap.bent" Lb
 n_Gap_length:NoAttr K ad.Gap "length"
 l_Glass:Cls K ad.Glass
 i_Glass:MkFn K mg "Glass" ad.Glass "Glass.__init__" Mp
 q_Glass_lets:MtFn K ad.Glass "lets" "Piece.lets" Hh
 q_Glass_bent:MtFn K ad.Glass "bent" "Glass.bent" N5
 n_Glass_strength:NoAttr K ad.Glass "strength"
 l_Stop:Cls K ad.Stop
 i_Stop:MkFn K mg "Stop" ad.Stop "Stop.__init__" N6
 q_Stop_lets:MtFn K ad.Stop "lets" "Stop.lets" LQ
 q_Stop_bent:MtFn K ad.Stop "bent" "Piece.bent" Ng
 n_Stop_low:NoAttr K ad.Stop "low"
 n_Stop_high:NoAttr K ad.Stop "high"
 l_Reader:Cls K ad.Reader
 i_Reader:MkFn K mg "Reader" ad.Reader "Reader.__init__" Mg
 q_Reader_is_done:MtFn K ad.Reader "is_done" "Reader.is_done" Mj
 q_Reader_take:MtFn K ad.Reader "take" "Reader.take" Ms
 q_Reader_take_if:MtFn K ad.Reader "take_if" "Reader.take_if" Mv
 n_Reader_words:NoAttr K ad.Reader "words"
 n_Reader_place:NoAttr K ad.Reader "place"
 l_Desk:Cls K ad.Desk
 i_Desk:MkFn K mg "Desk" ad.Desk "Desk.__init__" NZ
 q_Desk_say:MtFn K ad.Desk "say" "Desk.say" Lw
 q_Desk_lay:MtFn K ad.Desk "lay" "Desk.lay" Ky
 q_Desk_bench_by:MtFn K ad.Desk "bench_by" "Desk.bench_by" La
 q_Desk_keep:MtFn K ad.Desk "keep" "Desk.keep" Mh
 n_Desk_benches:NoAttr K ad.Desk "benches"
 m_NOUGHT:mg "NOUGHT"=some (.ref ad.NOUGHT)
 s_NOUGHT:∀H:Hp,SqT K H ad.NOUGHT [.int 0,.int 1]
 m_ONE:mg "ONE"=some (.ref ad.ONE)
 s_ONE:∀H:Hp,SqT K H ad.ONE [.int 1,.int 1]
 Pb:mg "LEAVING"=some (.ref ad.LEAVING)
 Ah4:∀H:Hp,SqT K H ad.LEAVING [.ref ad.ONE,.ref ad.NOUGHT,.ref ad.NOUGHT,.ref ad.ONE]
 m_NOWHERE:mg "NOWHERE"=some (.ref ad.NOWHERE)
 s_NOWHERE:∀H:Hp,SqT K H ad.NOWHERE [.str "none"]
 m_EVERYWHERE:mg "EVERYWHERE"=some (.ref ad.EVERYWHERE)
 s_EVERYWHERE:∀H:Hp,SqT K H ad.EVERYWHERE [.str "all"]
 m_ROWS:mg "ROWS"=some (.ref ad.ROWS)
 g_ROWS:∀(P:Yf) (w:World),w.params=ad.pr->DKG P w K ad.ROWS (Es [("join",V.ref ad.ROWS_join),("turn",V.ref ad.ROWS_turn),("show",V.ref ad.ROWS_show),("walk",V.ref ad.ROWS_walk),("table",V.ref ad.ROWS_table),("apart",V.ref ad.ROWS_apart),("image",V.ref ad.ROWS_image),("field",V.ref ad.ROWS_field),("sharp",V.ref ad.ROWS_sharp),("rounds",V.ref ad.ROWS_rounds)])
 Ah1:∀H:Hp,SqT K H ad.ROWS_join [.int 3,.int 0]
 Ah3:∀H:Hp,SqT K H ad.ROWS_turn [.int 2,.int 0]
 s_ROWS_show:∀H:Hp,SqT K H ad.ROWS_show [.int 1,.int 0]
 s_ROWS_walk:∀H:Hp,SqT K H ad.ROWS_walk [.int 1,.int 2]
 Ah2:∀H:Hp,SqT K H ad.ROWS_table [.int 1,.int 0]
 Ah0:∀H:Hp,SqT K H ad.ROWS_apart [.int 1,.int 0]
 s_ROWS_image:∀H:Hp,SqT K H ad.ROWS_image [.int 1,.int 1]
 s_ROWS_field:∀H:Hp,SqT K H ad.ROWS_field [.int 1,.int 4]
 s_ROWS_sharp:∀H:Hp,SqT K H ad.ROWS_sharp [.int 1,.int 5]
 Ah6:∀H:Hp,SqT K H ad.ROWS_rounds [.int 1,.int 0]
 m_ANSWERS:mg "ANSWERS"=some (.ref ad.ANSWERS)
 Qf:mg "show_answer"=some (.ref ad.ANSWERS_show)
 f_ANSWERS_walk:mg "walk_answer"=some (.ref ad.ANSWERS_walk)
 Qk:mg "table_answer"=some (.ref ad.ANSWERS_table)
 QH:mg "apart_answer"=some (.ref ad.ANSWERS_apart)
 f_ANSWERS_image:mg "image_answer"=some (.ref ad.ANSWERS_image)
 f_ANSWERS_field:mg "field_answer"=some (.ref ad.ANSWERS_field)
 f_ANSWERS_sharp:mg "sharp_answer"=some (.ref ad.ANSWERS_sharp)
 Qz:mg "rounds_answer"=some (.ref ad.ANSWERS_rounds)
 g_ANSWERS:∀(P:Yf) (w:World),w.params=ad.pr->DKG P w K ad.ANSWERS (Es [("show",V.ref ad.ANSWERS_show),("walk",V.ref ad.ANSWERS_walk),("table",V.ref ad.ANSWERS_table),("apart",V.ref ad.ANSWERS_apart),("image",V.ref ad.ANSWERS_image),("field",V.ref ad.ANSWERS_field),("sharp",V.ref ad.ANSWERS_sharp),("rounds",V.ref ad.ANSWERS_rounds)])
structure Txt (K:FrG)(mg:Str->Option Value)(ad:Adr):Prop where
 ex:Exc K mg ad
 abs:mg "abs"=none
 all:mg "all"=none
 bool:mg "bool"=none
 enumerate:mg "enumerate"=none
 int:mg "int"=none
 isinstance:mg "isinstance"=none
 len:mg "len"=none
 list:mg "list"=none
 max:mg "max"=none
 range:mg "range"=none
 reversed:mg "reversed"=none
 str:mg "str"=none
 tuple:mg "tuple"=none
 Xy:TopFn K mg "is_whole" Xl
 Rf:TopFn K mg "common_divisor" Tz
 VD:TopFn K mg "is_ratio" U0
 Ym:TopFn K mg "ratio_of" Yx
 W6:TopFn K mg "sum_of" RV
 S7:TopFn K mg "less_by" YF
 Wd:TopFn K mg "product_of" VF
 V0:TopFn K mg "quotient_of" Wu
 YT:TopFn K mg "is_less" Rp
 Um:TopFn K mg "is_piece" LR
 Z4:TopFn K mg "piece_of" Yz
 aA:TopFn K mg "look_at" Ub
 Yv:TopFn K mg "is_table" Zy
 UJ:TopFn K mg "look_at_table" RT
 Ud:TopFn K mg "table_of_rays" UW
 RZ:TopFn K mg "table_of" TV
 Wl:TopFn K mg "made_by" Te
 oH:TopFn K mg "joined" iU
 iV:TopFn K mg "less" j8
 m6:TopFn K mg "part_short_of_one" jN
 fG:TopFn K mg "glass_gap_glass" lY
 aW:TopFn K mg "gap_glass_gap" ak
 pU:TopFn K mg "taken_apart" qx
 Xr:TopFn K mg "is_stretch" YL
 ZJ:TopFn K mg "look_at_stretch" Xw
 W2:TopFn K mg "is_box" Wf
 UV:TopFn K mg "look_at_box" YK
 Vc:TopFn K mg "limits_of" Wv
 U5:TopFn K mg "is_before" YQ
 U7:TopFn K mg "corners_of" Y8
 Xz:TopFn K mg "edges_of" We
 U3:TopFn K mg "room_at" T6
 T4:TopFn K mg "crossing_of" Zi
 Yr:TopFn K mg "cut_by" R8
 aG:TopFn K mg "from_the_least" S8
 Vz:TopFn K mg "field_of" Vf
 Yk:TopFn K mg "show_ratio" S6
 Vm:TopFnA K mg "read_part_figures" "read_part" Uo
 Vu:TopFn K mg "read_ratio" Ly
 X6:TopFn K mg "spread_of" Yu
 XD:TopFn K mg "image_of" ZQ
 Z7:TopFn K mg "growth_of" VM
 Ro:TopFn K mg "in_order" ZD
 V9:TopFn K mg "lesser_of" Y5
 ZZ:TopFn K mg "greater_of" WQ
 SJ:TopFn K mg "slants_by" Vv
 Ri:TopFn K mg "slants_of" Tc
 Yp:TopFn K mg "height_at" Vp
 Rq:TopFn K mg "spots_of" Rw
 Rm:TopFn K mg "blur_of" W4
 Z0:TopFn K mg "is_name" ZW
 X7:TopFn K mg "walk_of" Uj
 cW:TopFn K mg "rounds_of" qF
 WM:TopFn K mg "sharp_places" V1
 aD:TopFn K mg "words_of" Yh
 VB:TopFnA K mg "read_number_texts" "read_number" Xc
 gP:TopFn K mg "read_times" pA
 Zj:TopFn K mg "read_round" Ws
 Wy:TopFnA K mg "read_part_texts" "read_part" Ys
 XJ:TopFn K mg "read_parts" RN
 Oo:TopFn K mg "count_of" Vj
 Qd:TopFn K mg "told_out" Yc
 U6:TopFn K mg "read_bench" XH
 bB:TopFn K mg "show_piece" gB
 kZ:TopFn K mg "show_bench" lA
 VJ:TopFn K mg "turned_bench" YC
 Z2:TopFn K mg "shown" Rr
 ig:TopFn K mg "show_answer" jf
 Xj:TopFn K mg "walk_answer" YZ
 mH:TopFn K mg "table_answer" bO
 je:TopFn K mg "apart_answer" nA
 Vl:TopFn K mg "image_answer" Vt
 WL:TopFn K mg "field_answer" XR
 Uq:TopFn K mg "sharp_answer" TQ
 jb:TopFn K mg "rounds_answer" bH
 YM:TopFn K mg "look_at_name" RL
 Wg:TopFnA K mg "read_number_desk" "read_number" UL
 YH:TopFn K mg "read_row" Wa
 Zx:TopFn K mg "_law_cell_at" Ui
 UG:TopFn K mg "_law_drawn" Ur
 Zu:TopFn K mg "_law_draw" Vw
 Sv:TopFn K mg "_law_low" Va
 Ra:TopFn K mg "_law_under" ZS
 Wb:TopFn K mg "_law_part" Nb
 Th:TopFn K mg "_law_piece" WT
 WD:TopFn K mg "_law_plus" YS
 W3:TopFn K mg "_law_times" Yd
 YJ:TopFn K mg "_law_less" Us
 Uu:TopFn K mg "_law_written" Xa
 ZX:TopFn K mg "_law_shown" Zw
 XS:TopFn K mg "_law_piece_text" WW
 Xu:TopFn K mg "_law_text" ZP
 Vy:TopFn K mg "_law_called" Ww
 Ry:TopFn K mg "_law_benches" ZM
 W8:TopFn K mg "_law_laid" Nk
 SM:TopFn K mg "_law_read" Zg
 Vk:TopFn K mg "_law_read_all" U9
 Uh:TopFn K mg "_law_row" T3
 Tu:TopFn K mg "_law_is_short" Su
 Xd:TopFn K mg "_law_box" PB
 RJ:TopFn K mg "_law_comes_by" T8
 ZV:TopFn K mg "_law_field" Oq
 Vx:TopFn K mg "_law_lamp" S9
theorem AV4 {K:FrG}{h:Heap}{mg:Str->Option Value}{d1 m0 H1 s5 J2 J3 s6 s7 J4 m b d a c I s8 e1 e2 B s4 S T U V C D E F G t Y n o f g i j k e:Addr}{tGAP:Tok}{tGLASS:Tok}{tSTOP:Tok}{tMOST_PIECES:Tok}{tFIGURES:Tok}{tMOST_FIGURES:Tok}{tPARTED:Tok}{tTIMES:Tok}{tOPENED:Tok}{tCLOSED:Tok}{tMOST_TIMES:Tok}{tMOST_DEEP:Tok}{tLETTERS:Tok}{tMOST_LETTERS:Tok}{tDONE:Tok}{tNONE:Tok}{tFROM:Tok}{tMOST_ROUNDS_OF_FRACTIONS:Tok}{K7:Addr}{B1:Value}{B2 B3:Option Addr}{B4:Array (Option Value)}{B5 B6 B7 d2 B8:Value}{K8:Addr}{B9:Value}{C0 C1:Option Addr}{C2:Array (Option Value)}{C3 C4 C5 d3 C6:Value}{K9:Addr}{C7:Value}{C8 C9:Option Addr}{D0:Array (Option Value)}{D1 D2 D3 d4 D4:Value}{L0:Addr}{m1:Value}{m2 m3:Option Addr}{m4:Array (Option Value)}{m5 m6 m7 Z m8:Value}{L1:Addr}{m9:Value}{n0 n1:Option Addr}{n2:Array (Option Value)}{n3 n4 n5 a0 n6:Value}{L2:Addr}{n7:Value}{n8 n9:Option Addr}{o0:Array (Option Value)}{o1 o2 o3 a1 o4:Value}{L3:Addr}{s9:Value}{t0 t1:Option Addr}{t2:Array (Option Value)}{t3 t4 t5 a4 t6:Value}{L4:Addr}{t7:Value}{t8 t9:Option Addr}{u0:Array (Option Value)}{u1 u2 u3 a5 u4:Value}{L5:Addr}{u5:Value}{u6 u7:Option Addr}{u8:Array (Option Value)}{u9 v0 v1 a6 v2:Value}{L6:Addr}{i2:Value}{i3 i4:Option Addr}{i5:Array (Option Value)}{i6 i7 i8 J i9:Value}{L7:Addr}{b2:Value}{b3 b4:Option Addr}{b5:Array (Option Value)}{b6 b7 b8 p b9:Value}{L8:Addr}{j0:Value}{j1 j2:Option Addr}{j3:Array (Option Value)}{j4 j5 j6 L j7:Value}{L9:Addr}{c0:Value}{c1 c2:Option Addr}{c3:Array (Option Value)}{c4 c5 c6 q c7:Value}{M0:Addr}{v3:Value}{v4 v5:Option Addr}{v6:Array (Option Value)}{v7 v8 v9 a7 w0:Value}{M1:Addr}{D5:Value}{D6 D7:Option Addr}{D8:Array (Option Value)}{D9 E0 E1 d5 E2:Value}{M2:Addr}{E3:Value}{E4 E5:Option Addr}{E6:Array (Option Value)}{E7 E8 E9 d6 F0:Value}{M3:Addr}{e3:Value}{e4 e5:Option Addr}{e6:Array (Option Value)}{e7 e8 e9 u f0:Value}{M5:Addr}{w1:Value}{w2 w3:Option Addr}{w4:Array (Option Value)}{w5 w6 w7 a8 w8:Value}{F1:Tok}{F2:Tok}{J5:Option Addr}{J6:Nat}{J7:Array (Option Value)}{J9:Tok}{K0:Tok}{K3:Option Addr}{K4:Nat}{K5:Array (Option Value)}{H2:Option Addr}{H3:Nat}{H4:Array (Option Value)}{w9:Tok}{H5:Option Addr}{H6:Nat}{H7:Array (Option Value)}{g7:Tok}{o5:Option Addr}{o6:Nat}{o7:Array (Option Value)}{M7:Int}{x0:Tok}{M8:Int}{x1:Tok}{M9:Int}{x2:Tok}{N0:Int}{x3:Tok}{N1:Int}{o8:Tok}{N2:Int}{o9:Tok}{N3:Int}{p0:Tok}{N4:Int}{p1:Tok}{N7:Int}{p2:Tok}{N8:Int}{j8:Tok}{K1:Nat}{j9:Tok}{k0:Tok}{x4:Option Addr}{x5:Nat}{x6:Array (Option Value)}{k1:Tok}{k2:Tok}{x7:Option Addr}{x8:Nat}{x9:Array (Option Value)}{k3:Tok}{k4:Tok}{y0:Option Addr}{y1:Nat}{y2:Array (Option Value)}{k5:Tok}{k6:Tok}{y3:Option Addr}{y4:Nat}{y5:Array (Option Value)}{g8:Tok}{g9:Tok}{p3:Option Addr}{p4:Nat}{p5:Array (Option Value)}{h0:Tok}{h1:Tok}{p6:Option Addr}{p7:Nat}{p8:Array (Option Value)}{h2:Tok}{h3:Tok}{p9:Option Addr}{q0:Nat}{q1:Array (Option Value)}{h4:Tok}{h5:Tok}{q2:Option Addr}{q3:Nat}{q4:Array (Option Value)}{h6:Tok}{h7:Tok}{q5:Option Addr}{q6:Nat}{q7:Array (Option Value)}{f1:Tok}{f2:Tok}{k7:Option Addr}{k8:Nat}{k9:Array (Option Value)}{N9:Int}{h8:Tok}{O0:Int}{h9:Tok}{O1:Int}{f3:Tok}{O2:Int}{f4:Tok}{O3:Int}{f5:Tok}{O4:Int}{f6:Tok}{O5:Int}{f7:Tok}{O6:Int}{c8:Tok}{H8:Nat}(pr:GT)(X:K.In h)(l:h.Ns Zq mg)(PL:ZG K Zq "BenchError"=some (some (.ref d1)))(PP:ZG K Zq "NoNumber"=some (some (.ref m0)))(PX:ZG K Zq "NoText"=some (some (.ref H1)))(R3:ZG K Zq "NoTable"=some (some (.ref s5)))(Q8:ZG K Zq "NoBox"=some (some (.ref J2)))(R5:ZG K Zq "NoRow"=some (some (.ref J3)))(Oz:ZG K Zq "Unknown"=some (some (.ref s6)))(Oa:ZG K Zq "NoBench"=some (some (.ref s7)))(Ot:ZG K Zq "Piece"=some (some (.ref J4)))(NT:ZG K Zq "Gap"=some (some (.ref m)))(MN:ZG K Zq "Glass"=some (some (.ref b)))(Mu:ZG K Zq "Stop"=some (some (.ref d)))(Lx:ZG K Zq "Reader"=some (some (.ref a)))(Mr:ZG K Zq "Desk"=some (some (.ref c)))(m_GAP:ZG K Zq "GAP"=some (some (.str "gap" tGAP)))(m_GLASS:ZG K Zq "GLASS"=some (some (.str "glass" tGLASS)))(m_STOP:ZG K Zq "STOP"=some (some (.str "stop" tSTOP)))(m_MOST_PIECES:ZG K Zq "MOST_PIECES"=some (some (.int 60 tMOST_PIECES)))(m_FIGURES:ZG K Zq "FIGURES"=some (some (.str "0123456789" tFIGURES)))(m_MOST_FIGURES:ZG K Zq "MOST_FIGURES"=some (some (.int 15 tMOST_FIGURES)))(m_PARTED:ZG K Zq "PARTED"=some (some (.str ";" tPARTED)))(m_TIMES:ZG K Zq "TIMES"=some (some (.str "times" tTIMES)))(QC:ZG K Zq "OPENED"=some (some (.str "(" tOPENED)))(QW:ZG K Zq "CLOSED"=some (some (.str ")" tCLOSED)))(Py:ZG K Zq "MOST_TIMES"=some (some (.int 60 tMOST_TIMES)))(Ql:ZG K Zq "MOST_DEEP"=some (some (.int 4 tMOST_DEEP)))(m_LETTERS:ZG K Zq "LETTERS"=some (some (.str "abcdefghijklmnopqrstuvwxyz" tLETTERS)))(m_MOST_LETTERS:ZG K Zq "MOST_LETTERS"=some (some (.int 8 tMOST_LETTERS)))(m_DONE:ZG K Zq "DONE"=some (some (.str "ok" tDONE)))(m_NONE:ZG K Zq "NONE"=some (some (.str "none" tNONE)))(m_FROM:ZG K Zq "FROM"=some (some (.str "from" tFROM)))(Oe:ZG K Zq "MOST_ROUNDS_OF_FRACTIONS"=some (some (.int 6 tMOST_ROUNDS_OF_FRACTIONS)))(y6:UR K m ut=true)(y7:UY K m=true)(y8:JO K m=true)(y9:ZI K (.ref m) "__setattr__"=some (some (.builtin "object.__setattr__")))(F3:zb K m=true)(H9:ZI K (.ref m) "__init__"=some (some (.ref K7)))(F4:XZ K (.ref K7)=true)(F5:Ya K (.ref m)=true)(I0:K.lookup K7=some ⟨B1,B2,.func (YO "__init__" "Gap.__init__" (defArgs M4) (defBody M4) (defScope M4) .none B5 B6 B7 B3 d2 B8),B4⟩)(O7:Xm K d2 "Gap.__init__"=true)(F6:Ya K (.ref K7)=true)(I1:ZI K (.ref m) "lets"=some (some (.ref K8)))(F7:XZ K (.ref K8)=true)(d7:Ya K (.ref K8)=true)(I2:K.lookup K8=some ⟨B9,C0,.func (YO "lets" "Piece.lets" (defArgs Hh) (defBody Hh) (defScope Hh) .none C3 C4 C5 C1 d3 C6),C2⟩)(O8:Xm K d3 "Piece.lets"=true)(I3:ZI K (.ref m) "bent"=some (some (.ref K9)))(F8:XZ K (.ref K9)=true)(d8:Ya K (.ref K9)=true)(I4:K.lookup K9=some ⟨C7,C8,.func (YO "bent" "Gap.bent" (defArgs Lb) (defBody Lb) (defScope Lb) .none D1 D2 D3 C9 d4 D4),D0⟩)(O9:Xm K d4 "Gap.bent"=true)(n_Gap_length:ZI K (.ref m) "length"=some none)(f8:UR K b ut=true)(f9:UY K b=true)(g0:JO K b=true)(g1:ZI K (.ref b) "__setattr__"=some (some (.builtin "object.__setattr__")))(q8:zb K b=true)(z0:ZI K (.ref b) "__init__"=some (some (.ref L0)))(q9:XZ K (.ref L0)=true)(r0:Ya K (.ref b)=true)(z1:K.lookup L0=some ⟨m1,m2,.func (YO "__init__" "Glass.__init__" (defArgs Mp) (defBody Mp) (defScope Mp) .none m5 m6 m7 m3 Z m8),m4⟩)(P0:Xm K Z "Glass.__init__"=true)(r1:Ya K (.ref L0)=true)(z2:ZI K (.ref b) "lets"=some (some (.ref L1)))(r2:XZ K (.ref L1)=true)(a2:Ya K (.ref L1)=true)(z3:K.lookup L1=some ⟨m9,n0,.func (YO "lets" "Piece.lets" (defArgs Hh) (defBody Hh) (defScope Hh) .none n3 n4 n5 n1 a0 n6),n2⟩)(P1:Xm K a0 "Piece.lets"=true)(z4:ZI K (.ref b) "bent"=some (some (.ref L2)))(r3:XZ K (.ref L2)=true)(a3:Ya K (.ref L2)=true)(z5:K.lookup L2=some ⟨n7,n8,.func (YO "bent" "Glass.bent" (defArgs N5) (defBody N5) (defScope N5) .none o1 o2 o3 n9 a1 o4),o0⟩)(P2:Xm K a1 "Glass.bent"=true)(n_Glass_strength:ZI K (.ref b) "strength"=some none)(l0:UR K d ut=true)(l1:UY K d=true)(l2:JO K d=true)(l3:ZI K (.ref d) "__setattr__"=some (some (.builtin "object.__setattr__")))(z6:zb K d=true)(F9:ZI K (.ref d) "__init__"=some (some (.ref L3)))(z7:XZ K (.ref L3)=true)(z8:Ya K (.ref d)=true)(G0:K.lookup L3=some ⟨s9,t0,.func (YO "__init__" "Stop.__init__" (defArgs N6) (defBody N6) (defScope N6) .none t3 t4 t5 t1 a4 t6),t2⟩)(P3:Xm K a4 "Stop.__init__"=true)(z9:Ya K (.ref L3)=true)(G1:ZI K (.ref d) "lets"=some (some (.ref L4)))(A0:XZ K (.ref L4)=true)(a9:Ya K (.ref L4)=true)(G2:K.lookup L4=some ⟨t7,t8,.func (YO "lets" "Stop.lets" (defArgs LQ) (defBody LQ) (defScope LQ) .none u1 u2 u3 t9 a5 u4),u0⟩)(P4:Xm K a5 "Stop.lets"=true)(G3:ZI K (.ref d) "bent"=some (some (.ref L5)))(A1:XZ K (.ref L5)=true)(b0:Ya K (.ref L5)=true)(G4:K.lookup L5=some ⟨u5,u6,.func (YO "bent" "Piece.bent" (defArgs Ng) (defBody Ng) (defScope Ng) .none u9 v0 v1 u7 a6 v2),u8⟩)(P5:Xm K a6 "Piece.bent"=true)(n_Stop_low:ZI K (.ref d) "low"=some none)(n_Stop_high:ZI K (.ref d) "high"=some none)(x:UR K a ut=true)(y:UY K a=true)(z:JO K a=true)(A:ZI K (.ref a) "__setattr__"=some (some (.builtin "object.__setattr__")))(l4:zb K a=true)(r4:ZI K (.ref a) "__init__"=some (some (.ref L6)))(l5:XZ K (.ref L6)=true)(l6:Ya K (.ref a)=true)(r5:K.lookup L6=some ⟨i2,i3,.func (YO "__init__" "Reader.__init__" (defArgs Mg) (defBody Mg) (defScope Mg) .none i6 i7 i8 i4 J i9),i5⟩)(P6:Xm K J "Reader.__init__"=true)(l7:Ya K (.ref L6)=true)(g2:ZI K (.ref a) "is_done"=some (some (.ref L7)))(c9:XZ K (.ref L7)=true)(r:Ya K (.ref L7)=true)(g3:K.lookup L7=some ⟨b2,b3,.func (YO "is_done" "Reader.is_done" (defArgs Mj) (defBody Mj) (defScope Mj) .none b6 b7 b8 b4 p b9),b5⟩)(P7:Xm K p "Reader.is_done"=true)(r6:ZI K (.ref a) "take"=some (some (.ref L8)))(l8:XZ K (.ref L8)=true)(M:Ya K (.ref L8)=true)(r7:K.lookup L8=some ⟨j0,j1,.func (YO "take" "Reader.take" (defArgs Ms) (defBody Ms) (defScope Ms) .none j4 j5 j6 j2 L j7),j3⟩)(P8:Xm K L "Reader.take"=true)(g4:ZI K (.ref a) "take_if"=some (some (.ref L9)))(d0:XZ K (.ref L9)=true)(s:Ya K (.ref L9)=true)(g5:K.lookup L9=some ⟨c0,c1,.func (YO "take_if" "Reader.take_if" (defArgs Mv) (defBody Mv) (defScope Mv) .none c4 c5 c6 c2 q c7),c3⟩)(P9:Xm K q "Reader.take_if"=true)(n_Reader_words:ZI K (.ref a) "words"=some none)(n_Reader_place:ZI K (.ref a) "place"=some none)(N:UR K c ut=true)(O:UY K c=true)(Q:JO K c=true)(R:ZI K (.ref c) "__setattr__"=some (some (.builtin "object.__setattr__")))(A2:zb K c=true)(G5:ZI K (.ref c) "__init__"=some (some (.ref M0)))(A3:XZ K (.ref M0)=true)(A4:Ya K (.ref c)=true)(G6:K.lookup M0=some ⟨v3,v4,.func (YO "__init__" "Desk.__init__" (defArgs NZ) (defBody NZ) (defScope NZ) .none v7 v8 v9 v5 a7 w0),v6⟩)(Q0:Xm K a7 "Desk.__init__"=true)(A5:Ya K (.ref M0)=true)(I5:ZI K (.ref c) "say"=some (some (.ref M1)))(G7:XZ K (.ref M1)=true)(d9:Ya K (.ref M1)=true)(I6:K.lookup M1=some ⟨D5,D6,.func (YO "say" "Desk.say" (defArgs Lw) (defBody Lw) (defScope Lw) .none D9 E0 E1 D7 d5 E2),D8⟩)(Q1:Xm K d5 "Desk.say"=true)(I7:ZI K (.ref c) "lay"=some (some (.ref M2)))(G8:XZ K (.ref M2)=true)(e0:Ya K (.ref M2)=true)(I8:K.lookup M2=some ⟨E3,E4,.func (YO "lay" "Desk.lay" (defArgs Ky) (defBody Ky) (defScope Ky) .none E7 E8 E9 E5 d6 F0),E6⟩)(Q2:Xm K d6 "Desk.lay"=true)(i0:ZI K (.ref c) "bench_by"=some (some (.ref M3)))(g6:XZ K (.ref M3)=true)(v:Ya K (.ref M3)=true)(i1:K.lookup M3=some ⟨e3,e4,.func (YO "bench_by" "Desk.bench_by" (defArgs La) (defBody La) (defScope La) .none e7 e8 e9 e5 u f0),e6⟩)(Q3:Xm K u "Desk.bench_by"=true)(G9:ZI K (.ref c) "keep"=some (some (.ref M5)))(A6:XZ K (.ref M5)=true)(b1:Ya K (.ref M5)=true)(H0:K.lookup M5=some ⟨w1,w2,.func (YO "keep" "Desk.keep" (defArgs Mh) (defBody Mh) (defScope Mh) .none w5 w6 w7 w3 a8 w8),w4⟩)(Q4:Xm K a8 "Desk.keep"=true)(n_Desk_benches:ZI K (.ref c) "benches"=some none)(m_NOUGHT:ZG K Zq "NOUGHT"=some (some (.ref I)))(J8:K.lookup I=some ⟨.type "tuple",J5,.seq #[.int 0 F1,.int 1 F2] J6,J7⟩)(m_ONE:ZG K Zq "ONE"=some (some (.ref s8)))(K6:K.lookup s8=some ⟨.type "tuple",K3,.seq #[.int 1 J9,.int 1 K0] K4,K5⟩)(Pb:ZG K Zq "LEAVING"=some (some (.ref e1)))(I9:K.lookup e1=some ⟨.type "tuple",H2,.seq #[.ref s8,.ref I,.ref I,.ref s8] H3,H4⟩)(m_NOWHERE:ZG K Zq "NOWHERE"=some (some (.ref e2)))(J0:K.lookup e2=some ⟨.type "tuple",H5,.seq #[.str "none" w9] H6,H7⟩)(m_EVERYWHERE:ZG K Zq "EVERYWHERE"=some (some (.ref B)))(r8:K.lookup B=some ⟨.type "tuple",o5,.seq #[.str "all" g7] o6,o7⟩)(m_ROWS:ZG K Zq "ROWS"=some (some (.ref s4)))(K2:K.lookup s4=some ⟨.type "dict",none,.dict #[⟨M7,.str "join" x0,.ref S⟩,⟨M8,.str "turn" x1,.ref T⟩,⟨M9,.str "show" x2,.ref U⟩,⟨N0,.str "walk" x3,.ref V⟩,⟨N1,.str "table" o8,.ref C⟩,⟨N2,.str "apart" o9,.ref D⟩,⟨N3,.str "image" p0,.ref E⟩,⟨N4,.str "field" p1,.ref F⟩,⟨N7,.str "sharp" p2,.ref G⟩,⟨N8,.str "rounds" j8,.ref t⟩] K1,#[]⟩)(Q5:M7=Dk pr "join")(Q6:M8=Dk pr "turn")(Q7:M9=Dk pr "show")(Q9:N0=Dk pr "walk")(R0:N1=Dk pr "table")(R1:N2=Dk pr "apart")(R2:N3=Dk pr "image")(R4:N4=Dk pr "field")(R6:N7=Dk pr "sharp")(R7:N8=Dk pr "rounds")(R8:(s4 == Qv)=false)(A7:K.lookup S=some ⟨.type "tuple",x4,.seq #[.int 3 j9,.int 0 k0] x5,x6⟩)(A8:K.lookup T=some ⟨.type "tuple",x7,.seq #[.int 2 k1,.int 0 k2] x8,x9⟩)(A9:K.lookup U=some ⟨.type "tuple",y0,.seq #[.int 1 k3,.int 0 k4] y1,y2⟩)(B0:K.lookup V=some ⟨.type "tuple",y3,.seq #[.int 1 k5,.int 2 k6] y4,y5⟩)(r9:K.lookup C=some ⟨.type "tuple",p3,.seq #[.int 1 g8,.int 0 g9] p4,p5⟩)(s0:K.lookup D=some ⟨.type "tuple",p6,.seq #[.int 1 h0,.int 0 h1] p7,p8⟩)(s1:K.lookup E=some ⟨.type "tuple",p9,.seq #[.int 1 h2,.int 1 h3] q0,q1⟩)(s2:K.lookup F=some ⟨.type "tuple",q2,.seq #[.int 1 h4,.int 4 h5] q3,q4⟩)(s3:K.lookup G=some ⟨.type "tuple",q5,.seq #[.int 1 h6,.int 5 h7] q6,q7⟩)(l9:K.lookup t=some ⟨.type "tuple",k7,.seq #[.int 1 f1,.int 0 f2] k8,k9⟩)(m_ANSWERS:ZG K Zq "ANSWERS"=some (some (.ref Y)))(Qf:ZG K Zq "show_answer"=some (some (.ref n)))(f_ANSWERS_walk:ZG K Zq "walk_answer"=some (some (.ref o)))(Qk:ZG K Zq "table_answer"=some (some (.ref f)))(QH:ZG K Zq "apart_answer"=some (some (.ref g)))(f_ANSWERS_image:ZG K Zq "image_answer"=some (some (.ref i)))(f_ANSWERS_field:ZG K Zq "field_answer"=some (some (.ref j)))(f_ANSWERS_sharp:ZG K Zq "sharp_answer"=some (some (.ref k)))(Qz:ZG K Zq "rounds_answer"=some (some (.ref e)))(J1:K.lookup Y=some ⟨.type "dict",none,.dict #[⟨N9,.str "show" h8,.ref n⟩,⟨O0,.str "walk" h9,.ref o⟩,⟨O1,.str "table" f3,.ref f⟩,⟨O2,.str "apart" f4,.ref g⟩,⟨O3,.str "image" f5,.ref i⟩,⟨O4,.str "field" f6,.ref j⟩,⟨O5,.str "sharp" f7,.ref k⟩,⟨O6,.str "rounds" c8,.ref e⟩] H8,#[]⟩)(R9:N9=Dk pr "show")(S0:O0=Dk pr "walk")(S1:O1=Dk pr "table")(S2:O2=Dk pr "apart")(S3:O3=Dk pr "image")(S4:O4=Dk pr "field")(S5:O5=Dk pr "sharp")(S6:O6=Dk pr "rounds")(S7:(Y == Qv)=false):Exc K mg ⟨0,d1,m0,H1,s5,J2,J3,s6,s7,J4,m,b,d,a,c,I,s8,e1,e2,B,s4,S,T,U,V,C,D,E,F,G,t,Y,n,o,f,g,i,j,k,e,tGAP,tGLASS,tSTOP,tMOST_PIECES,tFIGURES,tMOST_FIGURES,tPARTED,tTIMES,tOPENED,tCLOSED,tMOST_TIMES,tMOST_DEEP,tLETTERS,tMOST_LETTERS,tDONE,tNONE,tFROM,tMOST_ROUNDS_OF_FRACTIONS,pr⟩:=⟨trivial,Za X l PL,Za X l PP,Za X l PX,Za X l R3,Za X l Q8,Za X l R5,Za X l Oz,Za X l Oa,Za X l Ot,Za X l NT,Za X l MN,Za X l Mu,Za X l Lx,Za X l Mr,Za X l m_GAP,Za X l m_GLASS,Za X l m_STOP,Za X l m_MOST_PIECES,Za X l m_FIGURES,Za X l m_MOST_FIGURES,Za X l m_PARTED,Za X l m_TIMES,Za X l QC,Za X l QW,Za X l Py,Za X l Ql,Za X l m_LETTERS,Za X l m_MOST_LETTERS,Za X l m_DONE,Za X l m_NONE,Za X l m_FROM,Za X l Oe,⟨y6,y7,y8,y9⟩,⟨⟨_,_,Dq I0 O7 F6,⟨F3,H9,F4,F5⟩⟩,Za X l NT⟩,⟨⟨_,_,Dq I2 O8 d7,⟨I1,F7,d7⟩⟩,⟨y6,y7,y8,y9⟩⟩,⟨⟨_,_,Dq I4 O9 d8,⟨I3,F8,d8⟩⟩,⟨y6,y7,y8,y9⟩⟩,n_Gap_length,⟨f8,f9,g0,g1⟩,⟨⟨_,_,Dq z1 P0 r1,⟨q8,z0,q9,r0⟩⟩,Za X l MN⟩,⟨⟨_,_,Dq z3 P1 a2,⟨z2,r2,a2⟩⟩,⟨f8,f9,g0,g1⟩⟩,⟨⟨_,_,Dq z5 P2 a3,⟨z4,r3,a3⟩⟩,⟨f8,f9,g0,g1⟩⟩,n_Glass_strength,⟨l0,l1,l2,l3⟩,⟨⟨_,_,Dq G0 P3 z9,⟨z6,F9,z7,z8⟩⟩,Za X l Mu⟩,⟨⟨_,_,Dq G2 P4 a9,⟨G1,A0,a9⟩⟩,⟨l0,l1,l2,l3⟩⟩,⟨⟨_,_,Dq G4 P5 b0,⟨G3,A1,b0⟩⟩,⟨l0,l1,l2,l3⟩⟩,n_Stop_low,n_Stop_high,⟨x,y,z,A⟩,⟨⟨_,_,Dq r5 P6 l7,⟨l4,r4,l5,l6⟩⟩,Za X l Lx⟩,⟨⟨_,_,Dq g3 P7 r,⟨g2,c9,r⟩⟩,⟨x,y,z,A⟩⟩,⟨⟨_,_,Dq r7 P8 M,⟨r6,l8,M⟩⟩,⟨x,y,z,A⟩⟩,⟨⟨_,_,Dq g5 P9 s,⟨g4,d0,s⟩⟩,⟨x,y,z,A⟩⟩,n_Reader_words,n_Reader_place,⟨N,O,Q,R⟩,⟨⟨_,_,Dq G6 Q0 A5,⟨A2,G5,A3,A4⟩⟩,Za X l Mr⟩,⟨⟨_,_,Dq I6 Q1 d9,⟨I5,G7,d9⟩⟩,⟨N,O,Q,R⟩⟩,⟨⟨_,_,Dq I8 Q2 e0,⟨I7,G8,e0⟩⟩,⟨N,O,Q,R⟩⟩,⟨⟨_,_,Dq i1 Q3 v,⟨i0,g6,v⟩⟩,⟨N,O,Q,R⟩⟩,⟨⟨_,_,Dq H0 Q4 b1,⟨G9,A6,b1⟩⟩,⟨N,O,Q,R⟩⟩,n_Desk_benches,Za X l m_NOUGHT,λ H=>.inr ⟨_,_,_,J8,rfl,rfl,by show 2<=Y3;decide,(.cons ⟨_,rfl⟩ (.cons ⟨_,rfl⟩ .nil))⟩,Za X l m_ONE,λ H=>.inr ⟨_,_,_,K6,rfl,rfl,by show 2<=Y3;decide,(.cons ⟨_,rfl⟩ (.cons ⟨_,rfl⟩ .nil))⟩,Za X l Pb,λ H=>.inr ⟨_,_,_,I9,rfl,rfl,by show 4<=Y3;decide,(.cons rfl (.cons rfl (.cons rfl (.cons rfl .nil))))⟩,Za X l m_NOWHERE,λ H=>.inr ⟨_,_,_,J0,rfl,rfl,by show 1<=Y3;decide,(.cons ⟨_,rfl⟩ .nil)⟩,Za X l m_EVERYWHERE,λ H=>.inr ⟨_,_,_,r8,rfl,rfl,by show 1<=Y3;decide,(.cons ⟨_,rfl⟩ .nil)⟩,Za X l m_ROWS,λ P w M6=>gr M6 K2 (.cons Q5 rfl rfl (.cons Q6 rfl rfl (.cons Q7 rfl rfl (.cons Q9 rfl rfl (.cons R0 rfl rfl (.cons R1 rfl rfl (.cons R2 rfl rfl (.cons R4 rfl rfl (.cons R6 rfl rfl (.cons R7 rfl rfl .nil)))))))))) (show UB [("join":Str),("turn":Str),("show":Str),("walk":Str),("table":Str),("apart":Str),("image":Str),("field":Str),("sharp":Str),("rounds":Str)] by decide+kernel) R8,λ H=>.inr ⟨_,_,_,A7,rfl,rfl,by show 2<=Y3;decide,(.cons ⟨_,rfl⟩ (.cons ⟨_,rfl⟩ .nil))⟩,λ H=>.inr ⟨_,_,_,A8,rfl,rfl,by show 2<=Y3;decide,(.cons ⟨_,rfl⟩ (.cons ⟨_,rfl⟩ .nil))⟩,λ H=>.inr ⟨_,_,_,A9,rfl,rfl,by show 2<=Y3;decide,(.cons ⟨_,rfl⟩ (.cons ⟨_,rfl⟩ .nil))⟩,λ H=>.inr ⟨_,_,_,B0,rfl,rfl,by show 2<=Y3;decide,(.cons ⟨_,rfl⟩ (.cons ⟨_,rfl⟩ .nil))⟩,λ H=>.inr ⟨_,_,_,r9,rfl,rfl,by show 2<=Y3;decide,(.cons ⟨_,rfl⟩ (.cons ⟨_,rfl⟩ .nil))⟩,λ H=>.inr ⟨_,_,_,s0,rfl,rfl,by show 2<=Y3;decide,(.cons ⟨_,rfl⟩ (.cons ⟨_,rfl⟩ .nil))⟩,λ H=>.inr ⟨_,_,_,s1,rfl,rfl,by show 2<=Y3;decide,(.cons ⟨_,rfl⟩ (.cons ⟨_,rfl⟩ .nil))⟩,λ H=>.inr ⟨_,_,_,s2,rfl,rfl,by show 2<=Y3;decide,(.cons ⟨_,rfl⟩ (.cons ⟨_,rfl⟩ .nil))⟩,λ H=>.inr ⟨_,_,_,s3,rfl,rfl,by show 2<=Y3;decide,(.cons ⟨_,rfl⟩ (.cons ⟨_,rfl⟩ .nil))⟩,λ H=>.inr ⟨_,_,_,l9,rfl,rfl,by show 2<=Y3;decide,(.cons ⟨_,rfl⟩ (.cons ⟨_,rfl⟩ .nil))⟩,Za X l m_ANSWERS,Za X l Qf,Za X l f_ANSWERS_walk,Za X l Qk,Za X l QH,Za X l f_ANSWERS_image,Za X l f_ANSWERS_field,Za X l f_ANSWERS_sharp,Za X l Qz,λ P w M6=>gr M6 J1 (.cons R9 rfl rfl (.cons S0 rfl rfl (.cons S1 rfl rfl (.cons S2 rfl rfl (.cons S3 rfl rfl (.cons S4 rfl rfl (.cons S5 rfl rfl (.cons S6 rfl rfl .nil)))))))) (show UB [("show":Str),("walk":Str),("table":Str),("apart":Str),("image":Str),("field":Str),("sharp":Str),("rounds":Str)] by decide+kernel) S7⟩
section
variable {P:Yf}{w:World}{K:FrG}{mg:Str->Option Value}{base:Heap}{ad:Adr}{c:Bool}
theorem iK (T:Txt K mg ad):CalB P w K mg base true 1 "is_whole" ["thing"] (pJ K):=by
 refine T.Xy.calN Ae6 (λ _ _ _ _ _ _=>by1 λ _=>rfl) (λ vs H Q E h=>?_) (λ f k A outer s H vs Q E l h=>?_)
 ·obtain ⟨v,d,rfl,_⟩:=h;rfl
 obtain ⟨v,d,rfl,hv,q⟩:=h;obtain ⟨b,a,i,j,e⟩:=AO6 d;refine ⟨_,(Ak (Av (Gw (Br Fv rfl T.isinstance Fb (Ad (pv 0) (Ad (Fo (v:=.ty "int") rfl T.int Ih rfl) Aa))) (Ga (Jq (Br Fv rfl T.isinstance Fb (Ad (pv 0) (Ad (Fo (v:=.ty "bool") rfl T.bool zU rfl) Aa)))))))),?_⟩;refine ⟨_,rfl,_,_,_,b,rfl,hv,i,_,rfl,?_⟩;cases b with
 | false=>
  have g:O7 d=false:=e.symm;rw [g] at q;exact iteF q
 | true=>
  refine iteT ?_;refine ⟨_,rfl,_,_,_,a,rfl,hv,j,_,rfl,?_⟩;have g:(!a)=O7 d:=e;show Q (.bl (!a)) H;rw [g];exact q
theorem jZ (T:Txt K mg ad):CalB P w K mg base true 1 "common_divisor" ["one","other"] pL:=by
 refine T.Rf.calN Kh (λ _ _ _ _ _ _=>Bm λ _ _=>rfl) (λ vs H Q E h=>?_) (λ f u A outer s H vs Q E v h=>?_)
 ·obtain ⟨a,b,rfl,_⟩:=h;rfl
 obtain ⟨a,b,rfl,q⟩:=h;refine ⟨_,(Ag (Ax (i:=2) Kh.nd (Br Ip rfl T.abs Iu (Ad (pv 0) Aa))) (Ag (Ax (i:=3) Kh.nd (Br Ip rfl T.abs Iu (Ad (pv 1) Aa))) (Ag (Mm YI (BW Ey (pv 3) Ac) (Ag (Ax (i:=4) Kh.nd (Aw Eb (pv 2) (pv 3))) (Ag (Ax (i:=2) Kh.nd (pv 3)) (Ak (Ax (i:=3) Kh.nd (pv 4)))))) (Ak (Av (pv 2)))))),?_⟩;refine ⟨_,rfl,_,rfl,_,rfl,_,rfl,?_⟩;have l:=Fr.Qu a;have o:=Fr.Qu b;refine ⟨λ k p d=>H=d/\∃(m:Nat) (r:Option V),p=[some (.int a),some (.int b),some (.int m),some (.int k),r]/\Go m k=Go a.natAbs b.natAbs,⟨b.natAbs,rfl,a.natAbs,none,by rw [<- l,<- o];rfl,rfl⟩,?_⟩
 rintro n _ _ ⟨rfl,m,r,rfl,e⟩
 refine ⟨_,rfl,rfl,_,rfl,?_⟩;refine ite2 (λ c=>?_) (λ c=>?_)
 ·have g:n≠0:=by
   intro z;subst z;simp at c
  have t:(m:Int) % (n:Int)=((m % n:Nat):Int):=(Fh m n).symm;refine ⟨λ j d=>H=d/\j=[some (.int a),some (.int b),some (.int n),some (.int ((m:Int) % (n:Int))),some (.int ((m:Int) % (n:Int)))],?_,?_⟩
  ·rintro _ _ ⟨rfl,rfl⟩
   rw [t];exact ⟨m % n,MB _ (by omega),rfl,n,_,rfl,by rw [Fr.cX,e]⟩
  ·exact ⟨_,rfl,_,rfl,_,_,rfl,rfl,(by show (0:Int) < (n:Int);omega),_,rfl,_,rfl,rfl,rfl⟩
 ·have g:n=0:=by
   by_cases z:n=0
   ·exact z
   ·exfalso
    apply c
    rw [Fq];simp
    omega
  subst g;refine ⟨_,rfl,?_⟩;have e2:(m:Int)=Fr.gcd a b:=by
   unfold Fr.gcd;rw [<- e,Nat.gcd_zero_right]
  rw [e2];exact q
theorem QG (T:Txt K mg ad):CalB P w K mg base true 2 "is_ratio" ["thing"] (iB K):=by
 refine T.VD.calN Tp (λ _ _ _ _ _ _=>by1 λ _=>rfl) (λ vs H Q E h=>?_) (λ f g A outer s H vs Q E d h=>?_)
 ·obtain ⟨_,_,rfl,_⟩:=h;rfl
 obtain ⟨v,b,rfl,hv,q⟩:=h;obtain ⟨a,rfl,e⟩:=hv.fr;refine ⟨_,(Ag (BP (PW.pt (pw_or (CQ (Bk (Br Fv rfl T.isinstance Fb (Ad (pv 0) (Ad (Fo (v:=.ty "tuple") rfl T.tuple Mq rfl) Aa))))) (pw_or1 (BW Ey (Br DX rfl T.len DG (Ad (pv 0) Aa)) Ac)))) (Ak (Av Cu)) BR) (Ag (Ax (i:=1) Tp.nd (Ae Al (pv 0) Ac)) (Ag (Ax (i:=2) Tp.nd (Ae Al (pv 0) Ac)) (Ag (BP (PW.pt (pw_or (CQ (Bk (Ai (iK T) d.m Ah (Ad (pv 1) Aa)))) (pw_or1 (CQ (Bk (Ai (iK T) d.m Ah (Ad (pv 2) Aa))))))) (Ak (Av Cu)) BR) (Ak (Av (Gw (Dr X8 (pv 2) Ac) (Ga (Dr By (Ai (jZ T) d.m Ah (Ad (pv 1) (Ad (pv 2) Aa))) Ac))))))))),?_⟩
 refine ⟨_,rfl,_,_,_,_,rfl,hv,Qt _,_,rfl,iteF ?_⟩;refine ⟨_,rfl,a,_,rfl,.inr e,rfl,_,rfl,iteF ?_⟩;refine ⟨_,rfl,a,_,_,_,rfl,rfl,e,rfl,?_⟩;refine ⟨_,rfl,a,_,_,_,rfl,rfl,e,rfl,?_⟩;refine ⟨_,rfl,_,_,rfl,.int _,_,rfl,iteF ?_⟩;refine ⟨_,rfl,_,_,rfl,.int _,_,rfl,iteF ?_⟩;refine ⟨_,rfl,_,_,rfl,rfl,_,rfl,Bj (decide_eq_true (Ml b)) ⟨_,rfl,_,rfl,_,_,rfl,rfl,?_⟩⟩;show Q (.bl (decide (V.int (Fr.gcd b.num (b.den:Int))=V.int 1))) H;rw [Fq,decide_eq_true (AG2 b)];exact q
theorem O6 (T:Txt K mg ad):CalB P w K mg base true 2 "ratio_of" ["top","bottom"] aO:=by
 refine T.Ym.calN Sx (λ _ _ _ _ _ _=>Bm λ _ _=>rfl) (λ vs H Q E h=>?_) (λ f v A outer s H vs Q E k h=>?_)
 ·obtain ⟨x,y,rfl,_⟩:=h;rfl
 obtain ⟨a,b,rfl,g,bs,q⟩:=h;refine ⟨_,(Ag (BP (PW.pt (pw_or (CQ (Bk (Ai (iK T) k.m Ah (Ad (pv 0) Aa)))) (pw_or (CQ (Bk (Ai (iK T) k.m Ah (Ad (pv 1) Aa)))) (pw_or1 (BW By (pv 1) Ac))))) (Ak DR) BR) (Ag (Ax (i:=2) Sx.nd (Ai (jZ T) k.m Ah (Ad (pv 0) (Ad (pv 1) Aa)))) (Ag (BP (BW GX (pv 1) Ac) (Ak (Ax (i:=2) Sx.nd (Aw GR Ac (pv 2)))) BR) (Ak (Av (Bp (CP (Aw Ox (pv 0) (pv 2)) (CP (Aw Ox (pv 1) (pv 2)) Aa)))))))),?_⟩
 refine ⟨_,rfl,_,_,rfl,.int a,_,rfl,?_⟩;refine iteF ?_;refine ⟨_,rfl,_,_,rfl,.int b,_,rfl,?_⟩;refine iteF ?_;refine ⟨_,rfl,rfl,_,rfl,?_⟩;refine ite2 (λ z=>?_) (λ _=>?_)
 ·exfalso;rw [Fq] at z;exact g (of_decide_eq_true z)
 refine ⟨_,rfl,_,rfl,a,b,rfl,?_⟩;have B:=Fr.jY (a:=a) g;have C:=Fr.cH a b;have r:∀j:Int,j.natAbs=(Fr.gcd a b).natAbs->j.natAbs.log2 < 9000:=λ j t=>by
  have u:j.natAbs < lim:=by omega
  exact kj u
 have d:∀j:Int,j=Fr.sg a b->Z8 a j/\Z8 b j:=λ j t=>by
  subst t;exact ⟨⟨Fr.Jg g,r _ Fr.WP⟩,⟨Fr.Jg g,r _ Fr.WP⟩⟩
 refine ⟨_,rfl,_,_,rfl,rfl,_,rfl,?_⟩;refine ite2 (λ l=>?_) (λ l=>?_)
 ·have n:b < 0:=of_decide_eq_true l;have e:(0:Int) - Fr.gcd a b=Fr.sg a b:=by
   unfold Fr.sg;rw [if_pos n]
  refine ⟨_,rfl,_,_,rfl,rfl,?_⟩;refine ⟨_,rfl,_,rfl,_,_,rfl,rfl,(d _ e).1,_,rfl,_,rfl,_,_,rfl,rfl,(d _ e).2,(by show 2<=Y3;decide),λ p o=>?_⟩
  rw [e];exact q p o
 ·have n:¬ b < 0:=λ z=>l (decide_eq_true z)
  have e:Fr.gcd a b=Fr.sg a b:=by
   unfold Fr.sg;rw [if_neg n]
  refine ⟨_,rfl,_,rfl,_,_,rfl,rfl,(d _ e).1,_,rfl,_,rfl,_,_,rfl,rfl,(d _ e).2,(by show 2<=Y3;decide),λ p o=>?_⟩
  rw [e];exact q p o
theorem JN (T:Txt K mg ad):CalB P w K mg base true 3 "sum_of" ["one","other"] (PR K (JV λ p q=>p+q)):=by
 refine T.W6.calN AP7 (λ _ _ _ _ _ _=>Bm λ _ _=>rfl) (λ vs H Q E h=>?_) (λ f u A outer s H vs Q E g h=>?_)
 ·obtain ⟨_,_,dv,⟨_,_,rfl,_⟩,_⟩:=h;exact dv.len
 obtain ⟨_,_,dv,⟨p,q,rfl,sp,d,rfl⟩,k⟩:=h;obtain ⟨_,_,rfl,l,o⟩:=dv.two;obtain ⟨a,rfl,i⟩:=l.fr;obtain ⟨b,rfl,j⟩:=o.fr;refine ⟨_,(Ak (Av (Ai (O6 T) g.m Ah (CP (Aw Cp (Aw Dj (Ae Al (pv 0) Ac) (Ae Al (pv 1) Ac)) (Aw Dj (Ae Al (pv 1) Ac) (Ae Al (pv 0) Ac))) (CP (Aw Dj (Ae Al (pv 0) Ac) (Ae Al (pv 1) Ac)) Aa))))),?_⟩
 refine ⟨_,rfl,a,_,_,_,rfl,rfl,i,rfl,_,rfl,b,_,_,_,rfl,rfl,j,rfl,_,_,rfl,rfl,Dt sp.n d.dn,?_⟩;refine ⟨_,rfl,b,_,_,_,rfl,rfl,j,rfl,_,rfl,a,_,_,_,rfl,rfl,i,rfl,_,_,rfl,rfl,Dt d.n sp.dn,_,_,rfl,rfl,?_⟩;refine ⟨_,rfl,a,_,_,_,rfl,rfl,i,rfl,_,rfl,b,_,_,_,rfl,rfl,j,rfl,_,_,rfl,rfl,Dt sp.dn d.dn,?_⟩;refine ⟨_,_,rfl,Ib p q,K8 sp.dn d.dn,λ r g=>k _ _ (Am g _) ?_⟩
 have e:=I9 (K:=K) (H:=H) (t:=p.num * (q.den:Int)+q.num * (p.den:Int)) (b:=(p.den:Int) * (q.den:Int)) (p:=r) (Ib p q);rw [Fr.Z6] at e;exact e
theorem Ho (T:Txt K mg ad):CalB P w K mg base true 3 "less_by" ["one","other"] (PR K (JV λ p q=>p - q)):=by
 refine T.S7.calN yR (λ _ _ _ _ _ _=>Bm λ _ _=>rfl) (λ vs H Q E h=>?_) (λ f u A outer s H vs Q E g h=>?_)
 ·obtain ⟨_,_,dv,⟨_,_,rfl,_⟩,_⟩:=h;exact dv.len
 obtain ⟨_,_,dv,⟨p,q,rfl,sp,d,rfl⟩,k⟩:=h;obtain ⟨_,_,rfl,l,o⟩:=dv.two;obtain ⟨a,rfl,i⟩:=l.fr;obtain ⟨b,rfl,j⟩:=o.fr;refine ⟨_,(Ak (Av (Ai (O6 T) g.m Ah (CP (Aw GR (Aw Dj (Ae Al (pv 0) Ac) (Ae Al (pv 1) Ac)) (Aw Dj (Ae Al (pv 1) Ac) (Ae Al (pv 0) Ac))) (CP (Aw Dj (Ae Al (pv 0) Ac) (Ae Al (pv 1) Ac)) Aa))))),?_⟩
 refine ⟨_,rfl,a,_,_,_,rfl,rfl,i,rfl,_,rfl,b,_,_,_,rfl,rfl,j,rfl,_,_,rfl,rfl,Dt sp.n d.dn,?_⟩;refine ⟨_,rfl,b,_,_,_,rfl,rfl,j,rfl,_,rfl,a,_,_,_,rfl,rfl,i,rfl,_,_,rfl,rfl,Dt d.n sp.dn,_,_,rfl,rfl,?_⟩;refine ⟨_,rfl,a,_,_,_,rfl,rfl,i,rfl,_,rfl,b,_,_,_,rfl,rfl,j,rfl,_,_,rfl,rfl,Dt sp.dn d.dn,?_⟩;refine ⟨_,_,rfl,Ib p q,K8 sp.dn d.dn,λ r g=>k _ _ (Am g _) ?_⟩
 have e:=I9 (K:=K) (H:=H) (t:=p.num * (q.den:Int) - q.num * (p.den:Int)) (b:=(p.den:Int) * (q.den:Int)) (p:=r) (Ib p q);rw [Fr.gM] at e;exact e
theorem HF (T:Txt K mg ad):CalB P w K mg base true 3 "product_of" ["one","other"] (PR K (JV λ p q=>p * q)):=by
 refine T.Wd.calN ud (λ _ _ _ _ _ _=>Bm λ _ _=>rfl) (λ vs H Q E h=>?_) (λ f u A outer s H vs Q E d h=>?_)
 ·obtain ⟨_,_,dv,⟨_,_,rfl,_⟩,_⟩:=h;exact dv.len
 obtain ⟨_,_,dv,⟨p,q,rfl,sp,g,rfl⟩,k⟩:=h;obtain ⟨_,_,rfl,l,o⟩:=dv.two;obtain ⟨a,rfl,i⟩:=l.fr;obtain ⟨b,rfl,j⟩:=o.fr;refine ⟨_,(Ak (Av (Ai (O6 T) d.m Ah (CP (Aw Dj (Ae Al (pv 0) Ac) (Ae Al (pv 1) Ac)) (CP (Aw Dj (Ae Al (pv 0) Ac) (Ae Al (pv 1) Ac)) Aa))))),?_⟩
 refine ⟨_,rfl,a,_,_,_,rfl,rfl,i,rfl,_,rfl,b,_,_,_,rfl,rfl,j,rfl,_,_,rfl,rfl,Dt sp.n g.n,?_⟩;refine ⟨_,rfl,a,_,_,_,rfl,rfl,i,rfl,_,rfl,b,_,_,_,rfl,rfl,j,rfl,_,_,rfl,rfl,Dt sp.dn g.dn,?_⟩;refine ⟨_,_,rfl,Ib p q,K8 sp.dn g.dn,λ r d=>k _ _ (Am d _) ?_⟩
 have e:=I9 (K:=K) (H:=H) (t:=p.num * q.num) (b:=(p.den:Int) * (q.den:Int)) (p:=r) (Ib p q);rw [Fr.RK] at e;exact e
theorem Kp (T:Txt K mg ad):CalB P w K mg base true 3 "quotient_of" ["one","other"] (PR K jd):=by
 refine T.V0.calN AK6 (λ _ _ _ _ _ _=>Bm λ _ _=>rfl) (λ vs H Q E h=>?_) (λ f y A outer s H vs Q E d h=>?_)
 ·obtain ⟨_,_,dv,⟨_,_,rfl,_⟩,_⟩:=h;exact dv.len
 obtain ⟨_,_,dv,⟨p,q,rfl,sp,g,o,rfl⟩,k⟩:=h;obtain ⟨_,_,rfl,u,v⟩:=dv.two;obtain ⟨a,rfl,i⟩:=u.fr;obtain ⟨b,rfl,j⟩:=v.fr;refine ⟨_,(Ak (Av (Ai (O6 T) d.m Ah (CP (Aw Dj (Ae Al (pv 0) Ac) (Ae Al (pv 1) Ac)) (CP (Aw Dj (Ae Al (pv 0) Ac) (Ae Al (pv 1) Ac)) Aa))))),?_⟩
 refine ⟨_,rfl,a,_,_,_,rfl,rfl,i,rfl,_,rfl,b,_,_,_,rfl,rfl,j,rfl,_,_,rfl,rfl,Dt sp.n g.dn,?_⟩;refine ⟨_,rfl,a,_,_,_,rfl,rfl,i,rfl,_,rfl,b,_,_,_,rfl,rfl,j,rfl,_,_,rfl,rfl,Dt sp.dn g.n,?_⟩;have x:q.num≠0:=λ e=>o (Fr.qZ q |>.mp e)
 have l:(p.den:Int) * q.num≠0:=yl (Xg p) x;refine ⟨_,_,rfl,l,K8 sp.dn g.n,λ r d=>k _ _ (Am d _) ?_⟩
 have e:=I9 (K:=K) (H:=H) (t:=p.num * (q.den:Int)) (b:=(p.den:Int) * q.num) (p:=r) l;rw [Fr.nF] at e;exact e
theorem Hv (T:Txt K mg ad):CalB P w K mg base true 1 "is_less" ["one","other"] (PR K Vo):=by
 refine T.YT.calN zp (λ _ _ _ _ _ _=>Bm λ _ _=>rfl) (λ vs H Q E h=>?_) (λ f m A outer s H vs Q E o h=>?_)
 ·obtain ⟨_,_,dv,⟨_,_,rfl,_⟩,_⟩:=h;exact dv.len
 obtain ⟨_,_,dv,⟨p,q,rfl,sp,d,rfl⟩,k⟩:=h;obtain ⟨_,_,rfl,j,l⟩:=dv.two;obtain ⟨a,rfl,g⟩:=j.fr;obtain ⟨b,rfl,i⟩:=l.fr;refine ⟨_,(Ak (Av (Dr GX (Aw Dj (Ae Al (pv 0) Ac) (Ae Al (pv 1) Ac)) (Aw Dj (Ae Al (pv 1) Ac) (Ae Al (pv 0) Ac))))),?_⟩;refine ⟨_,rfl,a,_,_,_,rfl,rfl,g,rfl,_,rfl,b,_,_,_,rfl,rfl,i,rfl,_,_,rfl,rfl,Dt sp.n d.dn,?_⟩;refine ⟨_,rfl,b,_,_,_,rfl,rfl,i,rfl,_,rfl,a,_,_,_,rfl,rfl,g,rfl,_,_,rfl,rfl,Dt d.n sp.dn,_,_,rfl,rfl,?_⟩;have e:decide (p.num * (q.den:Int) < q.num * (p.den:Int))=decide (p < q):=decide_eq_decide.mpr (Fr.mD p q);show Q (.bl (decide (p.num * (q.den:Int) < q.num * (p.den:Int)))) H;rw [e];exact k _ _ (Same.refl _) (.bl _)
end
end K74
namespace K74
open PySem L2 Lib Fr Op
seal PE PT PW PA PS PSs PG PGs PI PO CK
section
variable {P:Yf}{w:World}{K:FrG}{mg:Str->Option Value}{base:Heap}{ad:Adr}{c:Bool}
theorem my (T:Txt K mg ad):MkC P w K mg base 1 "Gap" ad.Gap ["self","length"] (Tr ad.Gap "length"):=by
 refine T.ex.i_Gap.mkc Ag3 (λ _ _ _ _ _ _=>Bm λ _ _=>rfl) (λ vs H Q E h=>?_) (λ f e A outer s H vs Q E g h=>?_)
 ·obtain ⟨a,b,x,rfl,_⟩:=h;rfl
 obtain ⟨a,b,x,rfl,d,q⟩:=h;refine ⟨_,(Ak (J0 (pv 0) (pv 1))),?_⟩;exact ⟨_,rfl,_,rfl,a,ad.Gap,b,[],rfl,d,T.ex.l_Gap,T.ex.n_Gap_length,by decide,q⟩
theorem Aa2 (T:Txt K mg ad):MkC P w K mg base 1 "Glass" ad.Glass ["self","strength"] (Tr ad.Glass "strength"):=by
 refine T.ex.i_Glass.mkc AU1 (λ _ _ _ _ _ _=>Bm λ _ _=>rfl) (λ vs H Q E h=>?_) (λ f e A outer s H vs Q E g h=>?_)
 ·obtain ⟨a,b,x,rfl,_⟩:=h;rfl
 obtain ⟨a,b,x,rfl,d,q⟩:=h;refine ⟨_,(Ak (J0 (pv 0) (pv 1))),?_⟩;exact ⟨_,rfl,_,rfl,a,ad.Glass,b,[],rfl,d,T.ex.l_Glass,T.ex.n_Glass_strength,by decide,q⟩
theorem zB (T:Txt K mg ad):MkC P w K mg base 1 "Stop" ad.Stop ["self","low","high"] (q9 ad.Stop "low" "high"):=by
 refine T.ex.i_Stop.mkc zE (λ _ _ _ _ _ _=>JM λ _ _ _=>rfl) (λ vs H Q E h=>?_) (λ f e A outer s H vs Q E g h=>?_)
 ·obtain ⟨a,b,x,y,rfl,_⟩:=h;rfl
 obtain ⟨a,b,x,y,rfl,d,q⟩:=h;refine ⟨_,(Ag (J0 (pv 0) (pv 1)) (Ak (J0 (pv 0) (pv 2)))),?_⟩;refine ⟨_,rfl,_,rfl,a,ad.Stop,b,[],rfl,d,T.ex.l_Stop,T.ex.n_Stop_low,by decide,?_⟩
 refine ⟨_,rfl,_,rfl,a,ad.Stop,b,_,rfl,Ar,T.ex.l_Stop,T.ex.n_Stop_high,(by show 1 < 1000;decide),?_⟩
 rw [GJ];exact q
theorem Ag9 (T:Txt K mg ad):MC P w K mg base 4 ad.Gap "lets" ["self","ray"] Ut:=by
 refine T.ex.q_Gap_lets.mc ph (λ _ _ _ _ _ _=>Bm λ _ _=>rfl) (λ vs H Q E h=>?_) (λ f a A outer s H vs Q E b h=>?_)
 ·obtain ⟨x,y,rfl,_⟩:=h;rfl
 obtain ⟨x,y,rfl,q⟩:=h;exact ⟨_,(Ak (Av Cu)),q⟩
theorem Ac1 (T:Txt K mg ad):MC P w K mg base 4 ad.Glass "lets" ["self","ray"] Ut:=by
 refine T.ex.q_Glass_lets.mc ph (λ _ _ _ _ _ _=>Bm λ _ _=>rfl) (λ vs H Q E h=>?_) (λ f a A outer s H vs Q E b h=>?_)
 ·obtain ⟨x,y,rfl,_⟩:=h;rfl
 obtain ⟨x,y,rfl,q⟩:=h;exact ⟨_,(Ak (Av Cu)),q⟩
theorem AS0 (T:Txt K mg ad):MC P w K mg base 4 ad.Stop "lets" ["self","ray"] (Qs K ad.Gap ad.Glass ad.Stop (λ p r=>.bool (p.lets r)) isStop):=by
 refine T.ex.q_Stop_lets.mc Af6 (λ _ _ _ _ _ _=>Bm λ _ _=>rfl) (λ vs H Q E h=>?_) (λ f D A outer s H vs Q E j h=>?_)
 ·obtain ⟨_,_,_,_,_,_,rfl,_⟩:=h;rfl
 obtain ⟨o,y,p,r,n,m,rfl,l,u,x,rb,pb,b,k⟩:=h;cases u with
 | gap _ _=>exact l.elim
 | glass _ _=>exact l.elim
 | @stop a G I J lo hi q z B=>
  obtain ⟨t,L,M,rfl,g,i,F⟩:=x.t2;refine ⟨_,(Ak (Av (Gw (Jq (Ai (Hv T) j.m Ah (Ao (Ae Al (pv 1) Ac) (DW (Ft (pv 0)) Aa)))) (Ga (Jq (Ai (Hv T) j.m Ah (DW (Ft (pv 0)) (Ao (Ae Al (pv 1) Ac) Aa)))))))),?_⟩
  refine ⟨_,rfl,t,_,_,_,rfl,rfl,g,rfl,_,rfl,a,_,_,_,_,rfl,q,T.ex.l_Stop,T.ex.n_Stop_low,rfl,?_⟩;refine ⟨_,_,.cons i (.cons z .nil),⟨_,_,rfl,rb.y.sm (KR b),pb.1.sm (Om b),rfl⟩,λ v N d hv=>?_⟩
  obtain rfl:=hv.bl_of;refine ⟨_,rfl,_,rfl,?_⟩;cases c1:decide (r.1 < lo) with
  | true=>
   refine iteF ?_;refine k _ _ d ?_;have e:(Pc.stop lo hi).lets r=false:=by show (!decide (r.1 < lo) && _)=false;rw [c1];rfl
   show DV K _ _ (.bool ((Pc.stop lo hi).lets r));rw [e];exact .bl _
  | false=>
   refine iteT ?_;refine ⟨_,rfl,a,_,_,_,_,rfl,d _ _ q,T.ex.l_Stop,T.ex.n_Stop_high,rfl,_,rfl,t,_,_,_,rfl,rfl,g.keep d,rfl,?_⟩;refine ⟨_,_,.cons (B.keep d) (.cons (i.keep d) .nil),⟨_,_,rfl,pb.2.sm (Om b),rb.y.sm (KR b),rfl⟩,λ v O C hv=>?_⟩
   obtain rfl:=hv.bl_of;refine ⟨_,rfl,?_⟩;refine k _ _ (d.trans C) ?_;have e:(Pc.stop lo hi).lets r=!decide (hi < r.1):=by show (!decide (r.1 < lo) && _)=_;rw [c1];rfl
   show DV K _ _ (.bool ((Pc.stop lo hi).lets r));rw [e];exact .bl _
theorem ux (T:Txt K mg ad):MC P w K mg base 4 ad.Stop "bent" ["self","ray"] iw:=by
 refine T.ex.q_Stop_bent.mc yx (λ _ _ _ _ _ _=>Bm λ _ _=>rfl) (λ vs H Q E h=>?_) (λ f a A outer s H vs Q E b h=>?_)
 ·obtain ⟨x,y,rfl,_⟩:=h;rfl
 obtain ⟨x,y,rfl,q⟩:=h;exact ⟨_,(Ak (Av (pv 1))),_,rfl,q⟩
theorem X5 (T:Txt K mg ad):MC P w K mg base 4 ad.Gap "bent" ["self","ray"] (Qs K ad.Gap ad.Glass ad.Stop (λ p r=>BX (p.bent r)) yQ):=by
 refine T.ex.q_Gap_bent.mc AR4 (λ _ _ _ _ _ _=>Bm λ _ _=>rfl) (λ vs H Q E h=>?_) (λ f J A outer s H vs Q E q h=>?_)
 ·obtain ⟨_,_,_,_,_,_,rfl,_⟩:=h;rfl
 obtain ⟨o,y,p,r,n,m,rfl,x,D,F,rb,pb,b,k⟩:=h;cases D with
 | glass _ _=>exact x.elim
 | stop _ _ _=>exact x.elim
 | @gap a L M d G I=>
  have pb:Bd m d:=pb;obtain ⟨j,N,O,rfl,e,z,i⟩:=F.t2;refine ⟨_,(Ak (Av (Bp (Bc (Ai (JN T) q.m Ah (Ao (Ae Al (pv 1) Ac) (Bc (Ai (HF T) q.m Ah (DW (Ft (pv 0)) (Ao (Ae Al (pv 1) Ac) Aa))) Aa))) (Ao (Ae Al (pv 1) Ac) Aa))))),?_⟩
  refine ⟨_,rfl,j,_,_,_,rfl,rfl,e,rfl,?_⟩;refine ⟨_,rfl,a,_,_,_,_,rfl,G,T.ex.l_Gap,T.ex.n_Gap_length,rfl,_,rfl,j,_,_,_,rfl,rfl,e,rfl,?_⟩;refine ⟨_,_,.cons I (.cons i .nil),⟨_,_,rfl,pb.sm (Om b),rb.u.sm (KR b),rfl⟩,λ v R g hv=>?_⟩
  refine ⟨_,_,.cons (z.keep g) (.cons hv .nil),⟨_,_,rfl,rb.y.sm (KR b),(pb.mul rb.u).sm (fW b),rfl⟩,λ S U l B=>?_⟩
  refine ⟨_,rfl,j,_,_,_,rfl,rfl,e.keep (g.trans l),rfl,(by show 2<=Y3;decide),λ t C=>?_⟩
  exact k _ _ ((g.trans l).trans (Am C _)) (DV.upd2 C B (i.keep (g.trans l)))
theorem yc (T:Txt K mg ad):MC P w K mg base 4 ad.Glass "bent" ["self","ray"] (Qs K ad.Gap ad.Glass ad.Stop (λ p r=>BX (p.bent r)) rZ):=by
 refine T.ex.q_Glass_bent.mc AI3 (λ _ _ _ _ _ _=>Bm λ _ _=>rfl) (λ vs H Q E h=>?_) (λ f J A outer s H vs Q E l h=>?_)
 ·obtain ⟨_,_,_,_,_,_,rfl,_⟩:=h;rfl
 obtain ⟨o,y,p,r,n,m,rfl,q,D,F,rb,pb,b,k⟩:=h;cases D with
 | gap _ _=>exact q.elim
 | stop _ _ _=>exact q.elim
 | @glass a L M d G I=>
  have pb:Bd m d:=pb;obtain ⟨i,N,O,rfl,e,g,x⟩:=F.t2;refine ⟨_,(Ak (Av (Bp (Ao (Ae Al (pv 1) Ac) (Bc (Ai (Ho T) l.m Ah (Ao (Ae Al (pv 1) Ac) (Bc (Ai (HF T) l.m Ah (DW (Ft (pv 0)) (Ao (Ae Al (pv 1) Ac) Aa))) Aa))) Aa))))),?_⟩
  refine ⟨_,rfl,i,_,_,_,rfl,rfl,e,rfl,?_⟩;refine ⟨_,rfl,i,_,_,_,rfl,rfl,e,rfl,?_⟩;refine ⟨_,rfl,a,_,_,_,_,rfl,G,T.ex.l_Glass,T.ex.n_Glass_strength,rfl,_,rfl,i,_,_,_,rfl,rfl,e,rfl,?_⟩;refine ⟨_,_,.cons I (.cons g .nil),⟨_,_,rfl,pb.sm (Om b),rb.y.sm (KR b),rfl⟩,λ v R j hv=>?_⟩
  refine ⟨_,_,.cons (x.keep j) (.cons hv .nil),⟨_,_,rfl,rb.u.sm (KR b),(pb.mul rb.y).sm (fW b),rfl⟩,λ S U z B=>?_⟩
  refine ⟨(by show 2<=Y3;decide),λ t C=>?_⟩
  exact k _ _ ((j.trans z).trans (Am C _)) (DV.upd2 C (g.keep (j.trans z)) B)
theorem AX8 (T:Txt K mg ad){H:Hp}{v y:V}{p:Pc}{r:Ab}{n m:Nat}(h:ObAt K ad.Gap ad.Glass ad.Stop H v p)(g:DV K H y (BX r))(rb:RB n r)(pb:p.bd m)(e:n+m<=3900):
  ∃(a C i:Addr) (fs:List (Str×V)) (ps:List Str) (sp:Sp),v=.ref a/\H a=some (.ins C i fs)/\fs.lookup ("lets":Str)=none/\MC P w K mg base 4 C "lets" ps sp/\∀Q:VK,(∀d,Same H d->Q (.bl (p.lets r)) d)->sp [v,y] H Q E0:=by
 cases id h with
 | gap b f=>exact ⟨_,_,_,_,_,_,rfl,b,rfl,Ag9 T,λ Q k=>⟨_,_,rfl,k _ (Same.refl _)⟩⟩
 | glass b f=>exact ⟨_,_,_,_,_,_,rfl,b,rfl,Ac1 T,λ Q k=>⟨_,_,rfl,k _ (Same.refl _)⟩⟩
 | stop b f j=>exact ⟨_,_,_,_,_,_,rfl,b,rfl,AS0 T,λ Q k=>⟨_,_,.stop _ _,r,n,m,rfl,trivial,h,g,rb,pb,e,λ v d s' hv=>by obtain rfl:=hv.bl_of;exact k _ s'⟩⟩
theorem Hf (T:Txt K mg ad){H:Hp}{v y:V}{p:Pc}{r:Ab}{n m:Nat}(h:ObAt K ad.Gap ad.Glass ad.Stop H v p)(e:DV K H y (BX r))(rb:RB n r)(pb:p.bd m)(d:n+m<=3900):
  ∃(a C i:Addr) (fs:List (Str×V)) (ps:List Str) (sp:Sp),v=.ref a/\H a=some (.ins C i fs)/\fs.lookup ("bent":Str)=none/\MC P w K mg base 4 C "bent" ps sp/\∀Q:VK,(∀v f,Same H f->DV K f v (BX (p.bent r))->Q v f)->sp [v,y] H Q E0:=by
 cases id h with
 | gap b g=>exact ⟨_,_,_,_,_,_,rfl,b,rfl,X5 T,λ Q k=>⟨_,_,.gap _,r,n,m,rfl,trivial,h,e,rb,pb,d,k⟩⟩
 | glass b g=>exact ⟨_,_,_,_,_,_,rfl,b,rfl,yc T,λ Q k=>⟨_,_,.glass _,r,n,m,rfl,trivial,h,e,rb,pb,d,k⟩⟩
 | stop b g j=>exact ⟨_,_,_,_,_,_,rfl,b,rfl,ux T,λ Q k=>⟨_,_,rfl,k _ _ (Same.refl _) e⟩⟩
theorem RM (T:Txt K mg ad):CalB P w K mg base true 3 "piece_of" ["told"] (fY K ad.Gap ad.Glass ad.Stop):=by
 refine T.Z4.calN AQ6 (λ _ _ _ _ _ _=>by1 λ _=>rfl) (λ vs H Q E h=>?_) (λ f C A outer s H vs Q E u h=>?_)
 ·obtain ⟨v,p,rfl,_⟩:=h;rfl
 obtain ⟨v,p,rfl,hv,q⟩:=h;refine ⟨_,(Ag (BP (BW By (Ae Al (pv 0) Ac) (Bl (v:=.str "gap") rfl T.ex.m_GAP ⟨_,rfl⟩)) (Ak (Av (Jt (my T) u.m (Ao (Ae Al (pv 0) Ac) Aa)))) BR) (Ag (BP (BW By (Ae Al (pv 0) Ac) (Bl (v:=.str "glass") rfl T.ex.m_GLASS ⟨_,rfl⟩)) (Ak (Av (Jt (Aa2 T) u.m (Ao (Ae Al (pv 0) Ac) Aa)))) BR) (Ak (Av (Jt (zB T) u.m (Ao (Ae Al (pv 0) Ac) (Ao (Ae Al (pv 0) Ac) Aa))))))),?_⟩
 cases p with
 | gap d=>
  obtain ⟨a,x,y,rfl,e,l,n⟩:=DV.t2 hv;obtain rfl:=l.str_of;refine ⟨_,rfl,a,_,_,_,rfl,rfl,e,rfl,rfl,_,rfl,Bj (by decide) ?_⟩
  refine ⟨_,rfl,a,_,_,_,rfl,rfl,e,rfl,λ o b r i j=>⟨o,b,y,rfl,Ar,rfl,?_⟩⟩
  have t:Same H (upd H b (.own o)):=Am i _;have k:upd H b (.own o) o=none:=by rw [BK (UX j)];exact r
  have g:=t.trans (Am k (.ins ad.Gap b [("length",y)]));rw [GJ];exact q _ _ g (.gap Ar (n.keep g))
 | glass d=>
  obtain ⟨a,x,y,rfl,e,l,n⟩:=DV.t2 hv;obtain rfl:=l.str_of;refine ⟨_,rfl,a,_,_,_,rfl,rfl,e,rfl,rfl,_,rfl,BL (by decide) ?_⟩
  refine ⟨_,rfl,a,_,_,_,rfl,rfl,e,rfl,rfl,_,rfl,Bj (by decide) ?_⟩
  refine ⟨_,rfl,a,_,_,_,rfl,rfl,e,rfl,λ o b r i j=>⟨o,b,y,rfl,Ar,rfl,?_⟩⟩
  have t:Same H (upd H b (.own o)):=Am i _;have k:upd H b (.own o) o=none:=by rw [BK (UX j)];exact r
  have g:=t.trans (Am k (.ins ad.Glass b [("strength",y)]));rw [GJ];exact q _ _ g (.glass Ar (n.keep g))
 | stop lo hi=>
  obtain ⟨a,x,y,z,rfl,e,l,n,B⟩:=DV.t3 hv;obtain rfl:=l.str_of;refine ⟨_,rfl,a,_,_,_,rfl,rfl,e,rfl,rfl,_,rfl,BL (by decide) ?_⟩
  refine ⟨_,rfl,a,_,_,_,rfl,rfl,e,rfl,rfl,_,rfl,BL (by decide) ?_⟩
  refine ⟨_,rfl,a,_,_,_,rfl,rfl,e,rfl,_,rfl,a,_,_,_,rfl,rfl,e,rfl,λ o b r i j=>⟨o,b,y,z,rfl,Ar,rfl,?_⟩⟩
  have t:Same H (upd H b (.own o)):=Am i _;have k:upd H b (.own o) o=none:=by rw [BK (UX j)];exact r
  have g:=t.trans (Am k (.ins ad.Stop b [("low",y),("high",z)]));rw [GJ];exact q _ _ g (.stop Ar (n.keep g) (B.keep g))
theorem oY (T:Txt K mg ad):CalB P w K mg base true 3 "is_piece" ["thing"] (aq K):=by
 refine T.Um.calN xY (λ _ _ _ _ _ _=>by1 λ _=>rfl) (λ vs H Q E h=>?_) (λ f B A outer s H vs Q E C h=>?_)
 ·obtain ⟨_,_,_,rfl,_⟩:=h;rfl
 obtain ⟨v,a9,m,rfl,hv,ok,pb,D,q⟩:=h;obtain ⟨z,es,U,sh⟩:=AP0 ok pb;rw [U] at hv;obtain ⟨a,xs,rfl,b,F⟩:=hv.tup_of;obtain ⟨b0,d,rfl,G,k⟩:=F.cons_of;obtain rfl:=G.str_of;have hl:=k.len;rw [Y2] at hl;have a8:=sh.len;obtain ⟨b1,W,X⟩:∃t,PSs (Er true P w K mg base ["thing"] "is_piece" (defScope LR) f B A outer s H E).nox ((defBody LR).drop 2) t/\∀(S:Ends) (u:Hp),Same H u->(∀j,Same H j->S.rt (.bl true) j)->t S [some (.ref a)] u:=by
  refine ⟨_,(Ag (BP (BW By (Ae Al (pv 0) Ac) (Bl (v:=.str "stop") rfl T.ex.m_STOP ⟨_,rfl⟩)) (Ak (Av (Gw (Dr By (Br DX rfl T.len DG (Ad (pv 0) Aa)) Ac) (Ga (Jq (Ai (Hv T) C.m Ah (Ao (Ae Al (pv 0) Ac) (Ao (Ae Al (pv 0) Ac) Aa)))))))) BR) (Ak (Av (Gw (Dr iJ (Ae Al (pv 0) Ac) (Bp (Ad (Bl (v:=.str "gap") rfl T.ex.m_GAP ⟨_,rfl⟩) (Ad (Bl (v:=.str "glass") rfl T.ex.m_GLASS ⟨_,rfl⟩) Aa)))) (Ga (Dr By (Br DX rfl T.len DG (Ad (pv 0) Aa)) Ac)))))),?_⟩
  intro S u t2 q;refine ⟨_,rfl,a,_,_,_,rfl,rfl,b.keep t2,Dv,rfl,_,rfl,?_⟩;rw [DK];cases sh with
  | stop I J L=>
   obtain ⟨b2,b3,rfl,Y,Z⟩:=k.two;refine Bj (by decide) ?_
   refine ⟨_,rfl,a,_,rfl,.inr (b.keep t2),rfl,_,rfl,iteT ?_⟩;refine ⟨_,rfl,a,_,_,_,rfl,rfl,b.keep t2,rfl,_,rfl,a,_,_,_,rfl,rfl,b.keep t2,rfl,?_⟩;refine ⟨_,_,.cons (Z.keep t2) (.cons (Y.keep t2) .nil),⟨_,_,rfl,L.sm D,J.sm D,rfl⟩,λ v b4 a0 hv=>?_⟩
   obtain rfl:=hv.bl_of;refine ⟨_,rfl,?_⟩;rw [decide_eq_false I];exact q _ (t2.trans a0)
  | one e1 e2=>
   refine BL e1 ?_;refine ⟨_,rfl,a,_,_,_,rfl,rfl,b.keep t2,Dv,(by show 2<=Y3;decide),λ a1 M=>?_⟩
   have t3:=t2.trans (Am M (.tup [.str "gap",.str "glass"]));refine ⟨a1,_,rfl,.inr (SqT.of Ar),rfl,rfl,_,rfl,Bj ((AZ9 z).trans e2) ?_⟩;refine ⟨_,rfl,a,_,rfl,.inr (b.keep t3),rfl,?_⟩;have N:d.length=1:=hl;show S.rt (.bl (decide (V.int ((d.length+1:Nat):Int)=V.int 2))) _;rw [N];exact q _ t3
 refine ⟨_,(Ag (BP (PW.pt (pw_or (CQ (Bk (Br Fv rfl T.isinstance Fb (Ad (pv 0) (Ad (Fo (v:=.ty "tuple") rfl T.tuple Mq rfl) Aa))))) (pw_or (BW GX (Br DX rfl T.len DG (Ad (pv 0) Aa)) Ac) (pw_or1 (CQ (Bk (Br Fv rfl T.isinstance Fb (Ao (Ae Al (pv 0) Ac) (Ad (Fo (v:=.ty "str") rfl T.str Hi rfl) Aa))))))))) (Ak (Av Cu)) BR) (Ag (BP (CQ (Bk (Br (P0 rfl) rfl T.all Nr (DW (Fz ["part"] [none] rfl (Qx (Em WN (pv 0) (Dy Ac) Fj)) (λ _ _ _ _ _=>(Bq (i:=0) (show UB [("part":Str)] by decide))) (λ _ _ _ _ _=>Fd) (λ _ _ _ _ _=>(Ai (QG T) C.m Ah (Ad (pv 0) Aa))) (Fw (by decide) (by decide)) (by decide) rfl (by decide) rfl (G3 rfl)) Aa)))) (Ak (Av Cu)) BR) W)),?_⟩
 refine ⟨_,rfl,_,_,_,_,rfl,hv,Qt _,_,rfl,iteF ?_⟩;refine ⟨_,rfl,a,_,rfl,.inr b,_,_,rfl,rfl,_,rfl,BL (decide_eq_false (by simp only [X9];omega)) ?_⟩
 refine ⟨_,rfl,a,_,_,_,rfl,rfl,b,Dv,_,_,_,_,rfl,G,KY _,_,rfl,iteF ?_⟩;refine ⟨_,rfl,_,rfl,a,_,rfl,b,(λ e=>by rw [Q9] at e;simp only [X9] at e;omega),λ p a2=>⟨p,rfl,⟨_,SqT.of Ar⟩,?_⟩⟩
 rw [Ua];have y:=Am a2 (.tup ((V.str z::d).drop 1));have g:=k.keep y;have r:upd H p (.tup ((V.str z::d).drop 1)) p=some (.tup d):=Ar;generalize upd H p (.tup ((V.str z::d).drop 1))=a3 at y g r ⊢;refine R1 (K:=K) (a:=p) (xs:=d) (λ i l o j=>∃c0,l=[c0]/\o=XE i (V.bl true)/\Same a3 j) ⟨_,rfl,rfl,Same.refl _⟩ ?_ ?_ ?_
 ·rintro i l o j hi ⟨c0,rfl,rfl,s'⟩
  refine ⟨?_,SqT.of (s' _ _ r)⟩;have b5:=small1000 (n:=1000) (by decide)
  rw [wq];omega
 ·rintro i x l o j hi ⟨c0,rfl,rfl,s'⟩
  obtain ⟨b6,O,a4⟩:=g.get hi;obtain ⟨a5,rfl⟩:=qm O;exact ⟨_,rfl,_,a5,rfl,a4.keep s',nx (CT hi) ⟨_,rfl,NI.symm,s'⟩⟩
 ·rintro l o j a6 ⟨c0,rfl,rfl,s'⟩ R
  have a7:=Am R (.lst (XE d.length (V.bl true)));refine ⟨a6,XE d.length true,rfl,SqL.of (by rw [tE];exact Ar),_,rfl,?_⟩
  rw [AY2];exact iteF (X _ _ (y.trans (s'.trans a7)) q)
theorem O3 (T:Txt K mg ad):CalB P w K mg base true 4 "look_at" ["bench"] (aK K):=by
 refine T.aA.calN Tg (λ _ _ _ _ _ _=>by1 λ _=>rfl) (λ vs H Q E h=>?_) (λ f F A outer s H vs Q E u h=>?_)
 ·obtain ⟨_,_,_,rfl,_⟩:=h;rfl
 obtain ⟨v,ps,m,rfl,hv,y,z,q⟩:=h;obtain ⟨a,xs,rfl,o,l⟩:=DV.lst_of hv;have hl:xs.length=ps.length:=by have:=l.len;rw [Y2] at this;exact this
 have G:=y.len;refine ⟨_,(Ag (BP (PW.pt (pw_or (CQ (Bk (Br Fv rfl T.isinstance Fb (Ad (pv 0) (Ad (Fo (v:=.ty "list") rfl T.list xX rfl) Aa))))) (pw_or1 (BW Hq (Br DX rfl T.len DG (Ad (pv 0) Aa)) (Bl (v:=.int 60) rfl T.ex.m_MOST_PIECES ⟨_,rfl⟩))))) (Ak DR) BR) (Ak (Df YI rfl (N8 rfl T.enumerate (Ad (pv 0) Aa)) (K4 (n:=2) rfl (Du (Bq (i:=1) Tg.nd) (Du (Bq (i:=2) Tg.nd) Gp))) (Ak (BP (CQ (Bk (Ai (oY T) u.m Ah (Ad (pv 2) Aa)))) (Ak DR) BR))))),?_⟩
 refine ⟨_,rfl,_,_,_,_,rfl,hv,xQ _,_,rfl,?_⟩;refine iteF ?_;refine ⟨_,rfl,a,_,rfl,.inl o,_,_,rfl,rfl,_,rfl,BL (decide_eq_false (by omega)) ?_⟩
 refine ⟨_,rfl,a,rfl,⟨_,o⟩,?_⟩;refine Le (K:=K) (a:=a) (xs:=xs) (λ i g j=>∃c1 k,g=[some (.ref a),c1,k]/\Same H j) ⟨_,_,rfl,Same.refl _⟩ ?_ ?_ ?_
 ·rintro i g j hi ⟨c1,k,rfl,b⟩
  exact o.keep b
 ·rintro i x g j p hi ⟨c1,k,rfl,b⟩ B
  obtain ⟨d,hd,C⟩:=l.get hi;obtain ⟨I,r,rfl⟩:=JD hd;have e:=ZB r;have t:=b.trans (Am B (.tup [.int i,x]));refine ⟨p,_,rfl,SqT.of Ar,rfl,_,_,rfl,_,_,rfl,rfl,?_⟩;exact ⟨_,rfl,_,_,_,rfl,C.keep t,y.ok _ e,y.bd _ e,z,λ J D=>⟨_,rfl,iteF ⟨_,_,rfl,t.trans D⟩⟩⟩
 ·rintro g j ⟨c1,k,rfl,b⟩
  exact q _ b
theorem wN (T:Txt K mg ad):CalB P w K mg base true 5 "walk_of" ["bench","ray"] (qK K):=by
 refine T.X7.calN Kl (λ _ _ _ _ _ _=>Bm λ _ _=>rfl) (λ vs H Q E h=>?_) (λ f d3 A outer s H vs Q E Y h=>?_)
 ·obtain ⟨_,_,_,_,_,_,rfl,_⟩:=h;rfl
 obtain ⟨b,y,ps,r,n,m,rfl,b5,b6,b7,rb,b8,q⟩:=h;obtain ⟨a,xs,rfl,b9,a5⟩:=DV.lst_of b5;have hl:xs.length=ps.length:=by have:=a5.len;rw [Y2] at this;exact this
 have d4:=b6.len;refine ⟨_,(Ag (DQ (Ai (O3 T) Y.m Ah (Ad (pv 0) Aa))) (Ag (Ax (i:=2) Kl.nd (CN (Ad (pv 1) Aa))) (Ag (Df YI rfl (N8 rfl T.enumerate (Ad (pv 0) Aa)) (K4 (n:=2) rfl (Du (Bq (i:=3) Kl.nd) (Du (Bq (i:=4) Kl.nd) Gp))) (Ag (Ax (i:=5) Kl.nd (Ai (RM T) Y.m Ah (Ad (pv 4) Aa))) (Ag (BP (CQ (Bk (Cd (k:=4) (pv 5) Y.m (Ad (pv 1) Aa)))) (Ak (Av (Bp (Ad (pv 2) (Ad (pv 3) Aa))))) BR) (Ag (Ax (i:=1) Kl.nd (Cd (k:=4) (pv 5) Y.m (Ad (pv 1) Aa))) (Ak (DQ (Ce Xq Xt Xx Fy (pv 2) (Ad (pv 1) Aa)))))))) (Ak (Av (Bp (Ad (pv 2) (Bf Fl Aa)))))))),?_⟩
 refine ⟨_,rfl,_,ps,m,rfl,b5,b6,by omega,λ d5 c0=>?_⟩
 refine ⟨_,rfl,(by show 1<=Y3;decide),λ l a6=>?_⟩
 have b0:H l=none:=c0.free a6;have Z:=c0.trans (Am a6 (.lst [y]));refine ⟨_,rfl,a,rfl,⟨_,b9.keep Z⟩,?_⟩;refine Le (K:=K) (a:=a) (xs:=xs) (λ i a0 B=>∃c1 a1 a2 v g D vs,a0=[some (.ref a),some v,some (.ref l),c1,a1,a2]/\Same H B/\B l=some (.lst vs)/\DVs K B vs ((r::D).map BX)/\DV K B v (BX g)/\At ps r i D g/\RB (n+i * (m+1)) g/\D.length<=i) ⟨_,_,_,y,r,[],[y],rfl,Z,Ar,.cons (b7.keep Z) .nil,b7.keep Z,AT9 ps r,by simpa using rb,ZK _⟩ ?_ ?_ ?_
 ·rintro i a0 B hi ⟨c1,a1,a2,v,g,D,vs,rfl,G,_⟩
  exact b9.keep G
 ·rintro i x a0 B p hi ⟨c1,a1,a2,v,g,D,vs,rfl,G,L,j,hv,u,N,a7⟩ c8
  obtain ⟨d,hd,c9⟩:=a5.get hi;obtain ⟨a3,O,rfl⟩:=JD hd;have I:=ZB O;have c2:=CT O;have up:=Am c8 (.tup [.int i,x]);have d0:=G.trans up;have c3:=mW b8 c2;refine ⟨p,_,rfl,SqT.of Ar,rfl,_,_,rfl,_,_,rfl,rfl,?_⟩;refine ⟨_,rfl,_,a3,rfl,c9.keep d0,λ o d6 d1 c4=>?_⟩
  have a8:=up.trans d1;obtain ⟨b1,C,b2,fs,S,sp,e1,e2,b3,M,U⟩:=AX8 (P:=P) (w:=w) (base:=base) T c4 (hv.keep a8) N (b6.bd _ I) c3;refine ⟨_,rfl,b1,C,b2,fs,S,sp,e1,e2,b3,M,_,rfl,U _ (λ d7 c5=>⟨_,rfl,?_⟩)⟩
  have z:=a8.trans c5;have d2:=G.trans z;cases R:a3.lets g with
  | false=>
   refine iteT ?_;refine ⟨_,rfl,_,rfl,(by show 2<=Y3;decide),λ t b4=>?_⟩
   have J:=Am b4 (.tup [.ref l,.int (i:Int)]);have V:=u.stop O R;refine q t l vs (.int i) _ (d2.trans J) b0 ((z.trans J) _ _ L) Ar ?_ ?_
   ·rw [V];exact j.keep (z.trans J)
   ·rw [V];exact .int _
  | true=>
   refine iteF ?_;obtain ⟨b1,C,b2,fs,S,sp,e1,e2,b3,M,U⟩:=Hf (P:=P) (w:=w) (base:=base) T (c4.keep c5) (hv.keep z) N (b6.bd _ I) c3;refine ⟨_,rfl,b1,C,b2,fs,S,sp,e1,e2,b3,M,_,rfl,U _ (λ a4 d8 c6 a9=>?_)⟩
   have W:=z.trans c6;have X:=W _ _ L;refine ⟨_,rfl,.inl ⟨rfl,_,SqL.of X⟩,_,rfl,l,vs,a4,rfl,rfl,X,AP6 j (by omega),?_⟩
   have c7:=HW X (.lst (vs++[a4]));refine ⟨_,_,_,a4,a3.bent g,D++[a3.bent g],vs++[a4],rfl,?_,Ar,?_,?_,u.step O R,?_,?_⟩
   ·intro b o e;rw [BK (Bt e b0)];exact (G.trans W) _ _ e
   ·rw [<- wx,U4];exact Cv c7 (by rw [<- U4];exact DY G5 _) ((j.keep W).append (.cons a9 .nil))
   ·exact Fg c7 (G5 _) a9
   ·have:=HB (b6.bd _ I) N;exact Rb.mono this (wF _ _ _)
   ·exact xZ a7
 ·rintro a0 B ⟨c1,a1,a2,v,g,D,vs,rfl,G,L,j,hv,u,N,a7⟩
  refine ⟨_,rfl,(by show 2<=Y3;decide),λ t b4=>?_⟩
  have J:=Am b4 (.tup [.ref l,.non]);rw [hl] at u;have V:=u.done;refine q t l vs .non _ (G.trans J) b0 (J _ _ L) Ar ?_ ?_
  ·rw [V];exact j.keep J
  ·rw [V];exact .non
theorem dN (T:Txt K mg ad)(H:Hp):DV K H (.ref ad.NOUGHT) (Aj 0):=.tup (T.ex.s_NOUGHT H) (.cons (.int 0) (.cons (.int 1) .nil))
theorem dO (T:Txt K mg ad)(H:Hp):DV K H (.ref ad.ONE) (Aj 1):=.tup (T.ex.s_ONE H) (.cons (.int 1) (.cons (.int 1) .nil))
theorem AZ7 (T:Txt K mg ad):CalB P w K mg base true 4 "is_table" ["thing"] (PR K lV):=by
 refine T.Yv.calN Ae5 (λ _ _ _ _ _ _=>by1 λ _=>rfl) (λ vs H Q E h=>?_) (λ f X A outer s H vs Q E g h=>?_)
 ·obtain ⟨_,_,dv,⟨_,_,rfl,_⟩,_⟩:=h;exact dv.len
 obtain ⟨_,_,dv,⟨t,n,rfl,tb,Y,rfl⟩,k⟩:=h;obtain ⟨_,rfl,C⟩:=dv.one;obtain ⟨a,q,r,y,z,rfl,e,D,F,G,I⟩:=DV.t4 C;have B:DVs K H [q,r,y,z] [Aj t.a,Aj t.b,Aj t.c,Aj t.d]:=.cons D (.cons F (.cons G (.cons I .nil)));refine ⟨_,(Ag (BP (PW.pt (pw_or (CQ (Bk (Br Fv rfl T.isinstance Fb (Ad (pv 0) (Ad (Fo (v:=.ty "tuple") rfl T.tuple Mq rfl) Aa))))) (pw_or (BW Ey (Br DX rfl T.len DG (Ad (pv 0) Aa)) Ac) (pw_or1 (CQ (Bk (Br (P0 rfl) rfl T.all Nr (DW (Fz ["part"] [none] rfl (Qx (pv 0)) (λ _ _ _ _ _=>(Bq (i:=0) (show UB [("part":Str)] by decide))) (λ _ _ _ _ _=>Fd) (λ _ _ _ _ _=>(Ai (QG T) g.m Ah (Ad (pv 0) Aa))) (Fw (by decide) (by decide)) (by decide) rfl (by decide) rfl (G3 rfl)) Aa)))))))) (Ak (Av Cu)) BR) (Ak (Av (Dr (Gh g.units) (Ai (Ho T) g.m Ah (Bc (Ai (HF T) g.m Ah (Ao (Ae Al (pv 0) Ac) (Ao (Ae Al (pv 0) Ac) Aa))) (Bc (Ai (HF T) g.m Ah (Ao (Ae Al (pv 0) Ac) (Ao (Ae Al (pv 0) Ac) Aa))) Aa))) (Bl (v:=.ref ad.ONE) rfl T.ex.m_ONE rfl))))),?_⟩
 refine ⟨_,rfl,_,_,_,_,rfl,C,Qt _,_,rfl,iteF ?_⟩;refine ⟨_,rfl,a,_,rfl,.inr e,rfl,_,rfl,iteF ?_⟩;refine ⟨_,rfl,a,rfl,⟨_,e⟩,?_⟩;refine R1 (K:=K) (a:=a) (xs:=[q,r,y,z]) (λ i j l o=>∃c0,j=[c0]/\l=XE i (.bl true)/\o=H) ⟨_,rfl,rfl,rfl⟩ ?_ ?_ ?_
 ·rintro i j l o hi ⟨c0,rfl,rfl,rfl⟩
  refine ⟨?_,e⟩;rw [wq];exact XT (small1000 (by simp only [X9,YG] at hi;omega))
 ·rintro i x j l o hi ⟨c0,rfl,rfl,rfl⟩
  obtain ⟨d,hd,J⟩:=B.get hi;obtain ⟨R,rfl⟩:=qm (es:=[t.a,t.b,t.c,t.d]) hd;exact ⟨_,rfl,_,R,rfl,J,nx (CT hi) ⟨_,rfl,NI.symm,rfl⟩⟩
 ·rintro j l o p ⟨c0,rfl,rfl,rfl⟩ S
  have u:=Am S (.lst (XE [q,r,y,z].length (.bl true)));refine ⟨p,[true,true,true,true],rfl,SqL.of Ar,_,rfl,iteF ?_⟩;refine ⟨_,rfl,a,_,_,_,rfl,rfl,e.keep u,rfl,_,rfl,a,_,_,_,rfl,rfl,e.keep u,rfl,?_⟩;refine ⟨_,_,.cons (D.keep u) (.cons (I.keep u) .nil),⟨_,_,rfl,tb.a.sm (by omega),tb.d.sm (by omega),rfl⟩,λ Z a0 U L=>?_⟩
  have us:=u.trans U;refine ⟨_,rfl,a,_,_,_,rfl,rfl,e.keep us,rfl,_,rfl,a,_,_,_,rfl,rfl,e.keep us,rfl,?_⟩;refine ⟨_,_,.cons (F.keep us) (.cons (G.keep us) .nil),⟨_,_,rfl,tb.b.sm (by omega),tb.c.sm (by omega),rfl⟩,λ a1 a2 M N=>?_⟩
  refine ⟨_,_,.cons (L.keep M) (.cons N .nil),⟨_,_,rfl,(tb.a.mul tb.d).sm (by omega),(tb.b.mul tb.c).sm (by omega),rfl⟩,λ a3 V W O=>?_⟩
  exact Ln O (dO T V) (k _ _ (us.trans (M.trans W)) (.bl _))
theorem jw (T:Txt K mg ad):CalB P w K mg base true 5 "look_at_table" ["table"] (PR K qi):=by
 refine T.UJ.calN AM1 (λ _ _ _ _ _ _=>by1 λ _=>rfl) (λ vs H Q E h=>?_) (λ f i A outer s H vs Q E b h=>?_)
 ·obtain ⟨_,_,dv,⟨_,_,rfl,_⟩,_⟩:=h;exact dv.len
 obtain ⟨_,_,dv,⟨t,n,rfl,tb,d,a,rfl⟩,k⟩:=h;obtain ⟨_,rfl,e⟩:=dv.one;refine ⟨_,(Ak (BP (CQ (Bk (Ai (AZ7 T) b.m Ah (Ad (pv 0) Aa)))) (Ak DR) BR)),?_⟩
 refine ⟨_,rfl,_,_,.cons e .nil,⟨t,n,rfl,tb,d,rfl⟩,λ v j g hv=>?_⟩
 rw [decide_eq_true a] at hv;obtain rfl:=hv.bl_of;exact ⟨_,rfl,iteF (k _ _ g .non)⟩
theorem AW1 (T:Txt K mg ad):CalB P w K mg base true 1 "table_of_rays" ["high","slanted"] (PR K nP):=by
 refine T.Ud.calN AQ5 (λ _ _ _ _ _ _=>Bm λ _ _=>rfl) (λ vs H Q E h=>?_) (λ f q A outer s H vs Q E u h=>?_)
 ·obtain ⟨_,_,dv,⟨_,_,rfl,_⟩,_⟩:=h;exact dv.len
 obtain ⟨_,_,dv,⟨r,t,rfl,rfl⟩,k⟩:=h;obtain ⟨_,_,rfl,n,o⟩:=dv.two;obtain ⟨a,v,x,rfl,d,e,g⟩:=DV.t2 n;obtain ⟨b,y,z,rfl,i,j,l⟩:=DV.t2 o;refine ⟨_,(Ak (Av (Bp (Ao (Ae Al (pv 0) Ac) (Ao (Ae Al (pv 1) Ac) (Ao (Ae Al (pv 0) Ac) (Ao (Ae Al (pv 1) Ac) Aa))))))),?_⟩;refine ⟨_,rfl,a,_,_,_,rfl,rfl,d,rfl,_,rfl,b,_,_,_,rfl,rfl,i,rfl,_,rfl,a,_,_,_,rfl,rfl,d,rfl,_,rfl,b,_,_,_,rfl,rfl,i,rfl,(by show 4<=Y3;decide),λ p m=>?_⟩
 exact k _ _ (Am m _) (DV.upd4 m e j g l)
theorem U8 (T:Txt K mg ad):CalB P w K mg base true 5 "table_of" ["bench"] (PR K jg):=by
 refine T.RZ.calN Iv (λ _ _ _ _ _ _=>by1 λ _=>rfl) (λ vs H Q E h=>?_) (λ f c3 A outer s H vs Q E n h=>?_)
 ·obtain ⟨_,_,dv,⟨_,_,rfl,_⟩,_⟩:=h;exact dv.len
 obtain ⟨_,_,dv,⟨ps,m,rfl,Y,c4,rfl⟩,k⟩:=h;obtain ⟨_,rfl,Z⟩:=dv.one;obtain ⟨a,xs,rfl,a0,I⟩:=DV.lst_of Z;have hl:xs.length=ps.length:=by have:=I.len;rw [Y2] at this;exact this
 have c6:=Y.len;have b3:RB 2 e1:=⟨1,0,1,by decide,by decide,by decide,by decide,by decide+kernel,by decide+kernel⟩
 have b4:RB 2 e2:=⟨0,1,1,by decide,by decide,by decide,by decide,by decide+kernel,by decide+kernel⟩
 refine ⟨_,(Ag (DQ (Ai (O3 T) n.m Ah (Ad (pv 0) Aa))) (Ag (Ax (i:=1) Iv.nd (Bp (Ad (Bl (v:=.ref ad.ONE) rfl T.ex.m_ONE rfl) (Ad (Bl (v:=.ref ad.NOUGHT) rfl T.ex.m_NOUGHT rfl) Aa)))) (Ag (Ax (i:=2) Iv.nd (Bp (Ad (Bl (v:=.ref ad.NOUGHT) rfl T.ex.m_NOUGHT rfl) (Ad (Bl (v:=.ref ad.ONE) rfl T.ex.m_ONE rfl) Aa)))) (Ag (Df YI rfl (Dc (pv 0)) (Bq (i:=3) Iv.nd) (Ag (Ax (i:=4) Iv.nd (Ai (RM T) n.m Ah (Ad (pv 3) Aa))) (Ag (Ax (i:=1) Iv.nd (Cd (k:=4) (pv 4) n.m (Ad (pv 1) Aa))) (Ak (Ax (i:=2) Iv.nd (Cd (k:=4) (pv 4) n.m (Ad (pv 2) Aa))))))) (Ak (Av (Ai (AW1 T) n.m Ah (Ad (pv 1) (Ad (pv 2) Aa))))))))),?_⟩
 refine ⟨_,rfl,_,ps,m,rfl,Z,Y,by omega,λ z b5=>?_⟩
 refine ⟨(by show 2<=Y3;decide),λ N J=>?_⟩
 have b6:=Am J (.tup [.ref ad.ONE,.ref ad.NOUGHT]);have b7:DV K (upd z N (.tup [.ref ad.ONE,.ref ad.NOUGHT])) (.ref N) (BX e1):=DV.upd2 J (dO T z) (dN T z);refine ⟨(by show 2<=Y3;decide),λ a1 L=>?_⟩
 have a2:=Am L (.tup [.ref ad.NOUGHT,.ref ad.ONE]);have b8:DV K (upd (upd z N (.tup [.ref ad.ONE,.ref ad.NOUGHT])) a1 (.tup [.ref ad.NOUGHT,.ref ad.ONE])) (.ref a1) (BX e2):=DV.upd2 L (dN T _) (dO T _);have a3:=b5.trans (b6.trans a2);refine ⟨_,rfl,a,rfl,⟨_,a0.keep a3⟩,?_⟩;refine G6 (K:=K) (a:=a) (xs:=xs) (λ i B j=>∃D F p q,B=[some (.ref a),some p,some q,D,F]/\Same H j/\DV K j p (BX (BV (ps.take i) e1))/\DV K j q (BX (BV (ps.take i) e2))/\RB (2+i * (m+1)) (BV (ps.take i) e1)/\RB (2+i * (m+1)) (BV (ps.take i) e2)) ⟨_,_,_,_,rfl,a3,b7.keep a2,b8,by simpa [BV] using b3,by simpa [BV] using b4⟩ ?_ ?_ ?_
 ·rintro i B j hi ⟨D,F,p,q,rfl,l,_⟩
  exact a0.keep l
 ·rintro i x B j hi ⟨D,F,p,q,rfl,l,e,g,b1,b2⟩
  obtain ⟨d,hd,b9⟩:=I.get hi;obtain ⟨a4,t,rfl⟩:=JD hd;have b:=ZB t;have c5:=CT t;have a5:2+i * (m+1)+m<=3900:=by
   have:i * (m+1)<=ps.length * (m+1):=YP _ (by omega)
   omega
  have G:∀r,BV (ps.take (i+1)) r=a4.bent (BV (ps.take i) r):=λ r=>by
   rw [Xe,t,Lp];rfl
  refine ⟨_,rfl,_,a4,rfl,b9.keep l,λ o c7 O a6=>?_⟩
  obtain ⟨R,C,S,fs,u,sp,U,V,W,M,y⟩:=Hf (P:=P) (w:=w) (base:=base) T a6 (e.keep O) b1 (Y.bd _ b) a5;refine ⟨_,rfl,R,C,S,fs,u,sp,U,V,W,M,_,rfl,y _ (λ c0 c8 X a7=>?_)⟩
  obtain ⟨R,C,S,fs,u,sp,U,V,W,M,y⟩:=Hf (P:=P) (w:=w) (base:=base) T (a6.keep X) (g.keep (O.trans X)) b2 (Y.bd _ b) a5;refine ⟨_,rfl,R,C,S,fs,u,sp,U,V,W,M,_,rfl,y _ (λ c1 c9 a8 a9=>?_)⟩
  refine ⟨_,_,c0,c1,rfl,l.trans (O.trans (X.trans a8)),?_,?_,?_,?_⟩
  ·rw [G];exact a7.keep a8
  ·rw [G];exact a9
  ·rw [G];exact Rb.mono (HB (Y.bd _ b) b1) (by rw [zj];omega)
  ·rw [G];exact Rb.mono (HB (Y.bd _ b) b2) (by rw [zj];omega)
 ·rintro B j ⟨D,F,p,q,rfl,l,e,g,b1,b2⟩
  rw [hl,YU] at e g;exact ⟨_,rfl,_,rfl,_,_,.cons e (.cons g .nil),⟨_,_,rfl,rfl⟩,λ d0 d1 c2 b0=>k _ _ (l.trans c2) b0⟩
theorem AL1 (T:Txt K mg ad):CalB P w K mg base true 4 "made_by" ["table","ray"] (PR K jH):=by
 refine T.Wl.calN Rv (λ _ _ _ _ _ _=>Bm λ _ _=>rfl) (λ vs H Q E h=>?_) (λ f W A outer s H vs Q E j h=>?_)
 ·obtain ⟨_,_,dv,⟨_,_,_,rfl,_⟩,_⟩:=h;exact dv.len
 obtain ⟨_,_,dv,⟨t,r,n,rfl,tb,b1,b2,X,rfl⟩,k⟩:=h;obtain ⟨_,_,rfl,M,N⟩:=dv.two;obtain ⟨a,Y,Z,a0,a1,rfl,o,O,R,S,U⟩:=DV.t4 M;obtain ⟨b,a2,a3,rfl,q,u,v⟩:=DV.t2 N;refine ⟨_,(Ag (Ax (i:=2) Rv.nd (Ai (JN T) j.m Ah (Bc (Ai (HF T) j.m Ah (Ao (Ae Al (pv 0) Ac) (Ao (Ae Al (pv 1) Ac) Aa))) (Bc (Ai (HF T) j.m Ah (Ao (Ae Al (pv 0) Ac) (Ao (Ae Al (pv 1) Ac) Aa))) Aa)))) (Ag (Ax (i:=3) Rv.nd (Ai (JN T) j.m Ah (Bc (Ai (HF T) j.m Ah (Ao (Ae Al (pv 0) Ac) (Ao (Ae Al (pv 1) Ac) Aa))) (Bc (Ai (HF T) j.m Ah (Ao (Ae Al (pv 0) Ac) (Ao (Ae Al (pv 1) Ac) Aa))) Aa)))) (Ak (Av (Bp (Ad (pv 2) (Ad (pv 3) Aa))))))),?_⟩
 refine ⟨_,rfl,a,_,_,_,rfl,rfl,o,rfl,_,rfl,b,_,_,_,rfl,rfl,q,rfl,?_⟩;refine ⟨_,_,.cons O (.cons u .nil),⟨_,_,rfl,tb.a.sm (by omega),b1.sm (by omega),rfl⟩,λ a4 a5 l y=>?_⟩
 refine ⟨_,rfl,a,_,_,_,rfl,rfl,o.keep l,rfl,_,rfl,b,_,_,_,rfl,rfl,q.keep l,rfl,?_⟩;refine ⟨_,_,.cons (R.keep l) (.cons (v.keep l) .nil),⟨_,_,rfl,tb.b.sm (by omega),b2.sm (by omega),rfl⟩,λ a6 a7 z B=>?_⟩
 refine ⟨_,_,.cons (y.keep z) (.cons B .nil),⟨_,_,rfl,(tb.a.mul b1).sm (by omega),(tb.b.mul b2).sm (by omega),rfl⟩,λ a8 a9 V C=>?_⟩
 have e:=l.trans (z.trans V);refine ⟨_,rfl,a,_,_,_,rfl,rfl,o.keep e,rfl,_,rfl,b,_,_,_,rfl,rfl,q.keep e,rfl,?_⟩;refine ⟨_,_,.cons (S.keep e) (.cons (u.keep e) .nil),⟨_,_,rfl,tb.c.sm (by omega),b1.sm (by omega),rfl⟩,λ b0 b3 D F=>?_⟩
 have g:=e.trans D;refine ⟨_,rfl,a,_,_,_,rfl,rfl,o.keep g,rfl,_,rfl,b,_,_,_,rfl,rfl,q.keep g,rfl,?_⟩;refine ⟨_,_,.cons (U.keep g) (.cons (v.keep g) .nil),⟨_,_,rfl,tb.d.sm (by omega),b2.sm (by omega),rfl⟩,λ b4 b5 x G=>?_⟩
 refine ⟨_,_,.cons (F.keep x) (.cons G .nil),⟨_,_,rfl,(tb.c.mul b1).sm (by omega),(tb.d.mul b2).sm (by omega),rfl⟩,λ b6 b7 I J=>?_⟩
 refine ⟨_,rfl,_,rfl,(by show 2<=Y3;decide),λ p L=>?_⟩
 exact k _ _ (g.trans (x.trans (I.trans (Am L _)))) (DV.upd2 L (C.keep (D.trans (x.trans I))) J)
theorem Uw (T:Txt K mg ad):CalB P w K mg base true 4 "spread_of" ["table","s"] (PR K nH):=by
 refine T.X6.calN Y0 (λ _ _ _ _ _ _=>Bm λ _ _=>rfl) (λ vs H Q E h=>?_) (λ f O A outer s H vs Q E j h=>?_)
 ·obtain ⟨_,_,dv,⟨_,_,_,rfl,_⟩,_⟩:=h;exact dv.len
 obtain ⟨_,_,dv,⟨t,q,n,rfl,tb,l,R,rfl⟩,k⟩:=h;obtain ⟨_,y,rfl,G,u⟩:=dv.two;obtain ⟨a,S,U,V,W,rfl,o,I,J,L,M⟩:=DV.t4 G;refine ⟨_,(Ag (Ax (i:=2) Y0.nd (Ai (JN T) j.m Ah (Bc (Ai (HF T) j.m Ah (Ao (Ae Al (pv 0) Ac) (Ad (pv 1) Aa))) (Ao (Ae Al (pv 0) Ac) Aa)))) (Ag (Ax (i:=3) Y0.nd (Ai (JN T) j.m Ah (Bc (Ai (HF T) j.m Ah (Ao (Ae Al (pv 0) Ac) (Ad (pv 1) Aa))) (Ao (Ae Al (pv 0) Ac) Aa)))) (Ak (Av (Bp (Ad (pv 2) (Ad (pv 3) Aa))))))),?_⟩
 refine ⟨_,rfl,a,_,_,_,rfl,rfl,o,rfl,_,rfl,?_⟩;refine ⟨_,_,.cons I (.cons u .nil),⟨_,_,rfl,tb.a.sm (by omega),l.sm (by omega),rfl⟩,λ X Y r v=>?_⟩
 refine ⟨_,rfl,a,_,_,_,rfl,rfl,o.keep r,rfl,?_⟩;refine ⟨_,_,.cons v (.cons (J.keep r) .nil),⟨_,_,rfl,(tb.a.mul l).sm (by omega),tb.b.sm (by omega),rfl⟩,λ Z a0 N x=>?_⟩
 have e:=r.trans N;refine ⟨_,rfl,a,_,_,_,rfl,rfl,o.keep e,rfl,_,rfl,?_⟩;refine ⟨_,_,.cons (L.keep e) (.cons (u.keep e) .nil),⟨_,_,rfl,tb.c.sm (by omega),l.sm (by omega),rfl⟩,λ a1 a2 z B=>?_⟩
 have g:=e.trans z;refine ⟨_,rfl,a,_,_,_,rfl,rfl,o.keep g,rfl,?_⟩;refine ⟨_,_,.cons B (.cons (M.keep g) .nil),⟨_,_,rfl,(tb.c.mul l).sm (by omega),tb.d.sm (by omega),rfl⟩,λ a3 a4 C D=>?_⟩
 refine ⟨_,rfl,_,rfl,(by show 2<=Y3;decide),λ p F=>?_⟩
 exact k _ _ (g.trans (C.trans (Am F _))) (DV.upd2 F (x.keep (z.trans C)) D)
theorem nu (T:Txt K mg ad):CalB P w K mg base true 6 "image_of" ["table","s"] (PR K eF):=by
 refine T.XD.calN gF (λ _ _ _ _ _ _=>Bm λ _ _=>rfl) (λ vs H Q E h=>?_) (λ f M A outer s H vs Q E d h=>?_)
 ·obtain ⟨_,_,dv,⟨_,_,_,rfl,_⟩,_⟩:=h;exact dv.len
 obtain ⟨_,_,dv,⟨t,q,n,rfl,tb,o,u,N,rfl⟩,k⟩:=h;obtain ⟨_,y,rfl,x,D⟩:=dv.two;obtain ⟨e,g⟩:=fM tb u;refine ⟨_,(Ag (DQ (Ai (jw T) d.m Ah (Ad (pv 0) Aa))) (Ag (Ax (i:=2) gF.nd (Ai (Uw T) d.m Ah (Ad (pv 0) (Ad (pv 1) Aa)))) (Ag (BP (BW (Gh d.units) (Ae Al (pv 2) Ac) (Bl (v:=.ref ad.NOUGHT) rfl T.ex.m_NOUGHT rfl)) (Ak (Av Fl)) BR) (Ak (Av (Ai (Ho T) d.m Ah (Ad (Bl (v:=.ref ad.NOUGHT) rfl T.ex.m_NOUGHT rfl) (Bc (Ai (Kp T) d.m Ah (Ao (Ae Al (pv 2) Ac) (Ao (Ae Al (pv 2) Ac) Aa))) Aa)))))))),?_⟩
 refine ⟨_,rfl,_,_,.cons x .nil,⟨t,n,rfl,tb,by omega,o,rfl⟩,λ O R p _=>?_⟩
 refine ⟨_,rfl,_,rfl,_,_,.cons (x.keep p) (.cons (D.keep p) .nil),⟨t,q,n,rfl,tb,u,by omega,rfl⟩,λ v F G hv=>?_⟩
 obtain ⟨b,S,U,rfl,r,z,j⟩:=DV.t2 hv;have l:=p.trans G;refine ⟨_,rfl,b,_,_,_,rfl,rfl,r,rfl,Ln j (dN T F) ⟨_,rfl,?_⟩⟩;unfold img at k;by_cases a:(spread t q).2=0
 ·rw [if_pos a] at k;exact Bj (decide_eq_true a) (k _ _ l .non)
 ·rw [if_neg a] at k;refine BL (decide_eq_false a) ?_;refine ⟨_,rfl,b,_,_,_,rfl,rfl,r,rfl,_,rfl,b,_,_,_,rfl,rfl,r,rfl,?_⟩;refine ⟨_,_,.cons z (.cons j .nil),⟨_,_,rfl,e.sm (by omega),g.sm (by omega),a,rfl⟩,λ V I J B=>?_⟩
  exact ⟨_,_,.cons (dN T I) (.cons B .nil),⟨0,_,rfl,Sm.zero,(e.div g a).sm (by omega),rfl⟩,λ W X L C=>k _ _ (l.trans (J.trans L)) C⟩
theorem rY (T:Txt K mg ad):CalB P w K mg base true 6 "growth_of" ["table","s"] (PR K oO):=by
 refine T.Z7.calN cZ (λ _ _ _ _ _ _=>Bm λ _ _=>rfl) (λ vs H Q E h=>?_) (λ f F A outer s H vs Q E d h=>?_)
 ·obtain ⟨_,_,dv,⟨_,_,_,rfl,_⟩,_⟩:=h;exact dv.len
 obtain ⟨_,_,dv,⟨t,q,n,rfl,tb,j,o,J,rfl⟩,k⟩:=h;obtain ⟨_,y,rfl,p,B⟩:=dv.two;obtain ⟨G,r⟩:=fM tb o;refine ⟨_,(Ag (DQ (Ai (jw T) d.m Ah (Ad (pv 0) Aa))) (Ag (Ax (i:=2) cZ.nd (Ai (Uw T) d.m Ah (Ad (pv 0) (Ad (pv 1) Aa)))) (Ag (BP (BW (Gh d.units) (Ae Al (pv 2) Ac) (Bl (v:=.ref ad.NOUGHT) rfl T.ex.m_NOUGHT rfl)) (Ak (Av Fl)) BR) (Ak (Av (Ai (Kp T) d.m Ah (Ad (Bl (v:=.ref ad.ONE) rfl T.ex.m_ONE rfl) (Ao (Ae Al (pv 2) Ac) Aa)))))))),?_⟩
 refine ⟨_,rfl,_,_,.cons p .nil,⟨t,n,rfl,tb,by omega,j,rfl⟩,λ L M l _=>?_⟩
 refine ⟨_,rfl,_,rfl,_,_,.cons (p.keep l) (.cons (B.keep l) .nil),⟨t,q,n,rfl,tb,o,by omega,rfl⟩,λ v u C hv=>?_⟩
 obtain ⟨b,N,O,rfl,x,I,e⟩:=DV.t2 hv;have g:=l.trans C;refine ⟨_,rfl,b,_,_,_,rfl,rfl,x,rfl,Ln e (dN T u) ⟨_,rfl,?_⟩⟩;unfold RD at k;by_cases a:(spread t q).2=0
 ·rw [if_pos a] at k;exact Bj (decide_eq_true a) (k _ _ g .non)
 ·rw [if_neg a] at k;refine BL (decide_eq_false a) ?_;refine ⟨_,rfl,b,_,_,_,rfl,rfl,x,rfl,?_⟩;exact ⟨_,_,.cons (dO T u) (.cons e .nil),⟨1,_,rfl,Sm.one,r.sm (by omega),a,rfl⟩,λ R S D z=>k _ _ (g.trans D) z⟩
end
end K74
section
open PySem L2 Lib Fr Op K74
local macro_rules | `(tactic| walk_at "Zs")=>`(tactic| first | with_reducible assumption | with_reducible exact Same.refl _ | exact Dn (by with_reducible assumption) (by walk_at "Zs") | exact HD (by with_reducible assumption) (by walk_at "Zs"))
local macro_rules | `(tactic| walk_at "Zd")=>`(tactic| first | with_reducible assumption | with_reducible exact DV.int _ | with_reducible exact DV.str _ | with_reducible exact DV.bl _ | with_reducible exact DV.non | exact Ie (by first | with_reducible assumption | assumption) (by walk_at "Zs") | with_reducible exact dN (by assumption) _ | with_reducible exact dO (by assumption) _ | exact zd2 (by with_reducible assumption) (by walk_at "Zs") (by walk_at "Zd") (by walk_at "Zd") | exact zd3 (by with_reducible assumption) (by walk_at "Zs") (by walk_at "Zd") (by walk_at "Zd") (by walk_at "Zd") | exact zd4 (by with_reducible assumption) (by walk_at "Zs") (by walk_at "Zd") (by walk_at "Zd") (by walk_at "Zd") (by walk_at "Zd"))
local macro_rules | `(tactic| walk_at "Zt")=>`(tactic| first | assumption | exact Ht (by assumption) (by walk_at "Zs") | exact zt2 (by walk_at "Zs"))
local macro_rules | `(tactic| walk_at "Zl")=>`(tactic| first | assumption | exact zl1 (by assumption) (by walk_at "Zs") | exact zl2 (by walk_at "Zs"))
local macro_rules | `(tactic| walk_at "Zv")=>`(tactic| first | exact DVs.nil | exact DVs.cons (by walk_at "Zd") (by walk_at "Zv"))
local macro_rules | `(tactic| walk_at "Zb")=>`(tactic| first | with_reducible assumption | exact Ff 1 (by decide) | exact HY 1 (by decide) | with_reducible exact Bd.mul (by walk_at "Zb") (by walk_at "Zb") | with_reducible exact Bd.add (by walk_at "Zb") (by walk_at "Zb") | with_reducible exact Bd.sub (by walk_at "Zb") (by walk_at "Zb") | with_reducible exact Tb.a (by with_reducible assumption) | with_reducible exact Tb.b (by with_reducible assumption) | with_reducible exact Tb.c (by with_reducible assumption) | with_reducible exact Tb.d (by with_reducible assumption) | with_reducible exact Rb.y (by with_reducible assumption) | with_reducible exact Rb.u (by with_reducible assumption))
local macro_rules | `(tactic| walk_at "Zm")=>`(tactic| first | with_reducible assumption | with_reducible exact Sm.zero | with_reducible exact Sm.one | exact Bd.sm (by walk_at "Zb") (by first | decide | omega))
local macro_rules | `(tactic| walk_at "Zr")=>`(tactic| first | exact ⟨_,_,rfl,by walk_at "Zm",by walk_at "Zm",rfl⟩ | exact ⟨_,_,rfl,by walk_at "Zm",by walk_at "Zm",by assumption,rfl⟩)
local macro_rules | `(tactic| walk_at "Zc")=>`(tactic| (refine ⟨_,_,by walk_at "Zv",by walk_at "Zr",λ v H' s hv=>?_⟩;(first | (obtain rfl:=DV.bl_of hv) | (have:=(show DV _ _ _ (Aj _) from hv);clear this) | (obtain ⟨a,x1,x2,x3,x4,rfl,ha,h1,h2,h3,h4⟩:=DV.t4 hv) | (obtain ⟨a,x1,x2,x3,rfl,ha,h1,h2,h3⟩:=DV.t3 hv) | (obtain ⟨a,x1,x2,rfl,ha,h1,h2⟩:=DV.t2 hv) | skip)))
local macro_rules | `(tactic| walk_at "Zp")=>`(tactic| first | refine ⟨by (show 2<=sizeLine;decide),λ p hp=>?_⟩ | refine ⟨by (show 3<=sizeLine;decide),λ p hp=>?_⟩ | refine ⟨by (show 4<=sizeLine;decide),λ p hp=>?_⟩)
local macro_rules | `(tactic| walk_at "Zn")=>`(tactic| first | refine ⟨_,rfl,?_⟩ | refine ⟨_,_,_,_,rfl,rfl,by walk_at "Zt",by rfl,?_⟩ | refine ⟨_,_,rfl,rfl,?_⟩)
local macro_rules | `(tactic| walk_at "Z1")=>`(tactic| first | walk_at "Zn" | walk_at "Zp" | walk_at "Zc" | refine iteF ?_ | refine iteT ?_)
local macro_rules | `(tactic| walk_at "Z")=>`(tactic| repeat walk_at "Z1")
namespace K74
open PySem L2 Lib Fr Op
seal PE PT PW PA PS PSs PG PGs PI PO CK
section
variable {P:Yf}{w:World}{K:FrG}{mg:Str->Option Value}{base:Heap}{ad:Adr}{c:Bool}
theorem cU (T:Txt K mg ad):CalB P w K mg base true 5 "limits_of" ["bench"] (jh K):=by
 refine T.Vc.calN HH (λ _ _ _ _ _ _=>by1 λ _=>rfl) (λ vs H Q E h=>?_) (λ f i5 A outer s H vs Q E d3 h=>?_)
 ·obtain ⟨_,_,_,rfl,_⟩:=h;rfl
 obtain ⟨b,ps,m,rfl,f8,d2,f9,q⟩:=h;obtain ⟨a,xs,rfl,g0,d7⟩:=DV.lst_of f8;have hl:xs.length=ps.length:=by have:=d7.len;rw [Y2] at this;exact this
 have i8:=d2.len;refine ⟨_,(Ag (DQ (Ai (O3 T) d3.m Ah (Ad (pv 0) Aa))) (Ag (Ax (i:=1) HH.nd (CN Aa)) (Ag (Ax (i:=2) HH.nd (Bp (Ad (Bl (v:=.ref ad.ONE) rfl T.ex.m_ONE rfl) (Ad (Bl (v:=.ref ad.NOUGHT) rfl T.ex.m_NOUGHT rfl) Aa)))) (Ag (Ax (i:=3) HH.nd (Bp (Ad (Bl (v:=.ref ad.NOUGHT) rfl T.ex.m_NOUGHT rfl) (Ad (Bl (v:=.ref ad.ONE) rfl T.ex.m_ONE rfl) Aa)))) (Ag (Df YI rfl (N8 rfl T.enumerate (Ad (pv 0) Aa)) (K4 (n:=2) rfl (Du (Bq (i:=4) HH.nd) (Du (Bq (i:=5) HH.nd) Gp))) (Ag (BP (BW By (Ae Al (pv 5) Ac) (Bl (v:=.str "stop") rfl T.ex.m_STOP ⟨_,rfl⟩)) (Ak (DQ (Ce Xq Xt Xx Fy (pv 1) (Ez (Bp (Ad (pv 4) (Ao (Ae Al (pv 2) Ac) (Ao (Ae Al (pv 3) Ac) (Ao (Ae Al (pv 5) Ac) (Ao (Ae Al (pv 5) Ac) Aa)))))) Aa)))) BR) (Ag (Ax (i:=6) HH.nd (Ai (RM T) d3.m Ah (Ad (pv 5) Aa))) (Ag (Ax (i:=2) HH.nd (Cd (k:=4) (pv 6) d3.m (Ad (pv 2) Aa))) (Ak (Ax (i:=3) HH.nd (Cd (k:=4) (pv 6) d3.m (Ad (pv 3) Aa)))))))) (Ak (Av (pv 1)))))))),?_⟩
 refine ⟨_,rfl,_,ps,m,rfl,f8,d2,by omega,λ g1 g2=>?_⟩
 refine ⟨(by show 0<=Y3;decide),λ l d8=>?_⟩
 have g3:H l=none:=g2.free d8;have u0:=Am d8 (.lst []);have d9:upd g1 l (.lst []) l=some (.lst []):=Ar;generalize upd g1 l (.lst [])=e0 at u0 d9 ⊢;refine ⟨(by show 2<=Y3;decide),λ f0 e3=>?_⟩
 have g4:=Am e3 (.tup [.ref ad.ONE,.ref ad.NOUGHT]);have h8:DV K (upd e0 f0 (.tup [.ref ad.ONE,.ref ad.NOUGHT])) (.ref f0) (BX e1):=DV.upd2 e3 (dO T _) (dN T _);refine ⟨(by show 2<=Y3;decide),λ g5 e4=>?_⟩
 have f1:=Am e4 (.tup [.ref ad.NOUGHT,.ref ad.ONE]);have h9:DV K (upd (upd e0 f0 (.tup [.ref ad.ONE,.ref ad.NOUGHT])) g5 (.tup [.ref ad.NOUGHT,.ref ad.ONE])) (.ref g5) (BX e2):=DV.upd2 e4 (dN T _) (dO T _);have g6:=g2.trans (u0.trans (g4.trans f1));refine ⟨_,rfl,a,rfl,⟨_,g0.keep g6⟩,?_⟩;refine Le (K:=K) (a:=a) (xs:=xs) (λ i d4 a0=>∃b8 b9 c0 a1 a2 vs,d4=[some (.ref a),some (.ref l),some a1,some a2,b8,b9,c0]/\Same H a0/\a0 l=some (.lst vs)/\DVs K a0 vs ((Bg (ps.take i)).map FQ)/\DV K a0 a1 (BX (BV (ps.take i) e1))/\DV K a0 a2 (BX (BV (ps.take i) e2))/\RB (2+i * (m+1)) (BV (ps.take i) e1)/\RB (2+i * (m+1)) (BV (ps.take i) e2)) ⟨_,_,_,_,_,[],rfl,g6,(g4.trans f1) _ _ d9,.nil,h8.keep f1,h9,by simpa [BV] using Rx,by simpa [BV] using Y6⟩ ?_ ?_ ?_
 ·rintro i d4 a0 hi ⟨b8,b9,c0,a1,a2,vs,rfl,a6,_⟩
  exact g0.keep a6
 ·rintro i x d4 a0 p hi ⟨b8,b9,c0,a1,a2,vs,rfl,a6,a7,B,a8,a9,b1,b2⟩ i0
  obtain ⟨d,hd,i1⟩:=d7.get hi;obtain ⟨c3,b4,rfl⟩:=JD hd;have j:=ZB b4;have g7:=CT b4;have c1:=mW f9 g7;have up:=Am i0 (.tup [.int i,x]);have u:=i1.keep (a6.trans up);refine ⟨p,_,rfl,SqT.of Ar,rfl,_,_,rfl,_,_,rfl,rfl,?_⟩;have d5:=yP b4;have f2:=AQ0 b4;have i9:vs.length<=60:=by
   have g8:=B.len;rw [Y2] at g8;have i2:=Yg (ps.take i) 0 e1 e2;rw [YR] at i2;unfold Bg at g8;omega
  have c4:∀(b5:List V) (g:Hp),Same H g->g l=some (.lst b5)->DVs K g b5 ((Bg (ps.take (i+1))).map FQ)->DV K g a1 (BX (BV (ps.take i) e1))->DV K g a2 (BX (BV (ps.take i) e2))->DV K g x (CV c3)->∀(o:Addr) a3,Same g a3->ObAt K ad.Gap ad.Glass ad.Stop a3 (.ref o) c3->∀W X,Same a3 X->DV K X W (BX (c3.bent (BV (ps.take i) e1)))->∀Y Z,Same X Z->DV K Z Y (BX (c3.bent (BV (ps.take i) e2)))->
    ∃b8 b9 c0 a1 a2 vs,([some (.ref a),some (.ref l),some W,some Y,some (.int (i:Int)),some x,some (.ref o)]:St)=[some (.ref a),some (.ref l),some a1,some a2,b8,b9,c0]/\Same H Z/\Z l=some (.lst vs)/\DVs K Z vs ((Bg (ps.take (i+1))).map FQ)/\DV K Z a1 (BX (BV (ps.take (i+1)) e1))/\DV K Z a2 (BX (BV (ps.take (i+1)) e2))/\RB (2+(i+1) * (m+1)) (BV (ps.take (i+1)) e1)/\RB (2+(i+1) * (m+1)) (BV (ps.take (i+1)) e2):=by
   intro b5 g a4 b6 f3 _ _ _ o a3 D _ W X G I Y Z b0 J;refine ⟨_,_,_,W,Y,b5,rfl,a4.trans (D.trans (G.trans b0)),(D.trans (G.trans b0)) _ _ b6,f3.keep (D.trans (G.trans b0)),?_,?_,?_,?_⟩
   ·rw [d5];exact I.keep b0
   ·rw [d5];exact J
   ·rw [d5];exact Rb.mono (HB (d2.bd _ j) b1) (by rw [zj];omega)
   ·rw [d5];exact Rb.mono (HB (d2.bd _ j) b2) (by rw [zj];omega)
  cases c3 with
  | gap e=>
   obtain ⟨a5,z,c5,rfl,y,c2,b7⟩:=DV.t2 u;obtain rfl:=c2.str_of;refine ⟨_,rfl,a5,_,_,_,rfl,rfl,y,rfl,rfl,_,rfl,BL (by decide) ?_⟩
   refine ⟨_,rfl,_,.gap e,rfl,u,λ o g a4 L=>?_⟩
   obtain ⟨N,C,O,fs,r,sp,R,S,U,M,t⟩:=Hf (P:=P) (w:=w) (base:=base) T L (a8.keep (up.trans a4)) b1 (d2.bd _ j) c1;refine ⟨_,rfl,N,C,O,fs,r,sp,R,S,U,M,_,rfl,t _ (λ W a3 D I=>?_)⟩
   obtain ⟨N,C,O,fs,r,sp,R,S,U,M,t⟩:=Hf (P:=P) (w:=w) (base:=base) T (L.keep D) (a9.keep (up.trans (a4.trans D))) b2 (d2.bd _ j) c1;refine ⟨_,rfl,N,C,O,fs,r,sp,R,S,U,M,_,rfl,t _ (λ Y X G J=>?_)⟩
   exact c4 vs _ (a6.trans up) (up _ _ a7) (by rw [f2];show DVs K _ vs ((Bg (ps.take i)++[]).map FQ);rw [YY];exact B.keep up) (a8.keep up) (a9.keep up) u o g a4 L W a3 D I Y X G J
  | glass e=>
   obtain ⟨a5,z,c5,rfl,y,c2,b7⟩:=DV.t2 u;obtain rfl:=c2.str_of;refine ⟨_,rfl,a5,_,_,_,rfl,rfl,y,rfl,rfl,_,rfl,BL (by decide) ?_⟩
   refine ⟨_,rfl,_,.glass e,rfl,u,λ o g a4 L=>?_⟩
   obtain ⟨N,C,O,fs,r,sp,R,S,U,M,t⟩:=Hf (P:=P) (w:=w) (base:=base) T L (a8.keep (up.trans a4)) b1 (d2.bd _ j) c1;refine ⟨_,rfl,N,C,O,fs,r,sp,R,S,U,M,_,rfl,t _ (λ W a3 D I=>?_)⟩
   obtain ⟨N,C,O,fs,r,sp,R,S,U,M,t⟩:=Hf (P:=P) (w:=w) (base:=base) T (L.keep D) (a9.keep (up.trans (a4.trans D))) b2 (d2.bd _ j) c1;refine ⟨_,rfl,N,C,O,fs,r,sp,R,S,U,M,_,rfl,t _ (λ Y X G J=>?_)⟩
   exact c4 vs _ (a6.trans up) (up _ _ a7) (by rw [f2];show DVs K _ vs ((Bg (ps.take i)++[]).map FQ);rw [YY];exact B.keep up) (a8.keep up) (a9.keep up) u o g a4 L W a3 D I Y X G J
  | stop lo c6=>
   obtain ⟨a5,z,c5,f4,rfl,y,c2,b7,e5⟩:=DV.t3 u;obtain rfl:=c2.str_of;have c7:=up _ _ a7;have f5:=a8.keep up;have f6:=a9.keep up;have c8:=B.keep up;have e6:=a6.trans up;generalize upd a0 p (.tup [.int i,.ref a5])=g9 at y c2 b7 e5 u c7 f5 f6 c8 e6 ⊢;obtain ⟨h0,f7,j0,rfl,h1,h2,i6⟩:=DV.t2 f5;obtain ⟨h3,t1,t2,rfl,h4,h5,i7⟩:=DV.t2 f6;refine ⟨_,rfl,a5,_,_,_,rfl,rfl,y,rfl,rfl,_,rfl,Bj (by decide) ?_⟩
   refine ⟨_,rfl,.inl ⟨rfl,_,SqL.of c7⟩,?_⟩;refine ⟨_,rfl,_,rfl,h0,_,_,_,rfl,rfl,h1,rfl,_,rfl,h3,_,_,_,rfl,rfl,h4,rfl,_,rfl,a5,_,_,_,rfl,rfl,y,rfl,_,rfl,a5,_,_,_,rfl,rfl,y,rfl,(by show 5<=Y3;decide),λ t5 e7=>?_⟩
   have h6:DV K (upd g9 t5 (.tup [.int i,f7,t1,c5,f4])) (.ref t5) (FQ ⟨i,(BV (ps.take i) e1).1,(BV (ps.take i) e2).1,lo,c6⟩):=DV.upd5 e7 (.int _) h2 h5 b7 e5;have b3:=Am e7 (.tup [.int i,f7,t1,c5,f4]);generalize upd g9 t5 (.tup [.int i,f7,t1,c5,f4])=g at h6 b3 ⊢;have b6:=b3 _ _ c7;refine ⟨l,vs,_,rfl,rfl,b6,small1000 (by omega),?_⟩
   have d6:=HW b6 (.lst (vs++[.ref t5]));have h7:Same H (upd g l (.lst (vs++[.ref t5]))):=λ b o e=>by
    rw [BK (Bt e g3)];exact (e6.trans b3) _ _ e
   have e8:DVs K (upd g l (.lst (vs++[.ref t5]))) (vs++[.ref t5]) ((Bg (ps.take (i+1))).map FQ):=by
    rw [f2,U4];exact Cv d6 (by rw [<- U4];exact DY uL _) ((c8.keep b3).append (.cons h6 .nil))
   have c9:DV K (upd g l (.lst (vs++[.ref t5]))) (.ref h0) (BX (BV (ps.take i) e1)):=Fg d6 (G5 _) (f5.keep b3);have d0:DV K (upd g l (.lst (vs++[.ref t5]))) (.ref h3) (BX (BV (ps.take i) e2)):=Fg d6 (G5 _) (f6.keep b3);have d1:DV K (upd g l (.lst (vs++[.ref t5]))) (.ref a5) (CV (.stop lo c6)):=Fg d6 (KD _) (u.keep b3);have e9:upd g l (.lst (vs++[.ref t5])) l=some (.lst (vs++[.ref t5])):=Ar;generalize upd g l (.lst (vs++[.ref t5]))=a3 at h7 e8 c9 d0 d1 e9 ⊢;refine ⟨_,rfl,_,.stop lo c6,rfl,d1,λ o X G L=>?_⟩
   obtain ⟨N,C,O,fs,r,sp,R,S,U,M,t⟩:=Hf (P:=P) (w:=w) (base:=base) T L (c9.keep G) b1 (d2.bd _ j) c1;refine ⟨_,rfl,N,C,O,fs,r,sp,R,S,U,M,_,rfl,t _ (λ W Z b0 I=>?_)⟩
   obtain ⟨N,C,O,fs,r,sp,R,S,U,M,t⟩:=Hf (P:=P) (w:=w) (base:=base) T (L.keep b0) (d0.keep (G.trans b0)) b2 (d2.bd _ j) c1;refine ⟨_,rfl,N,C,O,fs,r,sp,R,S,U,M,_,rfl,t _ (λ Y i3 i4 J=>?_)⟩
   exact c4 _ _ h7 e9 e8 c9 d0 d1 o X G L W Z b0 I Y i3 i4 J
 ·rintro d4 a0 ⟨b8,b9,c0,a1,a2,vs,rfl,a6,a7,B,_⟩
  rw [hl,YU] at B;exact ⟨_,rfl,q l vs _ a6 g3 a7 B⟩
theorem pO (T:Txt K mg ad):CalB P w K mg base true 3 "is_stretch" ["first","last"] (PR K mZ):=by
 refine T.Xr.calN uv (λ _ _ _ _ _ _=>Bm λ _ _=>rfl) (λ vs H Q E h=>?_) (λ f l A outer s H vs Q E a h=>?_)
 ·obtain ⟨_,_,dv,⟨_,_,rfl,_⟩,_⟩:=h;exact dv.len
 obtain ⟨_,_,dv,⟨p,q,rfl,sp,g,ord,rfl⟩,k⟩:=h;obtain ⟨x,y,rfl,d,e⟩:=dv.two;refine ⟨_,(Ak (Av (Gw (Ai (QG T) a.m Ah (Ad (pv 0) Aa)) (Gw (Ai (QG T) a.m Ah (Ad (pv 1) Aa)) (Ga (Jq (Ai (Hv T) a.m Ah (Ad (pv 1) (Ad (pv 0) Aa))))))))),?_⟩
 refine ⟨_,rfl,_,_,rfl,d,_,rfl,iteT ?_⟩;refine ⟨_,rfl,_,_,rfl,e,_,rfl,iteT ?_⟩;refine ⟨_,rfl,_,rfl,_,_,.cons e (.cons d .nil),⟨_,_,rfl,g,sp,rfl⟩,λ b n i j=>?_⟩
 obtain rfl:=j.bl_of;rw [decide_eq_false (show ¬ q < p by grind)]
 exact ⟨_,rfl,k _ _ i (.bl _)⟩
theorem rB (T:Txt K mg ad):CalB P w K mg base true 4 "is_box" ["thing"] (PR K nU):=by
 refine T.W2.calN wg (λ _ _ _ _ _ _=>by1 λ _=>rfl) (λ vs H Q E h=>?_) (λ f z A outer s H vs Q E o h=>?_)
 ·obtain ⟨_,_,dv,⟨_,_,rfl,_⟩,_⟩:=h;exact dv.len
 obtain ⟨_,_,dv,⟨x,n,rfl,ok,bd,e,rfl⟩,k⟩:=h;obtain ⟨_,rfl,p⟩:=dv.one;obtain ⟨a,B,C,D,F,rfl,g,q,r,t,u⟩:=DV.t4b p;refine ⟨_,(Ag (BP (PW.pt (pw_or (CQ (Bk (Br Fv rfl T.isinstance Fb (Ad (pv 0) (Ad (Fo (v:=.ty "tuple") rfl T.tuple Mq rfl) Aa))))) (pw_or1 (BW Ey (Br DX rfl T.len DG (Ad (pv 0) Aa)) Ac)))) (Ak (Av Cu)) BR) (Ak (Av (Gw (Ai (pO T) o.m Ah (Ao (Ae Al (pv 0) Ac) (Ao (Ae Al (pv 0) Ac) Aa))) (Ga (Ai (pO T) o.m Ah (Ao (Ae Al (pv 0) Ac) (Ao (Ae Al (pv 0) Ac) Aa)))))))),?_⟩
 refine ⟨_,rfl,_,_,_,_,rfl,p,Qt _,_,rfl,iteF ?_⟩;refine ⟨_,rfl,a,_,rfl,.inr g,rfl,_,rfl,iteF ?_⟩;refine ⟨_,rfl,a,_,_,_,rfl,rfl,g,rfl,_,rfl,a,_,_,_,rfl,rfl,g,rfl,_,_,.cons q (.cons r .nil),⟨_,_,rfl,bd.a.sm e,bd.b.sm e,ok.h,rfl⟩,λ b G i l=>?_⟩
 obtain rfl:=l.bl_of;refine ⟨_,rfl,iteT ?_⟩;have j:=g.keep i;refine ⟨_,rfl,a,_,_,_,rfl,rfl,j,rfl,_,rfl,a,_,_,_,rfl,rfl,j,rfl,_,_,.cons (t.keep i) (.cons (u.keep i) .nil),⟨_,_,rfl,bd.c.sm e,bd.d.sm e,ok.s,rfl⟩,λ b I y l=>?_⟩
 exact k _ _ (i.trans y) l
theorem AK7 (T:Txt K mg ad):CalB P w K mg base true 5 "look_at_box" ["box"] (PR K dU):=by
 refine T.UV.calN yM (λ _ _ _ _ _ _=>by1 λ _=>rfl) (λ vs H Q E h=>?_) (λ f j A outer s H vs Q E a h=>?_)
 ·obtain ⟨_,_,dv,⟨_,_,rfl,_⟩,_⟩:=h;exact dv.len
 obtain ⟨_,_,dv,⟨x,n,rfl,ok,bd,d,rfl⟩,k⟩:=h;obtain ⟨_,rfl,e⟩:=dv.one;refine ⟨_,(Ak (BP (CQ (Bk (Ai (rB T) a.m Ah (Ad (pv 0) Aa)))) (Ak DR) BR)),?_⟩
 refine ⟨_,rfl,_,_,.cons e .nil,⟨_,_,rfl,ok,bd,d,rfl⟩,λ b l g i=>?_⟩
 obtain rfl:=i.bl_of;exact ⟨_,rfl,iteF (k _ _ g .non)⟩
theorem xG (T:Txt K mg ad):CalB P w K mg base true 2 "corners_of" ["box"] (PR K dY):=by
 refine T.U7.calN VL (λ _ _ _ _ _ _=>by1 λ _=>rfl) (λ vs H Q E h=>?_) (λ f c7 A outer s H vs Q E c5 h=>?_)
 ·obtain ⟨_,_,dv,⟨_,rfl,_⟩,_⟩:=h;exact dv.len
 obtain ⟨_,_,dv,⟨x,rfl,rfl⟩,k⟩:=h;obtain ⟨_,rfl,c6⟩:=dv.one;obtain ⟨a,D,G,I,J,rfl,U,b4,b5,b6,b7⟩:=DV.t4b c6;refine ⟨_,(Ag (Ax (i:=1) VL.nd (CN Aa)) (Ag (Df YI rfl (Dc (CN (Ez (Bp (Ao (Ae Al (pv 0) Ac) (Ao (Ae Al (pv 0) Ac) Aa))) (Ez (Bp (Ao (Ae Al (pv 0) Ac) (Ao (Ae Al (pv 0) Ac) Aa))) (Ez (Bp (Ao (Ae Al (pv 0) Ac) (Ao (Ae Al (pv 0) Ac) Aa))) (Ez (Bp (Ao (Ae Al (pv 0) Ac) (Ao (Ae Al (pv 0) Ac) Aa))) Aa)))))) (Bq (i:=2) VL.nd) (Ak (BP (BW (gR c5.units) (pv 2) (pv 1)) (Ak (DQ (Ce Xq Xt Xx Fy (pv 1) (Ad (pv 2) Aa)))) BR))) (Ak (Av (pv 1))))),?_⟩;refine ⟨(by show 0<=Y3;decide),λ l b8=>?_⟩
 have u0:=Am b8 (.lst []);have M:upd H l (.lst []) l=some (.lst []):=Ar;generalize upd H l (.lst [])=b9 at u0 M ⊢;have a4:=U.keep u0;refine ⟨_,rfl,a,_,_,_,rfl,rfl,a4,rfl,_,rfl,a,_,_,_,rfl,rfl,a4,rfl,(by show 2<=Y3;decide),λ j Y=>?_⟩
 have a5:DV K (upd b9 j (.tup [D,I])) (.ref j) (BX (x.a,x.c)):=DV.upd2 Y (b4.keep u0) (b6.keep u0);have N:=Am Y (.tup [D,I]);generalize upd b9 j (.tup [D,I])=c0 at a5 N ⊢;have t1:=u0.trans N;have a6:=U.keep t1;refine ⟨_,rfl,a,_,_,_,rfl,rfl,a6,rfl,_,rfl,a,_,_,_,rfl,rfl,a6,rfl,(by show 2<=Y3;decide),λ m Z=>?_⟩
 have a7:DV K (upd c0 m (.tup [G,I])) (.ref m) (BX (x.b,x.c)):=DV.upd2 Z (b5.keep t1) (b6.keep t1);have L:=Am Z (.tup [G,I]);generalize upd c0 m (.tup [G,I])=c1 at a7 L ⊢;have t2:=t1.trans L;have a8:=U.keep t2;refine ⟨_,rfl,a,_,_,_,rfl,rfl,a8,rfl,_,rfl,a,_,_,_,rfl,rfl,a8,rfl,(by show 2<=Y3;decide),λ n a0=>?_⟩
 have a9:DV K (upd c1 n (.tup [G,J])) (.ref n) (BX (x.b,x.d)):=DV.upd2 a0 (b5.keep t2) (b7.keep t2);have z:=Am a0 (.tup [G,J]);generalize upd c1 n (.tup [G,J])=c2 at a9 z ⊢;have t3:=t2.trans z;have b0:=U.keep t3;refine ⟨_,rfl,a,_,_,_,rfl,rfl,b0,rfl,_,rfl,a,_,_,_,rfl,rfl,b0,rfl,(by show 2<=Y3;decide),λ p a1=>?_⟩
 have b1:DV K (upd c2 p (.tup [D,J])) (.ref p) (BX (x.a,x.d)):=DV.upd2 a1 (b4.keep t3) (b7.keep t3);have t:=Am a1 (.tup [D,J]);generalize upd c2 p (.tup [D,J])=b2 at b1 t ⊢;refine ⟨(by show 4<=Y3;decide),λ u O=>?_⟩
 have B:=Am O (.lst [.ref j,.ref m,.ref n,.ref p]);have C:upd b2 u (.lst [.ref j,.ref m,.ref n,.ref p]) u=some (.lst [.ref j,.ref m,.ref n,.ref p]):=Ar;have g:DVs K (upd b2 u (.lst [.ref j,.ref m,.ref n,.ref p])) [.ref j,.ref m,.ref n,.ref p] (x.four.map BX):=.cons (a5.keep (L.trans (z.trans (t.trans B)))) (.cons (a7.keep (z.trans (t.trans B))) (.cons (a9.keep (t.trans B)) (.cons (b1.keep B) .nil)));have a2:=(N.trans (L.trans (z.trans (t.trans B)))) _ _ M;have t5:=t3.trans (t.trans B);have np:u≠l:=λ e=>by rw [e,(N.trans (L.trans (z.trans t))) _ _ M] at O;cases O
 generalize upd b2 u (.lst [.ref j,.ref m,.ref n,.ref p])=d0 at C g a2 t5 ⊢;clear u0 N L z t B t1 t2 t3 a4 a6 a8 b0 a5 a7 a9 b1;refine ⟨u,rfl,⟨_,SqL.of C⟩,?_⟩;refine G6 (K:=K) (a:=u) (xs:=[.ref j,.ref m,.ref n,.ref p]) (λ i V v=>∃W vs,V=[some (.ref a),some (.ref l),W]/\Same H v/\v u=some (.lst [.ref j,.ref m,.ref n,.ref p])/\DVs K v [.ref j,.ref m,.ref n,.ref p] (x.four.map BX)/\v l=some (.lst vs)/\DVs K v vs ((FN x.four i).map BX)) ⟨_,[],rfl,t5,C,g,a2,.nil⟩ ?_ ?_ ?_
 ·rintro i V v hi ⟨W,vs,rfl,R,S,_⟩
  exact SqL.of S
 ·rintro i y V v hi ⟨W,vs,rfl,R,S,g,q,r⟩
  obtain ⟨d,hd,c3⟩:=g.get hi;obtain ⟨b3,a3,rfl⟩:=Yi hd;have c8:=aR x.four i;have c9:i < 4:=CT hi;have d1:vs.length=(FN x.four i).length:=by have:=r.len;rw [Y2] at this;exact this
  refine ⟨_,rfl,_,rfl,l,vs,_,_,rfl,SqL.of q,c3,r,rfl,(by show (BX b3).depth<=60;exact Zo (Ul b3).d (by decide)),di _,_,rfl,?_⟩
  rw [jT,cM];by_cases X:b3∈FN x.four i
  ·refine BL (by rw [decide_eq_true X];rfl) ?_
   exact ⟨_,vs,rfl,R,S,g,q,by rw [Xn a3,if_pos X];exact r⟩
  ·refine Bj (by rw [decide_eq_false X];rfl) ?_
   refine ⟨_,rfl,.inl ⟨rfl,_,SqL.of q⟩,?_⟩;refine ⟨_,rfl,l,vs,_,rfl,rfl,q,small1000 (by omega),?_⟩
   have c4:=HW q (.lst (vs++[y]));refine ⟨_,vs++[y],rfl,?_,?_,?_,Ar,?_⟩
   ·intro b o e;rw [BK (Bt e b8)];exact R _ _ e
   ·rw [BK np];exact S
   ·exact Cv c4 (DY G5 _) g
   ·rw [Xn a3,if_neg X,U4];exact Cv c4 (by rw [<- U4];exact DY G5 _) (r.append (.cons c3 .nil))
 ·rintro V v ⟨W,vs,rfl,R,S,g,q,r⟩
  refine ⟨_,rfl,k _ _ R ?_⟩;have e:Dz x=FN x.four 4:=(AG3 x.four).symm;rw [e];exact .lst (SqL.of q) r
theorem AT3 (T:Txt K mg ad):CalB P w K mg base true 4 "edges_of" ["limit"] (PR K du):=by
 refine T.Xz.calN Ku (λ _ _ _ _ _ _=>by1 λ _=>rfl) (λ vs H Q E h=>?_) (λ f a2 A outer s H vs Q E p h=>?_)
 ·obtain ⟨_,_,dv,⟨_,_,_,rfl,_⟩,_⟩:=h;exact dv.len
 obtain ⟨_,_,dv,⟨l,n,M,rfl,lb,G,Y,rfl⟩,k⟩:=h;obtain ⟨_,rfl,Z⟩:=dv.one;obtain ⟨a,q,r,a3,t,rfl,d,I,J,a0,a1⟩:=DV.t5 Z;have z0:Sm (0:Rat):=(⟨by decide+kernel,by decide+kernel⟩:Bd 1 (0:Rat)).sm (by decide)
 refine ⟨_,(Ag (Ax (i:=1) Ku.nd (Ae Al (pv 0) Ac)) (Ag (Ax (i:=2) Ku.nd (Ae Al (pv 0) Ac)) (Ag (Ax (i:=3) Ku.nd (Bp (Ad (pv 1) (Ad (pv 2) (Bc (Ai (Ho T) p.m Ah (Ad (Bl (v:=.ref ad.NOUGHT) rfl T.ex.m_NOUGHT rfl) (Ao (Ae Al (pv 0) Ac) Aa))) Aa))))) (Ag (Ax (i:=4) Ku.nd (Bp (Bc (Ai (Ho T) p.m Ah (Ad (Bl (v:=.ref ad.NOUGHT) rfl T.ex.m_NOUGHT rfl) (Ad (pv 1) Aa))) (Bc (Ai (Ho T) p.m Ah (Ad (Bl (v:=.ref ad.NOUGHT) rfl T.ex.m_NOUGHT rfl) (Ad (pv 2) Aa))) (Ao (Ae Al (pv 0) Ac) Aa))))) (Ak (Av (CN (Ad (pv 3) (Ad (pv 4) Aa))))))))),?_⟩
 refine ⟨_,rfl,a,_,_,_,rfl,rfl,d,rfl,_,rfl,a,_,_,_,rfl,rfl,d,rfl,?_⟩;refine ⟨_,rfl,_,rfl,_,rfl,a,_,_,_,rfl,rfl,d,rfl,_,_,.cons (dN T _) (.cons a0 .nil),⟨0,_,rfl,z0,lb.lo.sm Y,rfl⟩,λ u L x N=>?_⟩
 refine ⟨(by show 3<=Y3;decide),λ e j=>?_⟩
 have O:DV K (upd L e (.tup [q,r,u])) (.ref e) (J8 (HJ l)):=DV.upd3 j (I.keep x) (J.keep x) N;have R:=Am j (.tup [q,r,u]);generalize upd L e (.tup [q,r,u])=a4 at O R ⊢;have t2:=x.trans R;refine ⟨_,rfl,_,_,.cons (dN T _) (.cons (I.keep t2) .nil),⟨0,_,rfl,z0,lb.a.sm G,rfl⟩,λ y a5 z S=>?_⟩
 refine ⟨_,rfl,_,_,.cons (dN T _) (.cons (J.keep (t2.trans z)) .nil),⟨0,_,rfl,z0,lb.b.sm G,rfl⟩,λ B U C V=>?_⟩
 have t4:=t2.trans (z.trans C);refine ⟨_,rfl,a,_,_,_,rfl,rfl,d.keep t4,rfl,(by show 3<=Y3;decide),λ g o=>?_⟩
 have W:DV K (upd U g (.tup [y,B,t])) (.ref g) (J8 (Ik l)):=DV.upd3 o (S.keep C) V (a1.keep t4);have D:=Am o (.tup [y,B,t]);generalize upd U g (.tup [y,B,t])=a6 at W D ⊢;refine ⟨_,rfl,_,rfl,(by show 2<=Y3;decide),λ a7 X=>?_⟩
 have F:=Am X (.lst [.ref e,.ref g]);refine k _ _ (t4.trans (D.trans F)) (.lst (SqL.of Ar) (.cons (O.keep (z.trans (C.trans (D.trans F)))) (.cons (W.keep F) .nil)))
theorem AX3 (T:Txt K mg ad):CalB P w K mg base true 4 "room_at" ["edge","ray"] (PR K qN):=by
 refine T.U3.calN AO3 (λ _ _ _ _ _ _=>Bm λ _ _=>rfl) (λ vs H Q E h=>?_) (λ f L A outer s H vs Q E i h=>?_)
 ·obtain ⟨_,_,dv,⟨_,_,_,_,_,rfl,_⟩,_⟩:=h;exact dv.len
 obtain ⟨_,_,dv,⟨e,r,n,M,c,rfl,d,rb,N,rfl⟩,k⟩:=h;obtain ⟨_,_,rfl,x,z⟩:=dv.two;obtain ⟨a,O,R,S,rfl,j,B,C,D⟩:=DV.t3e x;obtain ⟨b,U,V,rfl,l,F,G⟩:=DV.t2 z;refine ⟨_,(Ak (Av (Ai (JN T) i.m Ah (Bc (Ai (JN T) i.m Ah (Bc (Ai (HF T) i.m Ah (Ao (Ae Al (pv 0) Ac) (Ao (Ae Al (pv 1) Ac) Aa))) (Bc (Ai (HF T) i.m Ah (Ao (Ae Al (pv 0) Ac) (Ao (Ae Al (pv 1) Ac) Aa))) Aa))) (Ao (Ae Al (pv 0) Ac) Aa))))),?_⟩
 refine ⟨_,rfl,a,_,_,_,rfl,rfl,j,rfl,_,rfl,b,_,_,_,rfl,rfl,l,rfl,_,_,.cons B (.cons F .nil),⟨_,_,rfl,d.a.sm (by omega),rb.y.sm (by omega),rfl⟩,λ W X g o=>?_⟩
 refine ⟨_,rfl,a,_,_,_,rfl,rfl,j.keep g,rfl,_,rfl,b,_,_,_,rfl,rfl,l.keep g,rfl,_,_,.cons (C.keep g) (.cons (G.keep g) .nil),⟨_,_,rfl,d.b.sm (by omega),rb.u.sm (by omega),rfl⟩,λ Y Z p q=>?_⟩
 have e1:=d.a.mul rb.y;have e2:=d.b.mul rb.u;refine ⟨_,_,.cons (o.keep p) (.cons q .nil),⟨_,_,rfl,e1.sm (by omega),e2.sm (by omega),rfl⟩,λ a0 a1 I t=>?_⟩
 have t3:=g.trans (p.trans I);refine ⟨_,rfl,a,_,_,_,rfl,rfl,j.keep t3,rfl,_,_,.cons t (.cons (D.keep t3) .nil),⟨_,_,rfl,(e1.add e2).sm (by omega),d.c.sm (by omega),rfl⟩,λ a2 a3 J v=>?_⟩
 exact k _ _ (t3.trans J) v
theorem AN4 (T:Txt K mg ad):CalB P w K mg base true 4 "crossing_of" ["one","other","one_room","other_room"] (PR K pN):=by
 refine T.T4.calN Qn (λ _ _ _ _ _ _=>by4 λ _ _ _ _=>rfl) (λ vs H Q E h=>?_) (λ f a6 A outer s H vs Q E d h=>?_)
 ·obtain ⟨_,_,dv,⟨_,_,_,_,_,_,rfl,_⟩,_⟩:=h;exact dv.len
 obtain ⟨_,_,dv,⟨p,q,x,y,c,n,rfl,pb,e,g,z,l,a7,rfl⟩,k⟩:=h;obtain ⟨_,_,a8,ry,rfl,a0,a1,B,a2⟩:=dv.four;obtain ⟨a,a9,b0,rfl,j,C,D⟩:=DV.t2 a0;obtain ⟨b,b1,b2,rfl,F,a3,a4⟩:=DV.t2 a1;refine ⟨_,(Ag (Ax (i:=4) Qn.nd (Ai (Kp T) d.m Ah (Ad (pv 2) (Bc (Ai (Ho T) d.m Ah (Ad (pv 2) (Ad (pv 3) Aa))) Aa)))) (Ag (Ax (i:=5) Qn.nd (Ai (JN T) d.m Ah (Ao (Ae Al (pv 0) Ac) (Bc (Ai (HF T) d.m Ah (Ad (pv 4) (Bc (Ai (Ho T) d.m Ah (Ao (Ae Al (pv 1) Ac) (Ao (Ae Al (pv 0) Ac) Aa))) Aa))) Aa)))) (Ag (Ax (i:=6) Qn.nd (Ai (JN T) d.m Ah (Ao (Ae Al (pv 0) Ac) (Bc (Ai (HF T) d.m Ah (Ad (pv 4) (Bc (Ai (Ho T) d.m Ah (Ao (Ae Al (pv 1) Ac) (Ao (Ae Al (pv 0) Ac) Aa))) Aa))) Aa)))) (Ak (Av (Bp (Ad (pv 5) (Ad (pv 6) Aa)))))))),?_⟩
 refine ⟨_,rfl,_,rfl,_,rfl,_,_,.cons B (.cons a2 .nil),⟨_,_,rfl,g.sm (by omega),z.sm (by omega),rfl⟩,λ b3 b4 G I=>?_⟩
 have e1:=g.sub z;refine ⟨_,_,.cons (B.keep G) (.cons I .nil),⟨_,_,rfl,g.sm (by omega),e1.sm (by omega),l,rfl⟩,λ b5 b6 a5 o=>?_⟩
 have e2:=g.div e1 l;have t2:=G.trans a5;refine ⟨_,rfl,a,_,_,_,rfl,rfl,j.keep t2,rfl,_,rfl,_,rfl,b,_,_,_,rfl,rfl,F.keep t2,rfl,_,rfl,a,_,_,_,rfl,rfl,j.keep t2,rfl,_,_,.cons (a3.keep t2) (.cons (C.keep t2) .nil),⟨_,_,rfl,e.y.sm (by omega),pb.y.sm (by omega),rfl⟩,λ b7 b8 t J=>?_⟩
 have L:=e.y.sub pb.y;refine ⟨_,_,.cons (o.keep t) (.cons J .nil),⟨_,_,rfl,e2.sm (by omega),L.sm (by omega),rfl⟩,λ b9 c0 M N=>?_⟩
 have t4:=t2.trans (t.trans M);refine ⟨_,_,.cons (C.keep t4) (.cons N .nil),⟨_,_,rfl,pb.y.sm (by omega),(e2.mul L).sm (by omega),rfl⟩,λ c1 c2 O R=>?_⟩
 have t5:=t4.trans O;refine ⟨_,rfl,a,_,_,_,rfl,rfl,j.keep t5,rfl,_,rfl,_,rfl,b,_,_,_,rfl,rfl,F.keep t5,rfl,_,rfl,a,_,_,_,rfl,rfl,j.keep t5,rfl,_,_,.cons (a4.keep t5) (.cons (D.keep t5) .nil),⟨_,_,rfl,e.u.sm (by omega),pb.u.sm (by omega),rfl⟩,λ c3 c4 v S=>?_⟩
 have U:=e.u.sub pb.u;refine ⟨_,_,.cons (o.keep (t.trans (M.trans (O.trans v)))) (.cons S .nil),⟨_,_,rfl,e2.sm (by omega),U.sm (by omega),rfl⟩,λ c5 c6 V W=>?_⟩
 have X:=t5.trans (v.trans V);refine ⟨_,_,.cons (D.keep X) (.cons W .nil),⟨_,_,rfl,pb.u.sm (by omega),(e2.mul U).sm (by omega),rfl⟩,λ c7 c8 Y Z=>?_⟩
 refine ⟨_,rfl,_,rfl,(by show 2<=Y3;decide),λ c9 r=>?_⟩
 exact k _ _ (X.trans (Y.trans (Am r _))) (DV.upd2 r (R.keep (v.trans (V.trans Y))) Z)
theorem AJ6 (T:Txt K mg ad):CalB P w K mg base true 2 "is_before" ["one","other"] (PR K fu):=by
 refine T.U5.calN rQ (λ _ _ _ _ _ _=>Bm λ _ _=>rfl) (λ vs H Q E h=>?_) (λ f D A outer s H vs Q E o h=>?_)
 ·obtain ⟨_,_,dv,⟨_,_,_,rfl,_⟩,_⟩:=h;exact dv.len
 obtain ⟨_,_,dv,⟨d,g,n,rfl,b1,b2,i,rfl⟩,k⟩:=h;obtain ⟨_,_,rfl,z,B⟩:=dv.two;obtain ⟨a,F,G,rfl,p,j,t⟩:=DV.t2 z;obtain ⟨b,I,J,rfl,q,l,x⟩:=DV.t2 B;refine ⟨_,(Ag (BP (BW (vI o.units) (Ae Al (pv 0) Ac) (Ae Al (pv 1) Ac)) (Ak (Av (Ai (Hv T) o.m Ah (Ao (Ae Al (pv 0) Ac) (Ao (Ae Al (pv 1) Ac) Aa))))) BR) (Ak (Av (Ai (Hv T) o.m Ah (Ao (Ae Al (pv 0) Ac) (Ao (Ae Al (pv 1) Ac) Aa)))))),?_⟩
 refine ⟨_,rfl,a,_,_,_,rfl,rfl,p,rfl,_,rfl,b,_,_,_,rfl,rfl,q,rfl,Af7 j l ⟨_,rfl,?_⟩⟩;by_cases e:d.1=g.1
 ·refine BL (by rw [decide_eq_true e];rfl) ?_
  refine ⟨_,rfl,a,_,_,_,rfl,rfl,p,rfl,_,rfl,b,_,_,_,rfl,rfl,q,rfl,_,_,.cons t (.cons x .nil),⟨_,_,rfl,b1.u.sm i,b2.u.sm i,rfl⟩,λ v C r hv=>?_⟩
  refine k _ _ r ?_;have e2:JS d g=decide (d.2 < g.2):=by unfold JS;rw [if_pos e]
  rw [e2];exact hv
 ·refine Bj (by rw [decide_eq_false e];rfl) ?_
  refine ⟨_,rfl,a,_,_,_,rfl,rfl,p,rfl,_,rfl,b,_,_,_,rfl,rfl,q,rfl,_,_,.cons j (.cons l .nil),⟨_,_,rfl,b1.y.sm i,b2.y.sm i,rfl⟩,λ v C r hv=>?_⟩
  refine k _ _ r ?_;have e2:JS d g=decide (d.1 < g.1):=by unfold JS;rw [if_neg e]
  rw [e2];exact hv
theorem zG (T:Txt K mg ad):CalB P w K mg base true 5 "cut_by" ["edge","corners"] (PR K f9):=by
 refine T.Yr.calN JH (λ _ _ _ _ _ _=>Bm λ _ _=>rfl) (λ vs H Q E h=>?_) (λ f g4 A outer s H vs Q E e0 h=>?_)
 ·obtain ⟨_,_,dv,⟨_,_,_,_,_,rfl,_⟩,_⟩:=h;exact dv.len
 obtain ⟨_,_,dv,⟨e,ps,n,M,c,rfl,a7,pb,e8,g5,rfl⟩,k⟩:=h;obtain ⟨e9,_,rfl,f7,a0⟩:=dv.two;obtain ⟨a,xs,rfl,c3,b2⟩:=DV.lst_of a0;have hl:xs.length=ps.length:=by have:=b2.len;rw [Y2] at this;exact this
 refine ⟨_,(Ag (Wq (i:=2) JH.nd rfl (by walk_at "o") ["corner","edge"] [none,some 0] rfl (Dc (pv 1)) (λ _ _ _ _ _ _=>(Bq (i:=0) (show UB [("corner":Str),("edge":Str)] by decide))) (λ _ _ _ _ _ _=>Fd) (λ _ _ _ _ _ _=>(Ai (AX3 T) e0.m Ah (Ad (pv 1) (Ad (pv 0) Aa)))) (Pg (hcell:=by decide) (hf:=(show ∀y:Str×UM,y∈_->y.2=zt->(defScope R8).names.lookup y.1=some GQ by decide))) (by decide) rfl (by decide) rfl (λ i j h=>by
   rcases i with _ | _ | i
   ·simp at h
   ·simp at h;subst h;exact ⟨_,rfl,rfl,rfl,rfl⟩
   ·simp at h)) (Ag (Ax (i:=3) JH.nd (CN Aa)) (Ag (Df YI rfl (N8 rfl T.enumerate (Ad (pv 1) Aa)) (K4 (n:=2) rfl (Du (Bq (i:=4) JH.nd) (Du (Bq (i:=5) JH.nd) Gp))) (Ag (Ax (i:=6) JH.nd (Aw GR (pv 4) Ac)) (Ag (BP (BW GX (Aw Dj (Ae Al (Ae Az (pv 2) (pv 6)) Ac) (Ae Al (Ae Az (pv 2) (pv 4)) Ac)) Ac) (Ag (Ax (i:=7) JH.nd (Ai (AN4 T) e0.m Ah (Ao (Ae Az (pv 1) (pv 6)) (Ad (pv 5) (Ao (Ae Az (pv 2) (pv 6)) (Ao (Ae Az (pv 2) (pv 4)) Aa)))))) (Ak (BP (BW (gR e0.units) (pv 7) (pv 3)) (Ak (DQ (Ce Xq Xt Xx Fy (pv 3) (Ad (pv 7) Aa)))) BR))) BR) (Ak (BP (BW X8 (Ae Al (Ae Az (pv 2) (pv 4)) Ac) Ac) (Ak (DQ (Ce Xq Xt Xx Fy (pv 3) (Ad (pv 5) Aa)))) BR))))) (Ak (Av (pv 3)))))),?_⟩
 refine ⟨_,rfl,a,rfl,⟨_,c3⟩,?_⟩;refine Io (K:=K) (a:=a) (xs:=xs) (λ i a2 e1 L=>∃c0,a2=[c0,some e9]/\Same H L/\DVs K L e1 (((ps.take i).map (Af e)).map Aj)) ⟨_,rfl,Same.refl _,.nil⟩ ?_ ?_ ?_
 ·rintro i a2 e1 L hi ⟨c0,rfl,a8,c4⟩
  refine ⟨XT (small1000 ?_),c3.keep a8⟩;have:=c4.len;rw [Y2,Y2,YR] at this;omega
 ·rintro i x a2 e1 L hi ⟨c0,rfl,a8,c4⟩
  obtain ⟨d,hd,a0⟩:=b2.get hi;obtain ⟨g9,d7,rfl⟩:=Yi hd;have f8:=pb _ (ZB d7);refine ⟨_,rfl,_,rfl,_,_,.cons (f7.keep a8) (.cons (a0.keep a8) .nil),⟨_,_,n,M,c,rfl,a7,f8,by omega,rfl⟩,λ v e2 b9 hv=>?_⟩
  refine nx (CT hi) ⟨_,rfl,a8.trans b9,?_⟩;rw [Xe,d7,U4,U4];exact (c4.keep b9).append (.cons hv .nil)
 rintro g6 a1 f0 N ⟨c0,rfl,a8,c5⟩ f1
 rw [hl,YU] at c5;have e3:=Am f1 (.lst a1);have b3:upd f0 N (.lst a1) N=some (.lst a1):=Ar;have c6:=c5.keep e3;have b9:=a8.trans e3;generalize upd f0 N (.lst a1)=e2 at e3 b3 c6 b9 ⊢;have g7:a1.length=ps.length:=by have:=c5.len;rw [Y2,Y2] at this;exact this
 refine ⟨(by show 0<=Y3;decide),λ l e4=>?_⟩
 have d1:=Am e4 (.lst []);have d8:upd e2 l (.lst []) l=some (.lst []):=Ar;have c7:=d1 _ _ b3;have c8:=c6.keep d1;have e5:=b9.trans d1;have b4:H l=none:=b9.free e4;have b5:N≠l:=λ e=>by rw [e,e4] at b3;cases b3
 generalize upd e2 l (.lst [])=h0 at d1 d8 c7 c8 e5 ⊢;refine ⟨_,rfl,a,rfl,⟨_,c3.keep e5⟩,?_⟩;refine Le (K:=K) (a:=a) (xs:=xs) (λ i a2 L=>∃d2 d3 d4 d5 vs,a2=[some e9,some (.ref a),some (.ref N),some (.ref l),d2,d3,d4,d5]/\Same H L/\L N=some (.lst a1)/\DVs K L a1 ((ps.map (Af e)).map Aj)/\L l=some (.lst vs)/\DVs K L vs ((Ge e ps i).map BX)) ⟨_,_,_,_,[],rfl,e5,c7,c8,d8,.nil⟩ ?_ ?_ ?_
 ·rintro i a2 L hi ⟨d2,d3,d4,d5,vs,rfl,c1,_⟩
  exact c3.keep c1
 ·rintro i x a2 L p hi ⟨d2,d3,d4,d5,vs,rfl,c1,a9,b0,b6,Y⟩ g0
  have g8:=CT hi;have up:=Am g0 (.tup [.int i,x]);obtain ⟨g1,f2,Z⟩:=AZ5 b2 (i:=i) (by omega)
  obtain ⟨h1,f3,U⟩:=LK b2 (i:=i) (by omega)
  cases hi.symm.trans f3
  have f4:vs.length<=2 * i:=by
   have g2:=Y.len;rw [Y2] at g2;have h2:=AJ4 e ps i;omega
  have e6:=pb _ (AX4 (cs:=ps) (i:=i) (by omega))
  have e7:=pb _ (M3 (cs:=ps) (i:=i) (by omega))
  refine ⟨p,_,rfl,SqT.of Ar,rfl,_,_,rfl,_,_,rfl,rfl,?_⟩;have c2:=c1.trans up;have B:=up _ _ a9;have G:=b0.keep up;have V:=up _ _ b6;have W:=Y.keep up;have Z:=Z.keep c2;have U:=U.keep c2;generalize upd L p (.tup [.int i,x])=h3 at c2 B G V W Z U ⊢;clear up a9 b0 b6 Y c1;obtain ⟨h4,d9,b7⟩:=zT G (i:=i) (by omega)
  obtain ⟨h5,a3,b8⟩:=X3 G (i:=i) (by omega)
  obtain ⟨g3,rfl,c9⟩:=aN b7;obtain ⟨d0,rfl,a4⟩:=aN b8;have f5:Bd (2 * (c+n)+M+2) (Af e (Et ps i)):=(((a7.a.mul e6.y).add (a7.b.mul e6.u)).add a7.c).mono (by omega)
  have b1:Bd (2 * (c+n)+M+2) (Af e (Cg ps i)):=(((a7.a.mul e7.y).add (a7.b.mul e7.u)).add a7.c).mono (by omega)
  have sz:CMulW (Af e (Et ps i)).num (Af e (Cg ps i)).num:=⟨Y7 f5.n (Cy (by omega)),Y7 b1.n (Cy (by omega))⟩
  have C:=uh e (ps:=ps) (i:=i) (by omega)
  unfold HN at C;dsimp only at C
  refine ⟨_,rfl,_,_,rfl,rfl,?_⟩;refine ⟨_,rfl,_,rfl,N,_,_,_,rfl,rfl,SqL.of B,d9,g3,_,_,_,rfl,rfl,c9,Dv,_,rfl,_,rfl,N,_,_,_,rfl,rfl,SqL.of B,Bh a3,d0,_,_,_,rfl,rfl,a4,Dv,_,_,rfl,rfl,sz,_,_,rfl,rfl,_,rfl,?_⟩;by_cases a0:Af e (Et ps i) * Af e (Cg ps i) < 0
  ·refine Bj (decide_eq_true ((jF _ _).mpr a0)) ?_;have f6:Af e (Et ps i) - Af e (Cg ps i)≠0:=by rcases Dh a0 with z | z<;>grind
   refine ⟨_,rfl,_,rfl,a,_,_,g1,rfl,rfl,c3.keep c2,f2,_,rfl,_,rfl,_,rfl,N,_,_,_,rfl,rfl,SqL.of B,d9,_,rfl,_,rfl,N,_,_,_,rfl,rfl,SqL.of B,Bh a3,_,_,.cons Z (.cons U (.cons b7 (.cons b8 .nil))),⟨_,_,_,_,c,_,rfl,e6,e7,f5,b1,f6,e8,rfl⟩,λ O X a5 a6=>?_⟩
   have a6:DV K X O (BX (Bo e (Et ps i) (Cg ps i))):=a6;have g:=a5 _ _ V;have r:=W.keep a5;have q:=a5 _ _ B;have t:=G.keep a5;have I:=a4.keep a5;have J:=U.keep a5;have D:=c2.trans a5;refine ⟨_,rfl,_,rfl,l,vs,_,_,rfl,SqL.of g,a6,r,rfl,(by show (BX _).depth<=60;exact Zo (Ul _).d (by decide)),di _,_,rfl,?_⟩
   rw [jT,cM];by_cases d6:Bo e (Et ps i) (Cg ps i)∈Ge e ps i
   ·refine BL (by rw [decide_eq_true d6];rfl) ?_
    rw [if_neg (λ z=>z.2 d6)] at C
    clear W V G B Z U b7 b8 c9 a4;refine ⟨_,rfl,_,rfl,N,_,_,_,rfl,rfl,SqL.of q,Bh a3,d0,_,_,_,rfl,rfl,I,Dv,_,_,rfl,rfl,_,rfl,?_⟩;by_cases R:0<=Af e (Cg ps i)
    ·refine Bj (decide_eq_true ((Jd _).mpr R)) ?_;rw [if_pos R] at C;refine ⟨_,rfl,.inl ⟨rfl,_,SqL.of g⟩,?_⟩;refine ⟨_,rfl,l,vs,_,rfl,rfl,g,small1000 (by omega),?_⟩
     have S:=HW g (.lst (vs++[x]));refine ⟨_,_,_,_,vs++[x],rfl,?_,?_,?_,Ar,?_⟩
     ·intro b o e;rw [BK (Bt e b4)];exact D _ _ e
     ·rw [BK b5];exact q
     ·exact Cv S (DY Nf _) t
     ·rw [C,U4];exact Cv S (by rw [<- U4];exact DY G5 _) (r.append (.cons J .nil))
    ·refine BL (decide_eq_false (λ z=>R ((Jd _).mp z))) ?_
     rw [if_neg R,YY] at C;exact ⟨_,_,_,_,vs,rfl,D,q,t,g,by rw [C];exact r⟩
   ·refine Bj (by rw [decide_eq_false d6];rfl) ?_
    rw [if_pos ⟨a0,d6⟩] at C;refine ⟨_,rfl,.inl ⟨rfl,_,SqL.of g⟩,?_⟩;refine ⟨_,rfl,l,vs,_,rfl,rfl,g,small1000 (by omega),?_⟩
    have S:=HW g (.lst (vs++[O]));have D:Same H (upd X l (.lst (vs++[O]))):=λ b o e=>by
     rw [BK (Bt e b4)];exact D _ _ e
    have q:upd X l (.lst (vs++[O])) N=some (.lst a1):=by rw [BK b5];exact q
    have t:DVs K (upd X l (.lst (vs++[O]))) a1 ((ps.map (Af e)).map Aj):=Cv S (DY Nf _) t;have r:DVs K (upd X l (.lst (vs++[O]))) (vs++[O]) ((Ge e ps i++[Bo e (Et ps i) (Cg ps i)]).map BX):=by
     rw [U4];exact Cv S (by rw [<- U4];exact DY G5 _) (r.append (.cons a6 .nil))
    have I:SqT K (upd X l (.lst (vs++[O]))) d0 _:=AS5 S I;have J:DV K (upd X l (.lst (vs++[O]))) x (BX (Cg ps i)):=Fg S (G5 _) J;have g:upd X l (.lst (vs++[O])) l=some (.lst (vs++[O])):=Ar;have f4:(vs++[O]).length<=2 * i+1:=by rw [X1];simp;omega
    clear S a6 a5;generalize upd X l (.lst (vs++[O]))=X at D q t r I J g ⊢;generalize vs++[O]=vs at r g f4 ⊢;clear W V G B Z U b7 b8 c9 a4;refine ⟨_,rfl,_,rfl,N,_,_,_,rfl,rfl,SqL.of q,Bh a3,d0,_,_,_,rfl,rfl,I,Dv,_,_,rfl,rfl,_,rfl,?_⟩;by_cases R:0<=Af e (Cg ps i)
    ·refine Bj (decide_eq_true ((Jd _).mpr R)) ?_;rw [if_pos R] at C;refine ⟨_,rfl,.inl ⟨rfl,_,SqL.of g⟩,?_⟩;refine ⟨_,rfl,l,vs,_,rfl,rfl,g,small1000 (by omega),?_⟩
     have S:=HW g (.lst (vs++[x]));refine ⟨_,_,_,_,vs++[x],rfl,?_,?_,?_,Ar,?_⟩
     ·intro b o e;rw [BK (Bt e b4)];exact D _ _ e
     ·rw [BK b5];exact q
     ·exact Cv S (DY Nf _) t
     ·rw [C,U4];exact Cv S (by rw [<- U4];exact DY G5 _) (r.append (.cons J .nil))
    ·refine BL (decide_eq_false (λ z=>R ((Jd _).mp z))) ?_
     rw [if_neg R,YY] at C;exact ⟨_,_,_,_,vs,rfl,D,q,t,g,by rw [C];exact r⟩
  ·refine BL (decide_eq_false (λ z=>a0 ((jF _ _).mp z))) ?_
   rw [if_neg (λ z=>a0 z.1)] at C
   have D:=c2;have q:=B;have t:=G;have r:=W;have g:=V;have I:=a4;have J:=U;refine ⟨_,rfl,_,rfl,N,_,_,_,rfl,rfl,SqL.of q,Bh a3,d0,_,_,_,rfl,rfl,I,Dv,_,_,rfl,rfl,_,rfl,?_⟩;by_cases R:0<=Af e (Cg ps i)
   ·refine Bj (decide_eq_true ((Jd _).mpr R)) ?_;rw [if_pos R] at C;refine ⟨_,rfl,.inl ⟨rfl,_,SqL.of g⟩,?_⟩;refine ⟨_,rfl,l,vs,_,rfl,rfl,g,small1000 (by omega),?_⟩
    have S:=HW g (.lst (vs++[x]));refine ⟨_,_,_,_,vs++[x],rfl,?_,?_,?_,Ar,?_⟩
    ·intro b o e;rw [BK (Bt e b4)];exact D _ _ e
    ·rw [BK b5];exact q
    ·exact Cv S (DY Nf _) t
    ·rw [C,U4];exact Cv S (by rw [<- U4];exact DY G5 _) (r.append (.cons J .nil))
   ·refine BL (decide_eq_false (λ z=>R ((Jd _).mp z))) ?_
    rw [if_neg R,YY] at C;exact ⟨_,_,_,_,vs,rfl,D,q,t,g,by rw [C];exact r⟩
 ·rintro a2 L ⟨d2,d3,d4,d5,vs,rfl,c1,a9,b0,b6,Y⟩
  rw [hl,xg] at Y;exact ⟨_,rfl,k _ _ c1 (.lst (SqL.of b6) Y)⟩
theorem AJ9 (T:Txt K mg ad):CalB P w K mg base true 3 "from_the_least" ["corners"] (dm K):=by
 refine T.aG.calN NP (λ _ _ _ _ _ _=>by1 λ _=>rfl) (λ vs H Q E h=>?_) (λ f a7 A outer s H vs Q E X h=>?_)
 ·obtain ⟨_,_,_,rfl,_⟩:=h;rfl
 obtain ⟨a9,cs,n,rfl,Y,I,Z,a8,q⟩:=h;obtain ⟨a,xs,rfl,o,b⟩:=DV.lst_of Y;have hl:xs.length=cs.length:=by have:=b.len;rw [Y2] at this;exact this
 refine ⟨_,(Ag (Ax (i:=1) NP.nd Ac) (Ag (Df YI rfl (N8 rfl T.enumerate (Ad (pv 0) Aa)) (K4 (n:=2) rfl (Du (Bq (i:=2) NP.nd) (Du (Bq (i:=3) NP.nd) Gp))) (Ak (BP (Bk (Ai (AJ6 T) X.m Ah (Ad (pv 3) (Ao (Ae Az (pv 0) (pv 1)) Aa)))) (Ak (Ax (i:=1) NP.nd (pv 2))) BR))) (Ak (Av (Aw Gs (Em Ja (pv 0) (Dy (pv 1)) Fj) (Em Ja (pv 0) Fj (Dy (pv 1)))))))),?_⟩
 refine ⟨_,rfl,a,rfl,⟨_,o⟩,?_⟩;refine Le (K:=K) (a:=a) (xs:=xs) (λ i r e=>∃t u,r=[some (.ref a),some (.int (DN cs i:Nat)),t,u]/\Same H e) ⟨_,_,rfl,Same.refl _⟩ ?_ ?_ ?_
 ·rintro i r e hi ⟨t,u,rfl,d⟩
  exact o.keep d
 ·rintro i x r e p hi ⟨t,u,rfl,d⟩ a0
  have a1:=CT hi;have g:=d.trans (Am a0 (.tup [.int i,x]));have D:DN cs i < cs.length:=by
   cases i with
   | zero=>show 0 < cs.length;omega
   | succ j=>have:=dC cs (j+1) (by omega);omega
  obtain ⟨a2,J,L⟩:=LK b (i:=DN cs i) D;obtain ⟨b0,M,N⟩:=LK b (i:=i) (by omega)
  cases hi.symm.trans M
  refine ⟨p,_,rfl,SqT.of Ar,rfl,_,_,rfl,_,_,rfl,rfl,?_⟩;have a3:=I _ (M3 (cs:=cs) D);have a4:=I _ (M3 (cs:=cs) (i:=i) (by omega))
  refine ⟨_,rfl,_,rfl,_,rfl,a,_,_,a2,rfl,rfl,o.keep g,Bh J,_,_,.cons (N.keep g) (.cons (L.keep g) .nil),⟨_,_,n,rfl,a4,a3,Z,rfl⟩,λ v a5 O hv=>?_⟩
  obtain rfl:=hv.bl_of;refine ⟨_,rfl,?_⟩;cases R:JS (Cg cs i) (Cg cs (DN cs i)) with
  | true=>
   refine iteT ⟨_,rfl,some (.int (i:Int)),some x,?_,g.trans O⟩;rw [DN,if_pos R];rfl
  | false=>
   refine iteF ⟨some (.int (i:Int)),some x,?_,g.trans O⟩;rw [DN,if_neg (by rw [R];decide)]
   rfl
 ·rintro r e ⟨t,u,rfl,d⟩
  rw [hl];have F:=o.keep d;refine ⟨_,rfl,_,rfl,_,rfl,a,xs,rfl,F,λ y S=>?_⟩
  have z:=Am S (.lst (cutV xs (some ((DN cs cs.length:Nat):Int)) none));have k:upd e y (.lst (cutV xs (some ((DN cs cs.length:Nat):Int)) none)) y=some (.lst (xs.drop (DN cs cs.length))):=by rw [<- qz];exact Ar
  generalize upd e y (.lst (cutV xs (some ((DN cs cs.length:Nat):Int)) none))=U at z k ⊢;have V:=F.keep z;refine ⟨_,rfl,_,rfl,_,rfl,a,xs,rfl,V,λ B W=>?_⟩
  have C:=Am W (.lst (cutV xs none (some ((DN cs cs.length:Nat):Int))));have l:upd U B (.lst (cutV xs none (some ((DN cs cs.length:Nat):Int)))) B=some (.lst (xs.take (DN cs cs.length))):=by rw [<- Aa4];exact Ar
  generalize upd U B (.lst (cutV xs none (some ((DN cs cs.length:Nat):Int))))=a5 at C l ⊢;refine ⟨y,B,_,_,rfl,rfl,C _ _ k,l,?_,λ a6 G=>?_⟩
  ·refine XT (small1000 ?_);rw [JF,YR];omega
  have t3:=d.trans (z.trans (C.trans (Am G (.lst (xs.drop (DN cs cs.length)++xs.take (DN cs cs.length))))));refine q a6 _ _ t3 ((d.trans (z.trans C)).free G) Ar ?_;unfold Hr;rw [U4,List.map_drop,List.map_take];exact DVs.keep t3 ((DVs.drop _ b).append (DVs.take _ b))
theorem sW (T:Txt K mg ad):CalB P w K mg base true 6 "field_of" ["bench","box"] (ji K):=by
 refine T.Vz.calN KQ (λ _ _ _ _ _ _=>Bm λ _ _=>rfl) (λ vs H Q E h=>?_) (λ f c4 A outer s H vs Q E v h=>?_)
 ·obtain ⟨_,_,_,_,_,_,_,rfl,_⟩:=h;rfl
 obtain ⟨U,a5,ps,x,m,n,M,rfl,b6,a6,c5,b7,u,c6,q⟩:=h;have c7:=c5.len;have a7:=Yg ps 0 e1 e2;have L:=λ i=>Poly.all (n:=n) (M:=M) ((Bg ps).take i) (TX u.ok u.bd u.pos) (λ l hl=>u.lim l (ua hl))
 have N:∀i,((Bg ps).take i).length<=ps.length:=λ i=>Zo (show ((Bg ps).take i).length<=(Bg ps).length by rw [YR];omega) a7
 refine ⟨_,(Ag (Ax (i:=2) KQ.nd (Ai (cU T) v.m Ah (Ad (pv 0) Aa))) (Ag (DQ (Ai (AK7 T) v.m Ah (Ad (pv 1) Aa))) (Ag (Ax (i:=3) KQ.nd (Ai (xG T) v.m Ah (Ad (pv 1) Aa))) (Ag (Df YI rfl (Dc (pv 2)) (Bq (i:=4) KQ.nd) (Ak (Df YI rfl (Dc (Ai (AT3 T) v.m Ah (Ad (pv 4) Aa))) (Bq (i:=5) KQ.nd) (Ak (Ax (i:=3) KQ.nd (Ai (zG T) v.m Ah (Ad (pv 5) (Ad (pv 3) Aa)))))))) (Ak (Av (Ai (AJ9 T) v.m Ah (Ad (pv 3) Aa)))))))),?_⟩
 refine ⟨_,rfl,U,ps,m,rfl,b6,c5,b7,λ l F c9 V d0 hl O=>?_⟩
 have B:F.length=(Bg ps).length:=by have:=O.len;rw [Y2] at this;exact this
 refine ⟨_,rfl,_,_,.cons (a6.keep V) .nil,⟨x,2 * n+M,rfl,u.ok,u.bd,by omega,rfl⟩,λ d1 d2 G _=>?_⟩
 refine ⟨_,rfl,_,_,.cons (a6.keep (V.trans G)) .nil,⟨x,rfl,rfl⟩,λ e b8 W b=>?_⟩
 have t3:=V.trans (G.trans W);have R:=(G.trans W) _ _ hl;have X:=O.keep (G.trans W);refine ⟨_,rfl,l,rfl,⟨_,SqL.of R⟩,?_⟩;refine G6 (K:=K) (a:=l) (xs:=F) (λ i k g=>∃e o p,k=[some U,some a5,some (.ref l),some e,o,p]/\Same b8 g/\DV K g e (JT (Gx ((Bg ps).take i) (Dz x)))) ⟨e,_,_,rfl,Same.refl _,b⟩ ?_ ?_ ?_
 ·rintro i k g hi ⟨e,o,p,rfl,z,_⟩
  exact SqL.of (z _ _ R)
 ·rintro i y k g hi ⟨e,o,p,rfl,z,b⟩
  obtain ⟨d,hd,b9⟩:=X.get hi;obtain ⟨Y,S,rfl⟩:=jM hd;have lb:=u.lim _ (ZB S);have I:=L i;have c8:=N i;refine ⟨_,rfl,_,_,.cons (b9.keep z) .nil,⟨Y,n,M,rfl,lb,by omega,by omega,rfl⟩,λ d3 Z J a8=>?_⟩
  obtain ⟨le,es,rfl,C,a9⟩:=DV.lst_of a8;obtain ⟨c0,c1,rfl,b0,b1⟩:=a9.two;rw [AM8 S];generalize Gx ((Bg ps).take i) (Dz x)=cs at b I ⊢;refine ⟨le,rfl,⟨_,C⟩,?_⟩;refine G6 (K:=K) (a:=le) (xs:=[c0,c1]) (λ j k g=>∃e o p,k=[some U,some a5,some (.ref l),some e,o,p]/\Same Z g/\DV K g e (JT (wj cs Y j))) ⟨e,_,_,rfl,Same.refl _,b.keep J⟩ ?_ ?_ ?_
  ·rintro j k g r ⟨e,o,p,rfl,t,_⟩
   exact C.keep t
  ·rintro j y k g r ⟨e,o,p,rfl,t,b⟩
   match j,r with
   | 0,r=>
    cases r
    have pn:=I.len;refine ⟨_,rfl,_,rfl,_,_,.cons (b0.keep t) (.cons b .nil),⟨_,_,n,M,_,rfl,lb.up,I.rn,by omega,by show cs.length<=200;omega,rfl⟩,λ a0 c2 a1 D=>?_⟩
    exact ⟨a0,_,_,rfl,t.trans a1,D⟩
   | 1,r=>
    cases r
    have b2:=I.cut lb.up;have pn:=b2.len;refine ⟨_,rfl,_,rfl,_,_,.cons (b1.keep t) (.cons b .nil),⟨_,_,n,M,_,rfl,lb.dn,b2.rn,by omega,by show (De (HJ Y) cs).length<=200;omega,rfl⟩,λ a0 c2 a1 D=>?_⟩
    exact ⟨a0,_,_,rfl,t.trans a1,D⟩
   | j+2,r=>cases r
  ·rintro k g ⟨e,o,p,rfl,t,b⟩
   exact ⟨e,_,_,rfl,z.trans (J.trans t),b⟩
 ·rintro k g ⟨e,o,p,rfl,z,b⟩
  have a2:=L F.length;have a3:=N F.length;have pn:=a2.len;rw [B,YU] at b a2 pn;refine ⟨_,rfl,e,_,_,rfl,b,a2.rn,by omega,by rw [B,YU] at a3;omega,λ c3 b3 Z J b4 b5 a4=>?_⟩
  have t5:=t3.trans z;exact q c3 b3 Z (t5.trans J) (t5.free b4) b5 a4
theorem R0 (T:Txt K mg ad):CalB P w K mg base true 2 "in_order" ["one","other"] (PR K mF):=by
 refine T.Ro.calN wV (λ _ _ _ _ _ _=>Bm λ _ _=>rfl) (λ vs H Q E h=>?_) (λ f n A outer s H vs Q E i h=>?_)
 ·obtain ⟨_,_,dv,⟨_,_,rfl,_⟩,_⟩:=h;exact dv.len
 obtain ⟨_,_,dv,⟨p,q,rfl,sp,j,rfl⟩,k⟩:=h;obtain ⟨x,y,rfl,d,e⟩:=dv.two;refine ⟨_,(Ak (Av (G8 (Bk (Ai (Hv T) i.m Ah (Ad (pv 1) (Ad (pv 0) Aa)))) (Bp (Ad (pv 1) (Ad (pv 0) Aa))) (Bp (Ad (pv 0) (Ad (pv 1) Aa)))))),?_⟩
 refine ⟨_,rfl,_,rfl,_,_,by walk_at "Zv",⟨_,_,rfl,j,sp,rfl⟩,λ o r b g=>?_⟩
 obtain rfl:=g.bl_of;refine ⟨_,rfl,?_⟩;unfold JQ at k;by_cases c:q < p
 ·rw [if_pos c] at k;refine Bj (decide_eq_true c) ⟨_,rfl,_,rfl,(by show 2<=Y3;decide),λ l a=>?_⟩
  exact k _ _ (b.trans (Am a _)) (DV.upd2 a (e.keep b) (d.keep b))
 ·rw [if_neg c] at k;refine BL (decide_eq_false c) ⟨_,rfl,_,rfl,(by show 2<=Y3;decide),λ l a=>?_⟩
  exact k _ _ (b.trans (Am a _)) (DV.upd2 a (d.keep b) (e.keep b))
theorem AG6 (T:Txt K mg ad):CalB P w K mg base true 5 "height_at" ["table","lamp","slant","t"] (PR K cJ):=by
 refine T.Yp.calN qP (λ _ _ _ _ _ _=>by4 λ _ _ _ _=>rfl) (λ vs H Q E h=>?_) (λ f c7 A outer s H vs Q E v h=>?_)
 ·obtain ⟨_,_,dv,⟨_,_,_,_,_,_,_,_,rfl,_⟩,_⟩:=h;exact dv.len
 obtain ⟨_,_,dv,⟨t,j,p,u,T0,n,m,b1,rfl,tb,W,bs,x,b2,le,rfl⟩,k⟩:=h;obtain ⟨c9,b3,M,q,rfl,d0,b4,b5,d1⟩:=dv.four;obtain ⟨X,N,y,rfl,G,Y,Z⟩:=DV.t2 (show DV K H b3 (.tuple [Aj j,Aj p]) from b4)
 refine ⟨_,(Ag (Ax (i:=4) qP.nd (Cd (k:=4) (Jt (my T) v.m (Ao (Ae Al (pv 1) Ac) Aa)) v.m (Ez (Bp (Ao (Ae Al (pv 1) Ac) (Ad (pv 2) Aa))) Aa))) (Ak (Av (Ae Al (Cd (k:=4) (Jt (my T) v.m (Ad (pv 3) Aa)) v.m (Bc (Ai (AL1 T) v.m Ah (Ad (pv 0) (Ad (pv 4) Aa))) Aa)) Ac)))),?_⟩
 refine ⟨_,rfl,X,_,_,_,rfl,rfl,G,rfl,λ o l b6 a0 a1=>⟨o,l,y,rfl,Ar,rfl,?_⟩⟩
 have a2:Same H (upd H l (.own o)):=Am a0 _;have I:upd H l (.own o) o=none:=by rw [BK (UX a1)];exact b6
 have z:=a2.trans (Am I (.ins ad.Gap l [("length",y)]));rw [GJ];have O:upd (upd H l (.own o)) o (.ins ad.Gap l [("length",y)]) o=some (.ins ad.Gap l [("length",y)]):=Ar;clear a2 I;generalize upd (upd H l (.own o)) o (.ins ad.Gap l [("length",y)])=a3 at z O ⊢;have R:=Y.keep z;have a4:=b5.keep z;refine ⟨o,_,l,_,_,_,rfl,O,rfl,X5 (P:=P) (w:=w) (base:=base) T,?_⟩;refine ⟨_,rfl,X,_,_,_,rfl,rfl,G.keep z,rfl,_,rfl,(by show 2<=Y3;decide),λ F J=>?_⟩
 have S:=Am J (.tup [N,M]);have a5:DV K (upd a3 F (.tup [N,M])) (.ref F) (BX (j,u)):=DV.upd2 J R a4;generalize upd a3 F (.tup [N,M])=d2 at S a5 ⊢;refine ⟨.ref o,.ref F,.gap p,(j,u),m+m,m,rfl,trivial,.gap (S _ _ O) (Z.keep (z.trans S)),a5,Rb.of W x,bs,by omega,λ b7 r d3 L=>?_⟩
 have L:DV K r b7 (BX (Eo j p u)):=L;have by1:Bd (3 * m+1) (j+p * u):=(W.add (bs.mul x)).mono (by omega)
 have b8:Bd (2 * n+4 * m+2) (t.by (Eo j p u)).1:=((tb.a.mul by1).add (tb.b.mul x)).mono (by omega)
 have b9:Bd (2 * n+4 * m+2) (t.by (Eo j p u)).2:=((tb.c.mul by1).add (tb.d.mul x)).mono (by omega)
 refine ⟨_,rfl,λ g e a6 U V=>⟨g,e,q,rfl,Ar,rfl,?_⟩⟩
 have a7:Same r (upd r e (.own g)):=Am U _;have B:upd r e (.own g) g=none:=by rw [BK (UX V)];exact a6
 have c0:=a7.trans (Am B (.ins ad.Gap e [("length",q)]));rw [GJ];have C:upd (upd r e (.own g)) g (.ins ad.Gap e [("length",q)]) g=some (.ins ad.Gap e [("length",q)]):=Ar;clear a7 B;generalize upd (upd r e (.own g)) g (.ins ad.Gap e [("length",q)])=d4 at c0 C ⊢;refine ⟨g,_,e,_,_,_,rfl,C,rfl,X5 (P:=P) (w:=w) (base:=base) T,?_⟩;refine ⟨_,rfl,_,rfl,_,_,by walk_at "Zv",⟨t,Eo j p u,n+3 * m+1,rfl,Tb.mono tb (by omega),by1.mono (by omega),x.mono (by omega),by omega,rfl⟩,λ c1 c2 c3 a8=>?_⟩
 refine ⟨.ref g,c1,.gap T0,t.by (Eo j p u),_,b1,rfl,trivial,.gap (c3 _ _ C) (show DV K c2 q _ from by walk_at "Zd"),a8,Rb.of b8 b9,b2,by omega,λ c4 c5 d5 D=>?_⟩
 have D:DV K c5 c4 (BX ((Pc.gap T0).bent (t.by (Eo j p u)))):=D
 obtain ⟨c6,d6,d7,rfl,a9,b0,c8⟩:=DV.t2 D;refine ⟨c6,_,_,_,rfl,rfl,a9,rfl,?_⟩;exact k _ _ (by walk_at "Zs") b0
theorem yE (T:Txt K mg ad):CalB P w K mg base true 6 "spots_of" ["bench","lamp","slants","t"] (PR K kI):=by
 refine T.Rq.calN iu (λ _ _ _ _ _ _=>by4 λ _ _ _ _=>rfl) (λ vs H Q E h=>?_) (λ f z A outer s H vs Q E b h=>?_)
 ·obtain ⟨_,_,dv,⟨_,_,_,_,_,_,_,_,_,rfl,_⟩,_⟩:=h;exact dv.len
 obtain ⟨_,_,dv,⟨ps,j,l,u0,o,T0,n,m,p,rfl,B,d,bs,q,b1,e,le,rfl⟩,k⟩:=h;obtain ⟨J,L,u,M,rfl,N,O,v,R⟩:=dv.four;obtain ⟨sa,t1,t2,rfl,g,C,D⟩:=DV.t2 (show DV K H u (.tuple [Aj u0,Aj o]) from v)
 have tb:=Ti (m:=n) B.bd;have a:Tb (2+ps.length * (n+1)+n) (tabOf ps):=Tb.mono tb (by omega)
 have x:=O2 a d bs q e;have e1:=O2 a d bs b1 e;refine ⟨_,(Ag (Ax (i:=4) iu.nd (Ai (U8 T) b.m Ah (Ad (pv 0) Aa))) (Ak (Av (Ai (R0 T) b.m Ah (Bc (Ai (AG6 T) b.m Ah (Ad (pv 4) (Ad (pv 1) (Ao (Ae Al (pv 2) Ac) (Ad (pv 3) Aa))))) (Bc (Ai (AG6 T) b.m Ah (Ad (pv 4) (Ad (pv 1) (Ao (Ae Al (pv 2) Ac) (Ad (pv 3) Aa))))) Aa)))))),?_⟩
 refine ⟨_,rfl,_,_,by walk_at "Zv",⟨ps,n,rfl,B,by omega,rfl⟩,λ S U r F=>?_⟩
 refine ⟨_,rfl,_,rfl,_,rfl,sa,_,_,_,rfl,rfl,g.keep r,rfl,_,rfl,_,_,by walk_at "Zv",⟨_,j,l,u0,T0,_,m,p,rfl,a,d,bs,q,e,by omega,rfl⟩,λ V W y G=>?_⟩
 refine ⟨_,rfl,_,rfl,_,rfl,sa,_,_,_,rfl,rfl,g.keep (r.trans y),rfl,_,rfl,_,_,by walk_at "Zv",⟨_,j,l,o,T0,_,m,p,rfl,a,d,bs,b1,e,by omega,rfl⟩,λ X Y Z I=>?_⟩
 exact ⟨_,_,by walk_at "Zv",⟨_,_,rfl,x.sm (by omega),e1.sm (by omega),rfl⟩,λ a0 a1 a2 t=>k _ _ (by walk_at "Zs") t⟩
theorem Ag8 (T:Txt K mg ad):CalB P w K mg base true 7 "blur_of" ["bench","lamp","slants","t"] (PR K fc):=by
 refine T.Rm.calN fX (λ _ _ _ _ _ _=>by4 λ _ _ _ _=>rfl) (λ vs H Q E h=>?_) (λ f J A outer s H vs Q E u h=>?_)
 ·obtain ⟨_,_,dv,⟨_,_,_,_,_,_,_,_,_,rfl,_⟩,_⟩:=h;exact dv.len
 obtain ⟨_,_,dv,⟨ps,l,o,u0,v,T0,n,m,z,rfl,L,p,bs,x,b1,q,le,rfl⟩,k⟩:=h;obtain ⟨M,N,O,R,rfl,S,U,V,W⟩:=dv.four;have tb:=Ti (m:=n) L.bd;have g:Tb (2+ps.length * (n+1)+n) (tabOf ps):=Tb.mono tb (by omega)
 have r:=O2 g p bs x q;have e1:=O2 g p bs b1 q;refine ⟨_,(Ag (Ax (i:=4) fX.nd (Ai (yE T) u.m Ah (Ad (pv 0) (Ad (pv 1) (Ad (pv 2) (Ad (pv 3) Aa)))))) (Ak (Av (Ai (Ho T) u.m Ah (Ao (Ae Al (pv 4) Ac) (Ao (Ae Al (pv 4) Ac) Aa)))))),?_⟩
 refine ⟨_,rfl,_,rfl,_,rfl,_,rfl,_,_,by walk_at "Zv",⟨ps,l,o,u0,v,T0,n,m,z,rfl,L,p,bs,x,b1,q,le,rfl⟩,λ B C y d=>?_⟩
 have d:=wL d;obtain ⟨sa,t1,t2,rfl,j,a,b⟩:=DV.t2 (show DV K C B (.tuple [Aj _,Aj _]) from d)
 refine ⟨_,rfl,sa,_,_,_,rfl,rfl,j,rfl,_,rfl,sa,_,_,_,rfl,rfl,j,rfl,?_⟩;generalize hgt (tabOf ps) l o u0 T0=D at r a b k;generalize hgt (tabOf ps) l o v T0=F at e1 a b k;by_cases c:F < D
 ·rw [if_pos c] at a b k;exact ⟨_,_,.cons b (.cons a .nil),⟨_,_,rfl,r.sm (by omega),e1.sm (by omega),rfl⟩,λ G I t e=>k _ _ (y.trans t) e⟩
 ·rw [if_neg c] at a b k;exact ⟨_,_,.cons b (.cons a .nil),⟨_,_,rfl,e1.sm (by omega),r.sm (by omega),rfl⟩,λ G I t e=>k _ _ (y.trans t) e⟩
theorem vO (T:Txt K mg ad):CalB P w K mg base true 3 "lesser_of" ["one","other"] (PR K ju):=by
 refine T.V9.calN AK8 (λ _ _ _ _ _ _=>Bm λ _ _=>rfl) (λ vs H Q E h=>?_) (λ f o A outer s H vs Q E d h=>?_)
 ·obtain ⟨_,_,dv,⟨_,_,rfl,_⟩,_⟩:=h;exact dv.len
 obtain ⟨_,_,dv,⟨p,q,rfl,sp,e,rfl⟩,k⟩:=h;obtain ⟨x,y,rfl,r,t⟩:=dv.two;refine ⟨_,(Ak (Av (Ae Al (Ai (R0 T) d.m Ah (Ad (pv 0) (Ad (pv 1) Aa))) Ac))),?_⟩
 refine ⟨_,rfl,_,rfl,_,_,by walk_at "Zv",⟨_,_,rfl,sp,e,rfl⟩,λ g i j b=>?_⟩
 rw [Sd] at b;obtain ⟨a,u,v,rfl,l,n,z⟩:=DV.t2 (show DV K i g (.tuple [Aj _,Aj _]) from b)
 exact ⟨a,_,_,_,rfl,rfl,l,rfl,k _ _ j n⟩
theorem sY (T:Txt K mg ad):CalB P w K mg base true 3 "greater_of" ["one","other"] (PR K gf):=by
 refine T.ZZ.calN yf (λ _ _ _ _ _ _=>Bm λ _ _=>rfl) (λ vs H Q E h=>?_) (λ f o A outer s H vs Q E d h=>?_)
 ·obtain ⟨_,_,dv,⟨_,_,rfl,_⟩,_⟩:=h;exact dv.len
 obtain ⟨_,_,dv,⟨p,q,rfl,sp,e,rfl⟩,k⟩:=h;obtain ⟨x,y,rfl,r,t⟩:=dv.two;refine ⟨_,(Ak (Av (Ae Al (Ai (R0 T) d.m Ah (Ad (pv 0) (Ad (pv 1) Aa))) Ac))),?_⟩
 refine ⟨_,rfl,_,rfl,_,_,by walk_at "Zv",⟨_,_,rfl,sp,e,rfl⟩,λ g i j b=>?_⟩
 rw [Sd] at b;obtain ⟨a,u,v,rfl,l,z,n⟩:=DV.t2 (show DV K i g (.tuple [Aj _,Aj _]) from b)
 exact ⟨a,_,_,_,rfl,rfl,l,rfl,k _ _ j n⟩
theorem qQ {a:Nat}{p q:Rat}(h:Bd a p)(k:Bd a q):Bd a (mx p q):=by rcases Ye p q with e | e<;>rw [e]<;>assumption
theorem fH {a:Nat}{p q:Rat}(h:Bd a p)(k:Bd a q):Bd a (mn p q):=by rcases Yt p q with e | e<;>rw [e]<;>assumption
theorem AL5 (T:Txt K mg ad):CalB P w K mg base true 4 "slants_by" ["limit","lamp","first","last"] (PR K nM):=by
 refine T.SJ.calN Hk (λ _ _ _ _ _ _=>by4 λ _ _ _ _=>rfl) (λ vs H Q E h=>?_) (λ f f9 A outer s H vs Q E d h=>?_)
 ·obtain ⟨_,_,dv,⟨_,_,_,_,_,_,_,_,rfl,_⟩,_⟩:=h;exact dv.len
 obtain ⟨_,_,dv,⟨l,u,a2,b4,b5,n,m,g0,rfl,lo,x,bs,b6,b7,h0,g1,rfl⟩,k⟩:=h;obtain ⟨h1,d8,d9,e0,rfl,e2,e3,e4,e5⟩:=dv.four;obtain ⟨q,b8,W,X,_⟩:=lo;obtain ⟨y,h2,h3,h4,h5,rfl,b9,h6,h7,h8,h9⟩:=DV.t5 e2;obtain ⟨c0,i0,i1,rfl,c2,i2,i3⟩:=DV.t2 (show DV K H d8 (.tuple [Aj u,Aj a2]) from e3)
 refine ⟨_,(Ag (Ax (i:=4) Hk.nd (Ai (HF T) d.m Ah (Ao (Ae Al (pv 0) Ac) (Ao (Ae Al (pv 1) Ac) Aa)))) (Ag (Ax (i:=5) Hk.nd (Ai (JN T) d.m Ah (Bc (Ai (HF T) d.m Ah (Ao (Ae Al (pv 0) Ac) (Ao (Ae Al (pv 1) Ac) Aa))) (Ao (Ae Al (pv 0) Ac) Aa)))) (Ag (Ax (i:=6) Hk.nd (Ai (Ho T) d.m Ah (Ao (Ae Al (pv 0) Ac) (Ad (pv 4) Aa)))) (Ag (Ax (i:=7) Hk.nd (Ai (Ho T) d.m Ah (Ao (Ae Al (pv 0) Ac) (Ad (pv 4) Aa)))) (Ag (BP (BW (Gh d.units) (pv 5) (Bl (v:=.ref ad.NOUGHT) rfl T.ex.m_NOUGHT rfl)) (Ak (Av (G8 (PW.pt (pw_and (CQ (Bk (Ai (Hv T) d.m Ah (Ad (Bl (v:=.ref ad.NOUGHT) rfl T.ex.m_NOUGHT rfl) (Ad (pv 6) Aa))))) (pw_and1 (CQ (Bk (Ai (Hv T) d.m Ah (Ad (pv 7) (Ad (Bl (v:=.ref ad.NOUGHT) rfl T.ex.m_NOUGHT rfl) Aa)))))))) (Bp (Ad (pv 2) (Ad (pv 3) Aa))) Fl))) BR) (Ag (Ax (i:=8) Hk.nd (Ai (R0 T) d.m Ah (Bc (Ai (Kp T) d.m Ah (Ad (pv 6) (Ad (pv 5) Aa))) (Bc (Ai (Kp T) d.m Ah (Ad (pv 7) (Ad (pv 5) Aa))) Aa)))) (Ag (Ax (i:=2) Hk.nd (Ai (sY T) d.m Ah (Ad (pv 2) (Ao (Ae Al (pv 8) Ac) Aa)))) (Ag (Ax (i:=3) Hk.nd (Ai (vO T) d.m Ah (Ad (pv 3) (Ao (Ae Al (pv 8) Ac) Aa)))) (Ak (Av (G8 (Bk (Ai (Hv T) d.m Ah (Ad (pv 3) (Ad (pv 2) Aa)))) Fl (Bp (Ad (pv 2) (Ad (pv 3) Aa)))))))))))))),?_⟩
 refine ⟨_,rfl,y,_,_,_,rfl,rfl,b9,rfl,_,rfl,c0,_,_,_,rfl,rfl,c2,rfl,?_⟩;refine ⟨_,_,by walk_at "Zv",⟨_,_,rfl,q.sm (by omega),x.sm (by omega),rfl⟩,λ i4 i5 e6 c3=>?_⟩
 refine ⟨_,rfl,y,_,_,_,rfl,rfl,by walk_at "Zt",by rfl,_,rfl,c0,_,_,_,rfl,rfl,by walk_at "Zt",by rfl,?_⟩
 refine ⟨_,_,by walk_at "Zv",⟨_,_,rfl,q.sm (by omega),bs.sm (by omega),rfl⟩,λ i6 i7 e7 c4=>?_⟩
 refine ⟨_,rfl,y,_,_,_,rfl,rfl,by walk_at "Zt",by rfl,?_⟩
 refine ⟨_,_,by walk_at "Zv",⟨_,_,rfl,(q.mul bs).sm (by omega),b8.sm (by omega),rfl⟩,λ e8 i8 e9 c5=>?_⟩
 refine ⟨_,rfl,y,_,_,_,rfl,rfl,by walk_at "Zt",by rfl,_,rfl,?_⟩
 refine ⟨_,_,by walk_at "Zv",⟨_,_,rfl,W.sm (by omega),(q.mul x).sm (by omega),rfl⟩,λ f0 i9 f1 c6=>?_⟩
 refine ⟨_,rfl,y,_,_,_,rfl,rfl,by walk_at "Zt",by rfl,_,rfl,?_⟩
 refine ⟨_,_,by walk_at "Zv",⟨_,_,rfl,X.sm (by omega),(q.mul x).sm (by omega),rfl⟩,λ f2 o f3 Y=>?_⟩
 have B:=(q.mul bs).add b8;have bl:=W.sub (q.mul x);have N:=X.sub (q.mul x);have a3:DV K o e8 (Aj (l.a * a2+l.b)):=by walk_at "Zd"
 have a4:DV K o f0 (Aj (l.lo - l.a * u)):=by walk_at "Zd"
 have c7:DV K o f2 (Aj (l.hi - l.a * u)):=Y;have f4:=e4.keep (show Same H o from by walk_at "Zs")
 have f5:=e5.keep (show Same H o from by walk_at "Zs")
 have C:Same H o:=by walk_at "Zs"
 clear e6 e7 e9 f1 f3 c3 c4 c5 c6 Y;refine ⟨_,rfl,Ln a3 (dN T o) ⟨_,rfl,?_⟩⟩;unfold FW at k;generalize l.a * a2+l.b=D at B a3 k ⊢;generalize l.lo - l.a * u=a5 at bl a4 k ⊢;generalize l.hi - l.a * u=a6 at N c7 k ⊢;by_cases g:D=0
 ·rw [if_pos g] at k;refine Bj (decide_eq_true g) ?_;have pair:∀O,Same o O->(2<=Y3/\∀p,O p=none->DV K (upd O p (.tup [d9,e0])) (.ref p) (pairD b4 b5)):=λ O s'=>⟨(by show 2<=Y3;decide),λ p r=>DV.upd2 r (f4.keep s') (f5.keep s')⟩
  refine ⟨_,rfl,_,_,.cons (dN T o) (.cons a4 .nil),⟨0,_,rfl,Sm.zero,bl.sm (by omega),rfl⟩,λ b1 Z e c8=>?_⟩
  obtain rfl:=c8.bl_of;refine ⟨_,rfl,?_⟩;by_cases c1:0 < a5
  ·rw [if_neg (λ z=>z.1 c1)] at k
   rw [decide_eq_true c1];exact iteF (iteF (k _ _ (C.trans e) .non))
  ·rw [decide_eq_false c1];refine iteT ?_;refine ⟨_,rfl,_,_,.cons (c7.keep e) (.cons (dN T Z) .nil),⟨_,0,rfl,N.sm (by omega),Sm.zero,rfl⟩,λ b2 F j c9=>?_⟩
   obtain rfl:=c9.bl_of;refine ⟨_,rfl,?_⟩;by_cases R:a6 < 0
   ·rw [if_neg (λ z=>z.2 R)] at k
    rw [decide_eq_true R];exact iteF (k _ _ (C.trans (e.trans j)) .non)
   ·rw [if_pos ⟨c1,R⟩] at k;rw [decide_eq_false R];refine iteT ⟨_,rfl,_,rfl,(pair F (e.trans j)).1,λ p r=>?_⟩
    exact k _ _ (C.trans (e.trans (j.trans (Am r _)))) ((pair F (e.trans j)).2 p r)
 ·rw [if_neg g] at k;refine BL (decide_eq_false g) ?_;have S:Bd g0 (a5 / D):=(bl.div B g).mono (by omega)
  have U:Bd g0 (a6 / D):=(N.div B g).mono (by omega)
  refine ⟨_,rfl,_,rfl,_,_,.cons a4 (.cons a3 .nil),⟨_,_,rfl,bl.sm (by omega),B.sm (by omega),g,rfl⟩,λ g2 Z e a7=>?_⟩
  refine ⟨_,rfl,_,rfl,_,_,by walk_at "Zv",⟨_,_,rfl,N.sm (by omega),B.sm (by omega),g,rfl⟩,λ g3 F j a8=>?_⟩
  generalize a5 / D=d0 at S a7 k;generalize a6 / D=e1 at U a8 k;refine ⟨_,_,by walk_at "Zv",⟨_,_,rfl,S.sm (by omega),U.sm (by omega),rfl⟩,λ d1 d2 a0 G=>?_⟩
  rw [Sd] at G;obtain ⟨d3,t1,t2,rfl,a1,d4,d5⟩:=DV.t2 (show DV K d2 d1 (.tuple [Aj _,Aj _]) from G)
  have a9:=fH S U;have b0:=qQ S U;generalize mn d0 e1=f6 at a9 d4 k;generalize mx d0 e1=f7 at b0 d5 k;refine ⟨_,rfl,_,rfl,d3,_,_,_,rfl,rfl,a1,rfl,_,_,by walk_at "Zv",⟨_,_,rfl,b6.sm (by omega),a9.sm (by omega),rfl⟩,λ g4 g5 I J=>?_⟩
  refine ⟨_,rfl,_,rfl,d3,_,_,_,rfl,rfl,a1.keep I,rfl,_,_,by walk_at "Zv",⟨_,_,rfl,b7.sm (by omega),b0.sm (by omega),rfl⟩,λ g6 g7 L M=>?_⟩
  have d6:=qQ b6 a9;have d7:=fH b7 b0;generalize mx b4 f6=f8 at d6 J k;generalize mn b5 f7=b1 at d7 M k;refine ⟨_,rfl,_,rfl,_,_,by walk_at "Zv",⟨_,_,rfl,d7.sm (by omega),d6.sm (by omega),rfl⟩,λ g8 g9 t b3=>?_⟩
  obtain rfl:=b3.bl_of;refine ⟨_,rfl,?_⟩;by_cases V:b1 < f8
  ·rw [if_pos V] at k;exact Bj (decide_eq_true V) (k _ _ (Dn t (Dn L (Dn I (Dn a0 (Dn j (Dn e C)))))) .non)
  ·rw [if_neg V] at k;refine BL (decide_eq_false V) ⟨_,rfl,_,rfl,(by show 2<=Y3;decide),λ p r=>?_⟩
   exact k _ _ (HD r (Dn t (Dn L (Dn I (Dn a0 (Dn j (Dn e C))))))) (DV.upd2 r (J.keep (L.trans t)) (M.keep t))
theorem Ac5 (T:Txt K mg ad):CalB P w K mg base true 4 "look_at_stretch" ["first","last"] (PR K nZ):=by
 refine T.ZJ.calN AG4 (λ _ _ _ _ _ _=>Bm λ _ _=>rfl) (λ vs H Q E h=>?_) (λ f l A outer s H vs Q E a h=>?_)
 ·obtain ⟨_,_,dv,⟨_,_,rfl,_⟩,_⟩:=h;exact dv.len
 obtain ⟨_,_,dv,⟨p,q,rfl,sp,d,ord,rfl⟩,k⟩:=h;obtain ⟨x,y,rfl,e,g⟩:=dv.two;refine ⟨_,(Ak (BP (CQ (Bk (Ai (pO T) a.m Ah (Ad (pv 0) (Ad (pv 1) Aa))))) (Ak DR) BR)),?_⟩
 refine ⟨_,rfl,_,rfl,_,_,.cons e (.cons g .nil),⟨_,_,rfl,sp,d,xi.mp ord,rfl⟩,λ b n i j=>?_⟩
 obtain rfl:=j.bl_of;exact ⟨_,rfl,iteF (k _ _ i .non)⟩
theorem AK5 (T:Txt K mg ad):CalB P w K mg base true 6 "slants_of" ["bench","lamp","first","last"] (PR K pP):=by
 refine T.Ri.calN Mz (λ _ _ _ _ _ _=>by4 λ _ _ _ _=>rfl) (λ vs H Q E h=>?_) (λ f c6 A outer s H vs Q E S h=>?_)
 ·obtain ⟨_,_,dv,⟨_,_,_,_,_,_,_,_,rfl,_⟩,_⟩:=h;exact dv.len
 obtain ⟨_,_,dv,⟨ps,y,z,U,V,n,m,Z,rfl,c7,a0,bs,a1,a2,ord,W,a3,rfl⟩,k⟩:=h;obtain ⟨b8,b9,B,C,rfl,c0,c1,c9,d0⟩:=dv.four;refine ⟨_,(Ag (Ax (i:=4) Mz.nd (Ai (cU T) S.m Ah (Ad (pv 0) Aa))) (Ag (DQ (Ai (Ac5 T) S.m Ah (Ad (pv 2) (Ad (pv 3) Aa)))) (Ag (Ax (i:=5) Mz.nd (Bp (Ad (pv 2) (Ad (pv 3) Aa)))) (Ag (Df YI rfl (Dc (pv 4)) (Bq (i:=6) Mz.nd) (Ag (Ax (i:=5) Mz.nd (Ai (AL5 T) S.m Ah (Ad (pv 6) (Ad (pv 1) (Ao (Ae Al (pv 5) Ac) (Ao (Ae Al (pv 5) Ac) Aa)))))) (Ak (BP (BW Mx (pv 5) Fl) (Ak (Av Fl)) BR)))) (Ak (Av (pv 5))))))),?_⟩
 refine ⟨_,rfl,_,ps,n,rfl,c0,c7,by omega,λ l a4 d1 a5 d2 hl M=>?_⟩
 have t:a4.length=(Bg ps).length:=by have:=M.len;rw [Y2] at this;exact this
 have hok:∀x∈Bg ps,LimOk (2+ps.length * (n+1)+n) x:=AQ1 c7.bd;refine ⟨_,rfl,_,rfl,_,_,by walk_at "Zv",⟨_,_,rfl,a1.sm (by omega),a2.sm (by omega),ord,rfl⟩,λ d3 a6 D _=>?_⟩
 refine ⟨_,rfl,_,rfl,(by show 2<=Y3;decide),λ X N=>?_⟩
 have F:=Am N (.tup [B,C]);have a7:DV K (upd a6 X (.tup [B,C])) (.ref X) (pairD U V):=DV.upd2 N (by walk_at "Zd") (by walk_at "Zd")
 have u:=(D.trans F) _ _ hl;have p:=M.keep (D.trans F);have t3:=a5.trans (D.trans F);clear F D a5;generalize upd a6 X (.tup [B,C])=c2 at a7 u p t3 ⊢;generalize Bg ps=ls at hok p t k;refine ⟨_,rfl,l,rfl,⟨_,SqL.of u⟩,?_⟩;refine G6 (K:=K) (a:=l) (xs:=a4) (λ i G q=>∃I r g j,G=[some b8,some b9,some B,some C,some (.ref l),some r,I]/\Same c2 q/\DV K q r (pairD g j)/\Bd Z g/\Bd Z j/\Ei ls y z U V=Ei (ls.drop i) y z g j) ⟨_,_,U,V,rfl,Same.refl _,a7,a1,a2,rfl⟩ ?_ ?_ ?_
 ·rintro i G q hi ⟨I,r,g,j,rfl,o,_⟩
  exact SqL.of (o _ _ u)
 ·rintro i x G q hi ⟨I,r,g,j,rfl,o,v,b1,b2,es⟩
  obtain ⟨d,hd,c3⟩:=p.get hi;obtain ⟨Y,O,rfl⟩:=jM hd;have ok:=hok _ (ZB O);rw [wK O] at es;obtain ⟨sa,t1,t2,rfl,R,a8,a9⟩:=DV.t2 (show DV K q r (.tuple [Aj g,Aj j]) from v)
  refine ⟨_,rfl,_,rfl,_,rfl,sa,_,_,_,rfl,rfl,R,rfl,_,rfl,sa,_,_,_,rfl,rfl,R,rfl,?_⟩;refine ⟨_,_,.cons (c3.keep o) (.cons (c1.keep (t3.trans o)) (.cons a8 (.cons a9 .nil))),⟨Y,y,z,g,j,_,m,Z,rfl,ok,a0,bs,b1,b2,W,a3,rfl⟩,λ b0 b5 b6 b=>?_⟩
  cases e:FW Y y z g j with
  | none=>
   rw [e] at b es;obtain rfl:=DV.non_of b;refine ⟨_,rfl,rfl,_,rfl,Bj (by decide) (k _ _ (t3.trans (o.trans b6)) ?_)⟩
   rw [es];exact .non
  | some pr=>
   obtain ⟨J,L⟩:=pr;rw [e] at b es;have b:DV K b5 b0 (pairD J L):=b;obtain ⟨c4,c5,_⟩:=jy e;have b7:=tO (ls:=[Y]) (λ l hl=>by rw [W1.mp hl];exact ok) a0 bs
   have b3:Bd Z J:=by
    rcases X2.mp c4 with rfl | h
    ·exact b1
    ·exact (b7 _ h).mono W
   have b4:Bd Z L:=by
    rcases X2.mp c5 with rfl | h
    ·exact b2
    ·exact (b7 _ h).mono W
   obtain ⟨d4,d5,d6,rfl,c8,_,_⟩:=DV.t2 (show DV K b5 b0 (.tuple [Aj J,Aj L]) from b)
   exact ⟨_,rfl,rfl,_,rfl,BL (by simp) ⟨_,_,J,L,rfl,o.trans b6,b,b3,b4,es⟩⟩
 ·rintro G q ⟨I,r,g,j,rfl,o,v,b1,b2,es⟩
  refine ⟨_,rfl,k _ _ (t3.trans o) ?_⟩;rw [es,t,List.drop_length];exact v
theorem zM (T:Txt K mg ad):CalB P w K mg base true 8 "sharp_places" ["bench","lamp","slants","most"] (PR K pM):=by
 refine T.WM.calN Ks (λ _ _ _ _ _ _=>by4 λ _ _ _ _=>rfl) (λ vs H Q E h=>?_) (λ f b9 A outer s H vs Q E d h=>?_)
 ·obtain ⟨_,_,dv,⟨_,_,_,rfl,_⟩,_⟩:=h;exact dv.len
 obtain ⟨_,_,dv,⟨ps,x,m,rfl,a1,a2,a,a3,y,rfl⟩,k⟩:=h;obtain ⟨a4,a5,a6,I,rfl,d7,a7,a8,d8⟩:=dv.four;obtain ⟨J,d9,a9,rfl,N,c0,c1⟩:=DV.t2 (show DV K H a5 (.tuple [Aj x.h,Aj x.s]) from a7)
 obtain ⟨sa,t1,t2,rfl,c2,c3,c4⟩:=DV.t2 (show DV K H a6 (.tuple [Aj x.f,Aj x.l]) from a8)
 have tb:=oX a1 a2;obtain ⟨c5,sp2⟩:=KZ tb a;refine ⟨_,(Ag (Ax (i:=4) Ks.nd (Ai (U8 T) d.m Ah (Ad (pv 0) Aa))) (Ag (Ax (i:=5) Ks.nd (Ai (HF T) d.m Ah (Ao (Ae Al (Ai (Uw T) d.m Ah (Ad (pv 4) (Ao (Ae Al (pv 1) Ac) Aa))) Ac) (Bc (Ai (Ho T) d.m Ah (Ao (Ae Al (pv 2) Ac) (Ao (Ae Al (pv 2) Ac) Aa))) Aa)))) (Ag (BP (BW (Gh d.units) (pv 5) (Bl (v:=.ref ad.NOUGHT) rfl T.ex.m_NOUGHT rfl)) (Ak (Av (G8 (Bk (Ai (Hv T) d.m Ah (Ad (pv 3) (Bc (Ai (Ag8 T) d.m Ah (Ad (pv 0) (Ad (pv 1) (Ad (pv 2) (Ad (Bl (v:=.ref ad.NOUGHT) rfl T.ex.m_NOUGHT rfl) Aa))))) Aa)))) (Bl (v:=.ref ad.NOWHERE) rfl T.ex.m_NOWHERE rfl) (Bl (v:=.ref ad.EVERYWHERE) rfl T.ex.m_EVERYWHERE rfl)))) BR) (Ag (BP (Bk (Ai (Hv T) d.m Ah (Ad (pv 3) (Ad (Bl (v:=.ref ad.NOUGHT) rfl T.ex.m_NOUGHT rfl) Aa)))) (Ak (Av (Bl (v:=.ref ad.NOWHERE) rfl T.ex.m_NOWHERE rfl))) BR) (Ag (Ax (i:=6) Ks.nd (Ai (nu T) d.m Ah (Ad (pv 4) (Ao (Ae Al (pv 1) Ac) Aa)))) (Ag (Ax (i:=7) Ks.nd (Ai (Kp T) d.m Ah (Ad (pv 3) (Ez (Bp (Bc (Br Ip rfl T.abs Iu (Ao (Ae Al (pv 5) Ac) Aa)) (Ao (Ae Al (pv 5) Ac) Aa))) Aa)))) (Ak (Av (Bp (Ad (Bl (v:=.str "from") rfl T.ex.m_FROM ⟨_,rfl⟩) (Bc (Ai (Ho T) d.m Ah (Ad (pv 6) (Ad (pv 7) Aa))) (Bc (Ai (JN T) d.m Ah (Ad (pv 6) (Ad (pv 7) Aa))) Aa)))))))))))),?_⟩
 refine ⟨_,rfl,_,_,by walk_at "Zv",⟨ps,18,rfl,a1,by omega,rfl⟩,λ b0 e0 b1 c6=>?_⟩
 refine ⟨_,rfl,_,rfl,J,_,_,_,rfl,rfl,N.keep b1,rfl,_,_,by walk_at "Zv",⟨tabOf ps,x.s,309,rfl,Tb.mono tb (by decide),a.s.mono (by decide),by decide,rfl⟩,λ e1 e2 e3 O=>?_⟩
 obtain ⟨b2,e4,e5,rfl,R,c7,c8⟩:=DV.t2 O;refine ⟨b2,_,_,_,rfl,rfl,R,rfl,?_⟩;refine ⟨_,rfl,sa,_,_,_,rfl,rfl,by walk_at "Zt",by rfl,_,rfl,sa,_,_,_,rfl,rfl,by walk_at "Zt",by rfl,_,_,by walk_at "Zv",⟨_,_,rfl,a.l.sm (by decide),a.f.sm (by decide),rfl⟩,λ e6 e7 e8 c9=>?_⟩
 refine ⟨_,_,by walk_at "Zv",⟨_,_,rfl,sp2.sm (by decide),(a.l.sub a.f).sm (by decide),rfl⟩,λ b3 e e9 o=>?_⟩
 have o:DV K e b3 (Aj (growing (tabOf ps) x)):=o;have b4:=oK tb a;refine ⟨_,rfl,Ln o (dN T e) ⟨_,rfl,?_⟩⟩;unfold Zz at k;by_cases g:growing (tabOf ps) x=0
 ·rw [if_pos g] at k;refine Bj (decide_eq_true g) ?_;refine ⟨_,rfl,_,rfl,_,rfl,_,rfl,_,_,.cons (show DV K e a4 (Ec ps) from by walk_at "Zd") (.cons (show DV K e (.ref J) (pairD x.h x.s) from by walk_at "Zd") (.cons (show DV K e (.ref sa) (pairD x.f x.l) from by walk_at "Zd") (.cons (dN T e) .nil))),⟨ps,x.h,x.s,x.f,x.l,0,18,160,1,rfl,a1,a.h.mono (by decide),a.s.mono (by decide),a.f,a.l,Ff 1 (by decide),by omega,rfl⟩,λ S r b5 j=>?_⟩
  have j:DV K r S (Aj (Gf (tabOf ps) x 0)):=by rw [<- Ac8];exact j
  have b6:=AM0 tb a (Ff 12 (by decide))
  refine ⟨_,_,.cons (show DV K r I (Aj m) from by walk_at "Zd") (.cons j .nil),⟨_,_,rfl,y.sm (by decide),b6.sm (by decide),rfl⟩,λ p q U b=>?_⟩
  obtain rfl:=b.bl_of;refine ⟨_,rfl,?_⟩;by_cases c:m < Gf (tabOf ps) x 0
  ·rw [if_pos c] at k;exact Bj (decide_eq_true c) (k _ _ (by walk_at "Zs") (.tup (T.ex.s_NOWHERE _) (.cons (.str _) .nil)))
  ·rw [if_neg c] at k;exact BL (decide_eq_false c) (k _ _ (by walk_at "Zs") (.tup (T.ex.s_EVERYWHERE _) (.cons (.str _) .nil)))
 ·rw [if_neg g] at k;refine BL (decide_eq_false g) ?_;refine ⟨_,rfl,_,_,.cons (show DV K e I (Aj m) from by walk_at "Zd") (.cons (dN T e) .nil),⟨_,_,rfl,y.sm (by decide),Sm.zero,rfl⟩,λ S r b5 j=>?_⟩
  obtain rfl:=j.bl_of;refine ⟨_,rfl,BL (decide_eq_false (xi.mpr a3)) ?_⟩;refine ⟨_,rfl,_,rfl,J,_,_,_,rfl,rfl,by walk_at "Zt",by rfl,_,_,.cons (show DV K r b0 (GK (tabOf ps)) from by walk_at "Zd") (.cons (show DV K r a9 (Aj x.s) from by walk_at "Zd") .nil),⟨tabOf ps,x.s,309,rfl,Tb.mono tb (by decide),Pu ps,a.s.mono (by decide),by decide,rfl⟩,λ p q U b=>?_⟩
  have b7:(spread (tabOf ps) x.s).2≠0:=λ z=>g (by unfold growing;rw [z,wm])
  have b:DV K q p (Aj (mid (tabOf ps) x.s)):=by
   unfold img at b;rw [if_neg b7] at b;exact b
  obtain ⟨V,rfl,d0⟩:=o.fr;refine ⟨_,rfl,_,rfl,V,_,_,_,rfl,rfl,by walk_at "Zt",by rfl,_,rfl,_,rfl,V,_,_,_,rfl,rfl,by walk_at "Zt",by rfl,(by show 2<=Y3;decide),λ t L=>?_⟩
  have W:=Am L (.tup [.int (if (growing (tabOf ps) x).num < 0 then -(growing (tabOf ps) x).num else (growing (tabOf ps) x).num),.int ((growing (tabOf ps) x).den:Int)])
  have B:DV K (upd q t (.tup [.int (if (growing (tabOf ps) x).num < 0 then -(growing (tabOf ps) x).num else (growing (tabOf ps) x).num),.int ((growing (tabOf ps) x).den:Int)])) (.ref t) (Aj (ab (growing (tabOf ps) x))):=by
   rw [Ab3];exact .tup (SqT.of Ar) (.cons (.int _) (.cons (.int _) .nil))
  generalize upd q t (.tup [.int (if (growing (tabOf ps) x).num < 0 then -(growing (tabOf ps) x).num else (growing (tabOf ps) x).num),.int ((growing (tabOf ps) x).den:Int)])=X at W B ⊢
  refine ⟨_,_,.cons (show DV K X I (Aj m) from by walk_at "Zd") (.cons B .nil),⟨_,_,rfl,y.sm (by decide),(O9 b4).sm (by decide),λ z=>g (ab_zero.mp z),rfl⟩,λ C D d1 n=>?_⟩
  have n:DV K D C (Aj (reach (tabOf ps) x m)):=n;have F:=o9 tb a g y;have Y:=lW tb a g;refine ⟨_,rfl,_,rfl,_,_,.cons (show DV K D p (Aj (mid (tabOf ps) x.s)) from by walk_at "Zd") (.cons n .nil),⟨_,_,rfl,Y.sm (by decide),F.sm (by decide),rfl⟩,λ Z G d2 b8=>?_⟩
  refine ⟨_,rfl,_,rfl,_,_,.cons (show DV K G p (Aj (mid (tabOf ps) x.s)) from by walk_at "Zd") (.cons (show DV K G C (Aj (reach (tabOf ps) x m)) from by walk_at "Zd") .nil),⟨_,_,rfl,Y.sm (by decide),F.sm (by decide),rfl⟩,λ a0 d3 d4 M=>?_⟩
  refine ⟨(by show 3<=Y3;decide),λ d5 u=>?_⟩
  have d6:=Am u (.tup [.str "from",Z,a0])
  exact k _ _ (by walk_at "Zs") (DV.upd3 u (.str _) (by walk_at "Zd") M)
end
end K74
namespace K74
open PySem L2 Lib Fr Op Tx PySem.NumText
seal PE PT PW PA PS PSs PG PGs PI PO CK PJ
section
variable {P:Yf}{w:World}{K:FrG}{mg:Y1->Option Value}{base:Heap}{ad:Adr}{c:Bool}
theorem gH (T:Txt K mg ad):CalB P w K mg base true 1 "show_ratio" ["one"] (Q3 K):=by
 refine T.Yk.calN SX (λ _ _ _ _ _ _=>by1 λ _=>rfl) (λ vs H Q E h=>?_) (λ f k A outer s H vs Q E l h=>?_)
 ·obtain ⟨_,_,rfl,_⟩:=h;rfl
 obtain ⟨v,p,rfl,hv,sp,q⟩:=h;have b:=Sq sp.1;have hd:=Sq sp.2;obtain ⟨a,m,n,rfl,h,e1,e2⟩:=DV.t2 (show DV K H v (.tuple [.int p.num,.int (p.den:Int)]) from hv)
 obtain rfl:=DV.int_of e1;obtain rfl:=DV.int_of e2;refine ⟨_,(Ag (Ax (i:=1) SX.nd (Ae Al (pv 0) Ac)) (Ag (Ax (i:=2) SX.nd (Ae Al (pv 0) Ac)) (Ag (BP (BW By (pv 2) Ac) (Ak (Av (HQ aZ rfl T.str Hi (Ad (pv 1) Aa)))) BR) (Ak (Av (yO (cY (pv 1) (rF (cY (pv 2) ym))))))))),?_⟩;refine ⟨_,rfl,a,_,_,_,rfl,rfl,h,rfl,?_⟩;refine ⟨_,rfl,a,_,_,_,rfl,rfl,h,rfl,?_⟩;refine ⟨_,rfl,rfl,_,rfl,?_⟩;have e1:∀x:Y1,cl x=sh p->x=Ay p:=λ x j=>ext (j.trans (JP p).symm)
 refine ite2 (λ c1=>?_) (λ c1=>?_)
 ·have d:p.den=1:=by
   have z:decide (V.int (p.den:Int)=V.int 1)=true:=c1;rw [Fq] at z;have:=of_decide_eq_true z;omega
  refine ⟨_,rfl,_,rfl,b,?_⟩;have e2:Z3 (toString p.num)=Ay p:=e1 _ (by rw [Lj];unfold sh;rw [if_pos d,YY])
  show Q (.str (Z3 (toString p.num))) H;rw [e2];exact q
 ·have d:¬ p.den=1:=by
   intro e
   apply c1
   show decide (V.int (p.den:Int)=V.int 1)=true;rw [Fq,e];rfl
  have g:((p.den:Int)).natAbs.log2 < 1920:=by rw [YV];exact hd
  have o:=Ss b;have r:=Ss g;have z0:ut.length=0:=rfl;have zs:(Z3 "/").length=1:=rfl;refine ⟨_,rfl,_,.inl ⟨_,rfl,b,rfl⟩,CW (by rw [Ck];omega),CW (by rw [Ck,Ck];omega),_,rfl,_,.inl ⟨_,rfl,g,rfl⟩,CW (by rw [Ck,Ck,Ck];omega),CW (by rw [Ck,Ck,Ck];omega),?_⟩
  have e2:=e1 _ (show cl ((ut++Z3 (toString p.num))++(Z3 "/")++Z3 (toString ((p.den:Nat):Int)))=sh p by
   rw [uq,cl,zI];unfold sh;rw [if_neg d])
  show Q (.str ((ut++Z3 (toString p.num))++(Z3 "/")++Z3 (toString ((p.den:Nat):Int)))) H;rw [e2];exact q
theorem xM (T:Txt K mg ad):CalB P w K mg base true 1 "read_part_figures" ["text"] kY:=by
 refine T.Vm.calN Ad4 (λ _ _ _ _ _ _=>by1 λ _=>rfl) (λ vs H Q E h=>?_) (λ f i A outer s H vs Q E j h=>?_)
 ·obtain ⟨_,_,rfl,_⟩:=h;rfl
 obtain ⟨x,m,rfl,b,hl,q⟩:=h;have k:x.length=(dg m).length:=by rw [<- Dm,b]
 have l:=um m;have d:x.length<=Y3:=XT (small1000 (by omega))
 refine ⟨_,(Ag (BP (PW.pt (pw_or (CQ (pW Qo Qo Ac (Br lg rfl T.len DG (Ad (pv 0) Aa)) (Bl (v:=.int 15) rfl T.ex.m_MOST_FIGURES ⟨_,rfl⟩))) (pw_or1 (CQ (Bk (Br (P0 rfl) rfl T.all Nr (DW (m7 rfl (pv 0) T.ex.m_FIGURES (by decide) (by decide) rfl (by decide) rfl rfl rfl rfl) Aa))))))) (Ak DR) BR) (Ak (Av (HQ Qj rfl T.int Ih (Ad (pv 0) Aa))))),?_⟩
 refine ⟨_,rfl,x,rfl,d,_,_,rfl,rfl,_,rfl,Bj (decide_eq_true (by omega)) ⟨_,_,rfl,rfl,_,rfl,BL (by rw [decide_eq_true (by omega)];rfl) ?_⟩⟩
 refine ⟨_,rfl,x,rfl,d,λ p g=>?_⟩
 refine ⟨p,(cl x).map λ c=>decide (48<=c/\c<=57),rfl,SqL.of (by rw [AR3];exact Ar),_,rfl,?_⟩
 have a:NW (cl x):=by rw [b];exact Gn m
 rw [(AX5 (cl x)).mpr a];refine iteF ⟨_,rfl,x,(m:Int),rfl,by omega,?_,q _ (Am g _)⟩
 have e:=intText_digits (x:=x) a (λ e=>by have:=Dm x;rw [cl,e] at this;simp at this;omega) (by omega)
 rw [e];show some ((digitsVal (cl x):Nat):Int)=some (m:Int);rw [b,XN]
theorem iW (T:Txt K mg ad):CalB P w K mg base true 3 "read_ratio" ["text"] (Ny K):=by
 refine T.Vu.calN K9 (λ _ _ _ _ _ _=>by1 λ _=>rfl) (λ vs H Q E h=>?_) (λ f S A outer s H vs Q E g h=>?_)
 ·obtain ⟨_,rfl,_⟩:=h;rfl
 obtain ⟨q,rfl,C,k⟩:=h;have hl:=bN q C;have ex:cl (Ay q)=sh q:=JP q;have Y:(Ay q).length<=40:=by rw [<- Dm,ex];exact hl
 have U:=(Fe (m:=q.num.natAbs) (k:=15) (by decide)).mpr C.n
 have Z:=(Fe (m:=q.den) (k:=15) (by decide)).mpr C.d
 have a3:(Ay q).length+2<=Y3:=XT (small1000 (by omega))
 obtain ⟨a4,a0,W⟩:∃t,PSs (Er true P w K mg base ["text","is_below","parts","top","bottom","one"] "read_ratio" (defScope Ly) f S A outer s H E).nox ((defBody Ly).drop 3) t/\∀(p:Addr) (ps:List Y1) (J:Hp) (a1:Ends),J p=some (.lst (ps.map V.str))->ps.map cl=cut 47 (bd q)->(∀v D,Same J D->DV K D v (Aj q)->a1.rt v D)->
   t a1 [some (.str (Ay q)),some (.bl (decide (q.num < 0))),some (.ref p),none,none,none] J:=by
  refine ⟨_,(Ag (BP (BW Hq (Br DX rfl T.len DG (Ad (pv 2) Aa)) Ac) (Ak DR) BR) (Ag (Ax (i:=3) K9.nd (Ai (xM T) g.m Ah (Ao (Ae Az (pv 2) Ac) Aa))) (Ag (Ax (i:=4) K9.nd (G8 (BW By (Br DX rfl T.len DG (Ad (pv 2) Aa)) Ac) (Ai (xM T) g.m Ah (Ao (Ae Az (pv 2) Ac) Aa)) Ac)) (Ag (Ax (i:=5) K9.nd (Bp (AU0 (G8 (Bk (pv 1)) (Aw GR Ac (pv 3)) (pv 3)) (Ad (pv 4) Aa)))) (Ag (BP (PW.pt (pw_or (CQ (Bk (Ai (QG T) g.m Ah (Ad (pv 5) Aa)))) (pw_or1 (BW Ey (Ai (gH T) g.m Ah (Ad (pv 5) Aa)) (pv 0))))) (Ak DR) BR) (Ak (Av (pv 5)))))))),?_⟩
  intro p ps J a1 e a k;rw [wU] at a;have j:(if q.num < 0 then (0:Int) - ((q.num.natAbs:Nat):Int) else ((q.num.natAbs:Nat):Int))=q.num:=by split<;>omega
  have I:∀(B:Hp) (r:Addr),B r=none->∀v:Int,v=q.num->Same J B->DV K (upd B r (.tup [.int v,.int ((q.den:Nat):Int)])) (.ref r) (Aj q)/\Same J (upd B r (.tup [.int v,.int ((q.den:Nat):Int)])):=λ B r g v hv N=>by
   subst hv;exact ⟨.tup (SqT.of Ar) (.cons (.int _) (.cons (.int _) .nil)),N.trans (Am g _)⟩
  by_cases hd:q.den=1
  ·rw [if_pos hd] at a
   match ps,a,e with
   | [z],a,e=>
    have O:cl z=dg q.num.natAbs:=(XP a).1;refine ⟨_,rfl,p,_,rfl,.inl (SqL.of e),_,_,rfl,rfl,_,rfl,BL (by rfl) ?_⟩
    refine ⟨_,rfl,p,_,_,_,rfl,rfl,SqL.of e,Dv,z,q.num.natAbs,rfl,O,U,λ R G=>?_⟩
    refine ⟨_,rfl,p,_,rfl,.inl (SqL.of (G _ _ e)),rfl,_,rfl,BL (by rfl) ?_⟩
    have e1:((1:Nat):Int)=((q.den:Nat):Int):=by rw [hd]
    refine ⟨_,rfl,_,rfl,?_⟩;by_cases l:q.num < 0
    ·rw [if_pos l] at j;refine Bj (decide_eq_true l) ⟨_,rfl,_,_,rfl,rfl,_,rfl,(by show 2<=Y3;decide),λ r g=>?_⟩
     obtain ⟨b,o⟩:=I R r g _ j G;rw [<- e1] at b o;exact ⟨_,rfl,.ref r,q,rfl,b,⟨_,rfl,iteF ⟨_,rfl,.ref r,q,rfl,b,Ji C,_,rfl,rfl,_,rfl,BL (by rw [decide_eq_true rfl];rfl) ⟨_,rfl,k _ _ o b⟩⟩⟩⟩
    ·rw [if_neg l] at j;refine BL (decide_eq_false l) ⟨_,rfl,_,rfl,(by show 2<=Y3;decide),λ r g=>?_⟩
     obtain ⟨b,o⟩:=I R r g _ j G;rw [<- e1] at b o;exact ⟨_,rfl,.ref r,q,rfl,b,⟨_,rfl,iteF ⟨_,rfl,.ref r,q,rfl,b,Ji C,_,rfl,rfl,_,rfl,BL (by rw [decide_eq_true rfl];rfl) ⟨_,rfl,k _ _ o b⟩⟩⟩⟩
   | [],a,_=>simp at a
   | _::_::_,a,_=>simp at a
  ·rw [if_neg hd] at a
   match ps,a,e with
   | [z,y],a,e=>
    have O:cl z=dg q.num.natAbs:=(XP a).1;have a2:cl y=dg q.den:=(XP (XP a).2).1;refine ⟨_,rfl,p,_,rfl,.inl (SqL.of e),_,_,rfl,rfl,_,rfl,BL (by rfl) ?_⟩
    refine ⟨_,rfl,p,_,_,_,rfl,rfl,SqL.of e,Dv,z,q.num.natAbs,rfl,O,U,λ R G=>?_⟩
    refine ⟨_,rfl,p,_,rfl,.inl (SqL.of (G _ _ e)),rfl,_,rfl,Bj (by rfl) ?_⟩
    refine ⟨_,rfl,p,_,_,_,rfl,rfl,SqL.of (G _ _ e),rfl,y,q.den,rfl,a2,Z,λ B N=>?_⟩
    have M:=G.trans N;refine ⟨_,rfl,_,rfl,?_⟩;by_cases l:q.num < 0
    ·rw [if_pos l] at j;refine Bj (decide_eq_true l) ⟨_,rfl,_,_,rfl,rfl,_,rfl,(by show 2<=Y3;decide),λ r g=>?_⟩
     obtain ⟨b,o⟩:=I B r g _ j M;exact ⟨_,rfl,.ref r,q,rfl,b,⟨_,rfl,iteF ⟨_,rfl,.ref r,q,rfl,b,Ji C,_,rfl,rfl,_,rfl,BL (by rw [decide_eq_true rfl];rfl) ⟨_,rfl,k _ _ o b⟩⟩⟩⟩
    ·rw [if_neg l] at j;refine BL (decide_eq_false l) ⟨_,rfl,_,rfl,(by show 2<=Y3;decide),λ r g=>?_⟩
     obtain ⟨b,o⟩:=I B r g _ j M;exact ⟨_,rfl,.ref r,q,rfl,b,⟨_,rfl,iteF ⟨_,rfl,.ref r,q,rfl,b,Ji C,_,rfl,rfl,_,rfl,BL (by rw [decide_eq_true rfl];rfl) ⟨_,rfl,k _ _ o b⟩⟩⟩⟩
   | [],a,_=>simp at a
   | [_],a,_=>simp at a
   | _::_::_::_,a,_=>simp at a
 refine ⟨_,(Ag (BP (CQ (Bk (Br Fv rfl T.isinstance Fb (Ad (pv 0) (Ad (Fo (v:=.ty "str") rfl T.str Hi rfl) Aa))))) (Ak DR) BR) (Ag (Ax (i:=1) K9.nd (Ce YD PySem.F.slot_str_startswith PySem.F.type_str_startswith AN5 (pv 0) (Bf Ba Aa))) (Ag (Ax (i:=2) K9.nd (G8 (Bk (pv 1)) (Ce YD XY Wx Gy (Em Ju (pv 0) (Dy Ac) Fj) (Bf Ba Aa)) (Ce YD XY Wx Gy (pv 0) (Bf Ba Aa)))) a0))),?_⟩;have st:∀x:Y1,qb x (Z3 "-")=decide ((cl x).head?=some 45):=λ x=>by rw [zF,yd]
 have X:∀x:Y1,(XG x (Z3 "/")).map cl=cut 47 (cl x):=λ x=>by rw [AG7,JZ]
 refine ⟨_,rfl,_,_,_,_,rfl,.str _,KY _,_,rfl,iteF ?_⟩;refine ⟨_,rfl,rfl,_,_,rfl,rfl,?_⟩;have e1:qb (Ay q) (Z3 "-")=decide (q.num < 0):=by rw [st,ex,AR7]
 rw [e1];refine ⟨_,rfl,_,rfl,?_⟩;have L:=zm q;by_cases u:q.num < 0
 ·refine Bj (decide_eq_true u) ?_;have a5:(Wt (Ay q) (some 1) none).length<=40:=Zo (Txt.slice_le _ _ _) Y;refine ⟨_,rfl,_,rfl,Ay q,rfl,CW (by omega),rfl,_,_,rfl,rfl,rfl,CW (by omega),λ p e=>?_⟩
  rw [if_pos u] at L;exact W p _ _ _ Ar (by rw [X,tZ,ex,L]) λ v D s' hv=>k v D ((Am e _).trans s') hv
 ·refine BL (decide_eq_false u) ?_;refine ⟨_,rfl,rfl,_,_,rfl,rfl,rfl,CW (by omega),λ p e=>?_⟩
  rw [if_neg u] at L;exact W p _ _ _ Ar (by rw [X,ex,L]) λ v D s' hv=>k v D ((Am e _).trans s') hv
theorem AV0 (T:Txt K mg ad):CalB P w K mg base true 4 "read_number_texts" ["word"] (Ny K):=by
 refine T.VB.calN wA (λ _ _ _ _ _ _=>by1 λ _=>rfl) (λ vs H Q E h=>?_) (λ f d A outer s H vs Q E a h=>?_)
 ·obtain ⟨_,rfl,_⟩:=h;rfl
 obtain ⟨q,rfl,b,k⟩:=h;refine ⟨_,(Ak (j6 (iW T) a.m (Ad (pv 0) Aa))),?_⟩
 exact ⟨_,rfl,q,rfl,b,k⟩
theorem AN3 (T:Txt K mg ad):MkC P w K mg base 1 "Reader" ad.Reader ["self","words"] (iQ ad.Reader):=by
 refine T.ex.i_Reader.mkc AS4 (λ _ _ _ _ _ _=>Bm λ _ _=>rfl) (λ vs H Q E h=>?_) (λ f g A outer s H vs Q E i h=>?_)
 ·obtain ⟨a,b,d,rfl,_⟩:=h;rfl
 obtain ⟨a,b,d,rfl,e,q⟩:=h;refine ⟨_,(Ag (J0 (pv 0) (pv 1)) (Ak (J0 (pv 0) Ac))),?_⟩;refine ⟨_,rfl,_,rfl,a,ad.Reader,b,[],rfl,e,T.ex.l_Reader,T.ex.n_Reader_words,by decide,?_⟩
 refine ⟨_,rfl,a,ad.Reader,b,[("words",.ref d)],rfl,Ar,T.ex.l_Reader,T.ex.n_Reader_place,by show 1 < 1000;decide,?_⟩
 rw [GJ];exact q
theorem V2 (T:Txt K mg ad):MC P w K mg base 1 ad.Reader "is_done" ["self"] (nW ad.Reader):=by
 refine T.ex.q_Reader_is_done.mc AI9 (λ _ _ _ _ _ _=>by1 λ _=>rfl) (λ vs H Q E h=>?_) (λ f j A outer s H vs Q E k h=>?_)
 ·obtain ⟨_,_,_,_,_,rfl,_⟩:=h;rfl
 obtain ⟨a,d,g,e,i,rfl,b,q⟩:=h;refine ⟨_,(Ak (Av (Dr By (Ft (pv 0)) (Br DX rfl T.len DG (DW (Ft (pv 0)) Aa))))),?_⟩;refine ⟨_,rfl,a,_,d,_,_,rfl,b.r,T.ex.l_Reader,T.ex.n_Reader_place,rfl,_,rfl,a,_,d,_,_,rfl,b.r,T.ex.l_Reader,T.ex.n_Reader_words,rfl,g,_,rfl,.inl (SqL.of b.w),rfl,?_⟩;rw [Fq,Y2,show decide (((i:Nat):Int)=((e.length:Nat):Int))=decide (i=e.length) from decide_eq_decide.mpr ⟨λ h=>by omega,λ h=>by omega⟩]
 exact q
theorem Kz (T:Txt K mg ad):MC P w K mg base 2 ad.Reader "take" ["self"] (lR ad.Reader):=by
 refine T.ex.q_Reader_take.mc vA (λ _ _ _ _ _ _=>by1 λ _=>rfl) (λ vs H Q E h=>?_) (λ f p A outer s H vs Q E n h=>?_)
 ·obtain ⟨_,_,_,_,_,_,rfl,_⟩:=h;rfl
 obtain ⟨a,b,j,o,i,z,rfl,d,l,q⟩:=h;have t:=CT l;refine ⟨_,(Ag (BP (Bk (JX (k:=1) (pv 0) n.m)) (Ak DR) BR) (Ag (aX (pv 0) Ac qw) (Ak (Av (Ae Az (Ft (pv 0)) (Aw GR (Ft (pv 0)) Ac)))))),?_⟩
 refine ⟨_,rfl,a,_,b,_,_,_,rfl,d.r,rfl,V2 T,a,b,j,o,i,rfl,d,_,rfl,BL (decide_eq_false (by omega)) ?_⟩
 refine ⟨_,rfl,a,_,b,_,_,rfl,d.r,T.ex.l_Reader,T.ex.n_Reader_place,rfl,_,_,rfl,rfl,b,_,d.r,by show 2 < 1000;decide,?_⟩
 have g:=d.step (i+1);have e:((i:Int)+1)=((i+1:Nat):Int):=by omega
 rw [e];refine ⟨_,rfl,a,_,b,_,_,rfl,g.r,T.ex.l_Reader,T.ex.n_Reader_words,rfl,_,rfl,a,_,b,_,_,rfl,g.r,T.ex.l_Reader,T.ex.n_Reader_place,rfl,_,_,rfl,rfl,j,_,_,.str z,rfl,rfl,SqL.of g.w,?_,q⟩;have e2:((i+1:Nat):Int) - 1=(i:Int):=by omega
 rw [e2];exact Bh (by rw [ZN,l];rfl)
theorem yN (T:Txt K mg ad):MC P w K mg base 2 ad.Reader "take_if" ["self","word"] (eU ad.Reader):=by
 refine T.ex.q_Reader_take_if.mc yw (λ _ _ _ _ _ _=>Bm λ _ _=>rfl) (λ vs H Q E h=>?_) (λ f u A outer s H vs Q E p h=>?_)
 ·obtain ⟨_,_,_,_,_,_,rfl,_⟩:=h;rfl
 obtain ⟨a,g,n,b,i,z,rfl,d,le,q,o⟩:=h;refine ⟨_,(Ag (BP (PW.pt (pw_or (Bk (JX (k:=1) (pv 0) p.m)) (pw_or1 (BW Ey (Ae Az (Ft (pv 0)) (Ft (pv 0))) (pv 1))))) (Ak (Av Cu)) BR) (Ag (aX (pv 0) Ac qw) (Ak (Av Cu)))),?_⟩
 refine ⟨_,rfl,a,_,g,_,_,_,rfl,d.r,rfl,V2 T,a,g,n,b,i,rfl,d,_,rfl,?_⟩;by_cases hi:i=b.length
 ·refine Bj (decide_eq_true hi) (iteT (o λ e=>?_))
  have:=CT e;omega
 ·refine BL (decide_eq_false hi) ?_;have t:i < b.length:=by omega
  have l:b[i]?=some b[i]:=ZO t;refine ⟨_,rfl,a,_,g,_,_,rfl,d.r,T.ex.l_Reader,T.ex.n_Reader_words,rfl,_,rfl,a,_,g,_,_,rfl,d.r,T.ex.l_Reader,T.ex.n_Reader_place,rfl,n,_,_,.str b[i],rfl,rfl,SqL.of d.w,Bh (by rw [ZN,l];rfl),_,rfl,rfl,_,rfl,?_⟩
  by_cases j:b[i]=z
  ·refine BL (by rw [DK,decide_eq_true j];rfl) ?_
   refine ⟨_,rfl,a,_,g,_,_,rfl,d.r,T.ex.l_Reader,T.ex.n_Reader_place,rfl,_,_,rfl,rfl,g,_,d.r,by show 2 < 1000;decide,?_⟩
   have e:((i:Int)+1)=((i+1:Nat):Int):=by omega
   rw [e];exact q (by rw [l,j])
  ·exact Bj (by rw [DK,decide_eq_false j];rfl) (o (by rw [l];exact λ e=>j (XM e)))
theorem AM5 (T:Txt K mg ad):CalB P w K mg base true 1 "words_of" ["text"] iR:=by
 refine T.aD.calN Z5 (λ _ _ _ _ _ _=>by1 λ _=>rfl) (λ vs H Q E h=>?_) (λ f Y A outer s H vs Q E Z h=>?_)
 ·obtain ⟨_,rfl,_⟩:=h;rfl
 obtain ⟨x,rfl,R,S,I,q⟩:=h;refine ⟨_,(Ag (Ax (i:=1) Z5.nd (CN Aa)) (Ag (Df YI rfl (Dc (Ce YD XY Wx Gy (pv 0) (Bf Ba Aa))) (Bq (i:=2) Z5.nd) (Ak (BP (Bk (Ce YD PySem.F.slot_str_endswith PySem.F.type_str_endswith Ag7 (pv 2) (Ad (Bl (v:=.str ";") rfl T.ex.m_PARTED ⟨_,rfl⟩) Aa))) (Ag (DQ (Ce Xq Xt Xx Fy (pv 1) (Ao (Em Ju (pv 2) Fj (Dy (gA mQ Ac))) Aa))) (Ak (DQ (Ce Xq Xt Xx Fy (pv 1) (Ad (Bl (v:=.str ";") rfl T.ex.m_PARTED ⟨_,rfl⟩) Aa))))) (Ak (DQ (Ce Xq Xt Xx Fy (pv 1) (Ad (pv 2) Aa))))))) (Ak (Av (pv 1))))),?_⟩;refine ⟨(by show 0<=Y3;decide),λ l hl=>?_⟩
 have u0:=Am hl (.lst []);have y:upd H l (.lst []) l=some (.lst []):=Ar;generalize upd H l (.lst [])=J at u0 y ⊢;refine ⟨_,rfl,rfl,x,_,rfl,rfl,rfl,R,λ p n=>⟨p,rfl,⟨_,SqL.of Ar⟩,?_⟩⟩
 have B:p≠l:=λ e=>by rw [e,y] at n;cases n
 have C:upd J p (.lst ((XG x (Z3 " ")).map V.str)) p=some (.lst ((XG x (Z3 " ")).map V.str)):=Ar;have L:=Am n (.lst ((XG x (Z3 " ")).map V.str)) _ _ y;have M:=u0.trans (Am n (.lst ((XG x (Z3 " ")).map V.str)));generalize upd J p (.lst ((XG x (Z3 " ")).map V.str))=a0 at C L M ⊢;generalize a1:XG x (Z3 " ")=j at S I q C ⊢;have U:∀i,(DP (j.take i)).length<=40002:=by
  intro i;have a2:∀D:List Y1,(DP D).length<=2 * D.length:=by
   intro D
   induction D with
   | nil=>exact ZK _
   | cons w D a3=>
    have e:DP (w::D)=Ej w++DP D:=by unfold DP;rw [YB,ze]
    rw [e,X1,X9];have:(Ej w).length<=2:=by unfold Ej;split<;>simp
    omega
  have:=a2 (j.take i);rw [YR] at this;omega
 have step:∀(i:Nat) (z:Y1),j[i]?=some z->DP (j.take (i+1))=DP (j.take i)++Ej z:=by
  intro i z W;rw [Xe,W];unfold DP;rw [U4,List.flatten_append];simp
 refine G6 (K:=K) (a:=p) (xs:=j.map V.str) (λ i o d=>∃r,o=[some (.str x),some (.ref l),r]/\Same H d/\d p=some (.lst (j.map V.str))/\d l=some (.lst ((DP (j.take i)).map V.str))) ⟨_,rfl,M,C,by rw [NG];exact L⟩ ?_ ?_ ?_
 ·rintro i o d hi ⟨r,rfl,k,g,b⟩
  exact SqL.of g
 ·rintro i v o d hi ⟨r,rfl,k,g,b⟩
  rw [ZN] at hi;cases t:j[i]? with
  | none=>rw [t] at hi;cases hi
  | some z=>
   rw [t] at hi;cases hi
   have es:=step i z t;have a4:=U i;have X:z.length<=Y3:=Zo (I z (ZB t)) (by decide)
   refine ⟨_,rfl,rfl,z,_,rfl,rfl,_,rfl,?_⟩;cases N:FO z (Z3 ";") with
   | true=>
    have G:Ej z=[Wt z none (some (-1)),Z3 ";"]:=by unfold Ej;rw [if_pos N]
    refine iteT ⟨_,rfl,.inl ⟨rfl,_,SqL.of b⟩,_,rfl,_,rfl,_,rfl,z,rfl,X,l,_,_,rfl,rfl,b,WK (by rw [Y2];omega),?_⟩
    have m:upd d l (.lst ((DP (j.take i)).map V.str++[.str (Wt z none (some (-1)))])) l=some (.lst ((DP (j.take i)).map V.str++[.str (Wt z none (some (-1)))])):=Ar;have u:upd d l (.lst ((DP (j.take i)).map V.str++[.str (Wt z none (some (-1)))])) p=some (.lst (j.map V.str)):=by rw [BK B];exact g
    have O:=Px k hl (.lst ((DP (j.take i)).map V.str++[.str (Wt z none (some (-1)))]));generalize upd d l (.lst ((DP (j.take i)).map V.str++[.str (Wt z none (some (-1)))]))=a5 at m u O ⊢;refine ⟨_,rfl,.inl ⟨rfl,_,SqL.of m⟩,l,_,_,rfl,rfl,m,WK (by rw [X1,Y2];simp only [X9,YG];omega),?_⟩
    refine ⟨_,rfl,Px O hl _,by rw [BK B];exact u,?_⟩
    rw [Ar,es,G,U4,Xs];rfl
   | false=>
    have G:Ej z=[z]:=by unfold Ej;rw [if_neg (by rw [N];exact ZH)]
    refine iteF ⟨_,rfl,.inl ⟨rfl,_,SqL.of b⟩,_,rfl,l,_,_,rfl,rfl,b,WK (by rw [Y2];omega),?_⟩
    refine ⟨_,rfl,Px k hl _,by rw [BK B];exact g,?_⟩
    rw [Ar,es,G,U4];rfl
 ·rintro o d ⟨r,rfl,k,g,b⟩
  rw [Y2,YU] at b;exact ⟨_,rfl,q l d k hl b⟩
theorem bK {q:Rat}(h:Short q):Bd 50 q:=by
 have a:(10:Nat) ^ 15<=2 ^ 50:=by decide
 exact ⟨Y7 h.n a,Y7 h.d a⟩
theorem Ad2 (T:Txt K mg ad):CalB P w K mg base true 5 "read_part_texts" ["reader","deep"] (cO K ad.Reader):=by
 have Y:=T.Zj.not (P:=P) (w:=w) (base:=base) (k:=0) AR0 (λ _ _ _ _ _ _=>JM λ _ _ _=>rfl)
 refine T.Wy.calN QX (λ _ _ _ _ _ _=>Bm λ _ _=>rfl) (λ vs H Q E h=>?_) (λ f a2 A outer s H vs Q E n h=>?_)
 ·obtain ⟨_,_,_,_,_,_,_,rfl,_⟩:=h;rfl
 obtain ⟨a,b,d,l,i,p,dp,rfl,M,tk,ps,k⟩:=h;refine ⟨_,(Ag (Ax (i:=2) QX.nd (JX (k:=2) (pv 0) n.m)) (Ag (BP (PW.pt (pw_or (BW By (pv 2) (Bl (v:=.str "gap") rfl T.ex.m_GAP ⟨_,rfl⟩)) (pw_or1 (BW By (pv 2) (Bl (v:=.str "glass") rfl T.ex.m_GLASS ⟨_,rfl⟩))))) (Ak (Av (Bp (Ad (pv 2) (Bc (Ai (AV0 T) n.m Ah (Bc (JX (k:=2) (pv 0) n.m) Aa)) Aa))))) BR) (Ag (BP (BW Ey (pv 2) (Bl (v:=.str "stop") rfl T.ex.m_STOP ⟨_,rfl⟩)) (Ak (Av (Ai Y n.m Ah (Ad (pv 0) (Ad (pv 2) (Ad (pv 1) Aa)))))) BR) (Ag (Ax (i:=3) QX.nd (Ai (AV0 T) n.m Ah (Bc (JX (k:=2) (pv 0) n.m) Aa))) (Ag (Ax (i:=4) QX.nd (Ai (AV0 T) n.m Ah (Bc (JX (k:=2) (pv 0) n.m) Aa))) (Ag (BP (CQ (Bk (Ai (oY T) n.m Ah (Ez (Bp (Ad (Bl (v:=.str "stop") rfl T.ex.m_STOP ⟨_,rfl⟩) (Ad (pv 3) (Ad (pv 4) Aa)))) Aa)))) (Ak DR) BR) (Ak (Av (Bp (Ad (Bl (v:=.str "stop") rfl T.ex.m_STOP ⟨_,rfl⟩) (Ad (pv 3) (Ad (pv 4) Aa)))))))))))),?_⟩
 have Z:l[i]?=some (wd p):=tk 0 (wd p) rfl;refine ⟨_,rfl,a,_,b,_,_,_,rfl,M.r,rfl,Kz T,a,b,d,l,i,wd p,rfl,M,Z,?_⟩;have e:=M.step (i+1);have z:SD a H (upd H a (Cw ad.Reader b d (i+1))):=JB _;generalize upd H a (Cw ad.Reader b d (i+1))=o at e z ⊢;cases p with
 | gap q=>
  have N:Short q:=ps.2 q (by simp [fracs])
  have t1:l[i+1]?=some (Ay q):=tk 1 (Ay q) rfl;refine ⟨_,rfl,rfl,_,rfl,Bj (by rw [DK];exact decide_eq_true rfl) (iteT ?_)⟩
  refine ⟨_,rfl,_,rfl,a,_,b,_,_,_,rfl,e.r,rfl,Kz T,a,b,d,l,i+1,Ay q,rfl,e,t1,?_⟩;have g:=e.step (i+1+1);have j:SD a o (upd o a (Cw ad.Reader b d (i+1+1))):=JB _;generalize upd o a (Cw ad.Reader b d (i+1+1))=S at g j ⊢;refine ⟨q,rfl,N,λ v C D hv=>⟨(by show 2<=Y3;decide),λ t x=>?_⟩⟩
  have u:=D.trans (Am x (.tup [.str (Z3 "gap"),v]));exact k _ _ ((z.trans j).trans (Lib.SD.ofSame u)) (g.keep u) (DV.upd2 x (.str _) hv)
 | glass q=>
  have N:Short q:=ps.2 q (by simp [fracs])
  have t1:l[i+1]?=some (Ay q):=tk 1 (Ay q) rfl;have O:wd (.glass q)≠Z3 "gap":=by show Z3 "glass"≠_;decide+kernel
  refine ⟨_,rfl,rfl,_,rfl,BL (by rw [DK];exact decide_eq_false O) ⟨_,rfl,rfl,_,rfl,Bj (by rw [DK];exact decide_eq_true rfl) ?_⟩⟩
  refine ⟨_,rfl,_,rfl,a,_,b,_,_,_,rfl,e.r,rfl,Kz T,a,b,d,l,i+1,Ay q,rfl,e,t1,?_⟩;have g:=e.step (i+1+1);have j:SD a o (upd o a (Cw ad.Reader b d (i+1+1))):=JB _;generalize upd o a (Cw ad.Reader b d (i+1+1))=S at g j ⊢;refine ⟨q,rfl,N,λ v C D hv=>⟨(by show 2<=Y3;decide),λ t x=>?_⟩⟩
  have u:=D.trans (Am x (.tup [.str (Z3 "glass"),v]));exact k _ _ ((z.trans j).trans (Lib.SD.ofSame u)) (g.keep u) (DV.upd2 x (.str _) hv)
 | stop lo hi=>
  have U:Short lo:=ps.2 lo (by simp [fracs])
  have V:Short hi:=ps.2 hi (by simp [fracs])
  have t1:l[i+1]?=some (Ay lo):=tk 1 (Ay lo) rfl;have t2:l[i+2]?=some (Ay hi):=tk 2 (Ay hi) rfl;have O:wd (.stop lo hi)≠Z3 "gap":=by show Z3 "stop"≠_;decide+kernel
  have a0:wd (.stop lo hi)≠Z3 "glass":=by show Z3 "stop"≠_;decide+kernel
  refine ⟨_,rfl,rfl,_,rfl,BL (by rw [DK];exact decide_eq_false O) ⟨_,rfl,rfl,_,rfl,BL (by rw [DK];exact decide_eq_false a0) ?_⟩⟩
  refine ⟨_,rfl,rfl,_,rfl,BL (by rw [DK,decide_eq_true (show wd (.stop lo hi)=Z3 "stop" from rfl)];rfl) ?_⟩
  refine ⟨_,rfl,a,_,b,_,_,_,rfl,e.r,rfl,Kz T,a,b,d,l,i+1,Ay lo,rfl,e,t1,?_⟩;have g:=e.step (i+1+1);have j:SD a o (upd o a (Cw ad.Reader b d (i+1+1))):=JB _;generalize upd o a (Cw ad.Reader b d (i+1+1))=S at g j ⊢;refine ⟨lo,rfl,U,λ v C D hv=>?_⟩
  have B:=g.keep D;refine ⟨_,rfl,a,_,b,_,_,_,rfl,B.r,rfl,Kz T,a,b,d,l,i+1+1,Ay hi,rfl,B,t2,?_⟩;have I:=B.step (i+1+1+1);have F:SD a C (upd C a (Cw ad.Reader b d (i+1+1+1))):=JB _;have J:DV K (upd C a (Cw ad.Reader b d (i+1+1+1))) v (Aj lo):=Fg (Ug B.r F) (Nf _) hv;generalize upd C a (Cw ad.Reader b d (i+1+1+1))=a3 at I F J ⊢;refine ⟨hi,rfl,V,λ y a4 R W=>?_⟩
  have L:=J.keep R;refine ⟨_,rfl,_,rfl,(by show 3<=Y3;decide),λ t x=>?_⟩
  have u:=Am x (.tup [.str (Z3 "stop"),v,y]);refine ⟨.ref t,.stop lo hi,50,rfl,.tup (SqT.of Ar) (.cons (.str _) (.cons (L.keep u) (.cons (W.keep u) .nil))),ps.1,⟨bK U,bK V⟩,by decide,λ a5 a1=>⟨_,rfl,iteF ?_⟩⟩
  refine ⟨_,rfl,_,rfl,(by show 3<=Y3;decide),λ t2 X=>?_⟩
  have G:=(u.trans a1).trans (Am X (.tup [.str (Z3 "stop"),v,y]));refine k _ _ ((((z.trans j).trans (Lib.SD.ofSame D)).trans F).trans (Lib.SD.ofSame (R.trans G))) (I.keep (R.trans G)) (.tup (SqT.of Ar) (.cons (.str _) (.cons (L.keep G) (.cons (W.keep G) .nil))))
theorem AI2 (T:Txt K mg ad):CalB P w K mg base true 2 "count_of" ["parts"] (oW K):=by
 have D:=T.Oo.not (P:=P) (w:=w) (base:=base) (k:=0) MP (λ _ _ _ _ _ _=>by1 λ _=>rfl)
 refine T.Oo.calN MP (λ _ _ _ _ _ _=>by1 λ _=>rfl) (λ vs H Q E h=>?_) (λ f M A outer s H vs Q E F h=>?_)
 ·obtain ⟨_,_,rfl,_⟩:=h;rfl
 obtain ⟨v,ps,rfl,hv,q⟩:=h;obtain ⟨b,xs,rfl,y,o⟩:=hv.lst_of;have hl:xs.length=ps.length:=by have:=o.len;rw [Y2] at this;exact this
 refine ⟨_,(Ag (Ax (i:=1) MP.nd Ac) (Ag (Df YI rfl (Dc (pv 0)) (Bq (i:=2) MP.nd) (Ak (AR5 (i:=1) MP.nd rfl (Or.inl rfl) (G8 (BW By (Ae Al (pv 2) Ac) (Bl (v:=.str "times") rfl T.ex.m_TIMES ⟨_,rfl⟩)) (Aw Fp (Ae Al (pv 2) Ac) (Ai D F.m Ah (Ao (Ae Al (pv 2) Ac) Aa))) Ac) zc))) (Ak (Av (pv 1))))),?_⟩
 refine ⟨_,rfl,b,rfl,⟨_,y⟩,?_⟩;refine G6 (K:=K) (a:=b) (xs:=xs) (λ i l e=>∃n,l=[some (.ref b),some (.int (i:Int)),n]/\e=H) ⟨_,rfl,rfl⟩ ?_ ?_ ?_
 ·rintro i l e hi ⟨n,rfl,rfl⟩
  exact y
 ·rintro i x l e hi ⟨n,rfl,rfl⟩
  obtain ⟨d,hd,p⟩:=o.get hi;obtain ⟨r,N,rfl⟩:=JD hd;obtain ⟨t,u,z,rfl,g,G,ne⟩:∃(t:Addr) (u:Y1) (z:List V),x=.ref t/\SqT K e t (.str u::z)/\u=wd r/\wd r≠Z3 "times":=by
   cases r with
   | gap I=>
    obtain ⟨t,B,C,rfl,g,j,_⟩:=DV.t2 (show DV K e x (.tuple [.str "gap",Aj I]) from p)
    obtain rfl:=DV.str_of j;exact ⟨t,_,_,rfl,g,rfl,by show Z3 "gap"≠_;decide+kernel⟩
   | glass I=>
    obtain ⟨t,B,C,rfl,g,j,_⟩:=DV.t2 (show DV K e x (.tuple [.str "glass",Aj I]) from p)
    obtain rfl:=DV.str_of j;exact ⟨t,_,_,rfl,g,rfl,by show Z3 "glass"≠_;decide+kernel⟩
   | stop J L=>
    obtain ⟨t,B,C,O,rfl,g,j,_,_⟩:=DV.t3 (show DV K e x (.tuple [.str "stop",Aj J,Aj L]) from p)
    obtain rfl:=DV.str_of j;exact ⟨t,_,_,rfl,g,rfl,by show Z3 "stop"≠_;decide+kernel⟩
  subst G;refine ⟨_,rfl,_,rfl,t,_,_,_,rfl,rfl,g,Dv,rfl,_,rfl,BL (by rw [DK];exact decide_eq_false ne) ⟨_,_,rfl,rfl,?_⟩⟩
  exact ⟨_,by show [some (V.ref b),some (V.int ((i:Int)+1)),some (V.ref t)]=_;rfl,rfl⟩
 ·rintro l e ⟨n,rfl,rfl⟩
  rw [hl];exact ⟨_,rfl,q⟩
theorem Ab2 {H:Hp}{x:V}{d:Pc}(e:DV K H x (CV d)):∃(t:Addr) (h:List V),x=.ref t/\SqT K H t (.str (wd d)::h)/\wd d≠Z3 "times":=by
 cases d with
 | gap i=>
  obtain ⟨t,f,g,rfl,a,b,_⟩:=DV.t2 (show DV K H x (.tuple [.str "gap",Aj i]) from e)
  obtain rfl:=DV.str_of b;exact ⟨t,_,rfl,a,by show Z3 "gap"≠_;decide+kernel⟩
 | glass i=>
  obtain ⟨t,f,g,rfl,a,b,_⟩:=DV.t2 (show DV K H x (.tuple [.str "glass",Aj i]) from e)
  obtain rfl:=DV.str_of b;exact ⟨t,_,rfl,a,by show Z3 "glass"≠_;decide+kernel⟩
 | stop j k=>
  obtain ⟨t,f,g,l,rfl,a,b,_,_⟩:=DV.t3 (show DV K H x (.tuple [.str "stop",Aj j,Aj k]) from e)
  obtain rfl:=DV.str_of b;exact ⟨t,_,rfl,a,by show Z3 "stop"≠_;decide+kernel⟩
theorem tu (T:Txt K mg ad):CalB P w K mg base true 2 "told_out" ["parts"] (qu K):=by
 have D:=T.Qd.not (P:=P) (w:=w) (base:=base) (k:=0) Pk (λ _ _ _ _ _ _=>by1 λ _=>rfl)
 refine T.Qd.calN Pk (λ _ _ _ _ _ _=>by1 λ _=>rfl) (λ vs H Q E h=>?_) (λ f M A outer s H vs Q E G h=>?_)
 ·obtain ⟨_,_,rfl,_⟩:=h;rfl
 obtain ⟨v,ps,rfl,hv,N,q⟩:=h;obtain ⟨b,xs,rfl,u,r⟩:=hv.lst_of;have hl:xs.length=ps.length:=by have:=r.len;rw [Y2] at this;exact this
 refine ⟨_,(Ag (Ax (i:=1) Pk.nd (CN Aa)) (Ag (Df YI rfl (Dc (pv 0)) (Bq (i:=2) Pk.nd) (Ak (BP (BW Ey (Ae Al (pv 2) Ac) (Bl (v:=.str "times") rfl T.ex.m_TIMES ⟨_,rfl⟩)) (Ak (DQ (Ce Xq Xt Xx Fy (pv 1) (Ad (pv 2) Aa)))) (Ak (BP (BW Hq (Ae Al (pv 2) Ac) Ac) (Ak (DQ (Ce Xq PySem.F.slot_list_extend PySem.F.type_list_extend yh (pv 1) (CP (Aw AY3 (Ai D G.m Ah (Ao (Ae Al (pv 2) Ac) Aa)) (Ae Al (pv 2) Ac)) Aa)))) BR))))) (Ak (Av (pv 1))))),?_⟩
 refine ⟨(by show 0<=Y3;decide),λ l y=>?_⟩
 have u0:=Am y (.lst []);have z:Bx K H l [] (upd H l (.lst [])):=⟨u0,y,[],Ar,.nil⟩;generalize upd H l (.lst [])=O at u0 z ⊢;refine ⟨_,rfl,b,rfl,⟨_,u.keep u0⟩,?_⟩;refine G6 (K:=K) (a:=b) (xs:=xs) (λ i j g=>∃o,j=[some (.ref b),some (.ref l),o]/\Bx K H l (ps.take i) g) ⟨_,rfl,by rw [NG];exact z⟩ ?_ ?_ ?_
 ·rintro i j g hi ⟨o,rfl,e⟩
  exact u.keep e.s
 ·rintro i x j g hi ⟨o,rfl,e⟩
  obtain ⟨d,hd,B⟩:=r.get hi;obtain ⟨I,C,rfl⟩:=JD hd;obtain ⟨t,R,rfl,J,ne⟩:=Ab2 (B.keep e.s);obtain ⟨p,e1,e2⟩:=e.ex;have S:p.length<=60:=by
   have L:=e2.len;rw [Y2,YR] at L;omega
  refine ⟨_,rfl,t,_,_,_,rfl,rfl,J,Dv,rfl,_,rfl,Bj (by rw [DK,decide_eq_false ne];rfl) ?_⟩
  refine ⟨_,rfl,.inl ⟨rfl,_,SqL.of e1⟩,_,rfl,l,p,_,rfl,rfl,e1,small1000 (by omega),_,rfl,?_⟩
  have:=Bx.more (zs:=[.ref t]) (qs:=[I]) e.s e.n e1 e2 (.cons (B.keep e.s) .nil);rw [Xe,C];exact this
 ·rintro j g ⟨o,rfl,e⟩
  rw [hl,YU] at e;obtain ⟨p,e1,e2⟩:=e.ex;exact ⟨_,rfl,q l p g e.s e.n e1 e2⟩
def Hs:List Pc->List Y1
 | []=>[]
 | q::r=>Z3 ";"::FJ (q::r)
theorem jQ (p:Pc)(r:List Pc):FJ (p::r)=toks p++Hs r:=by
 cases r with
 | nil=>show toks p=toks p++[];rw [YY]
 | cons q r=>rfl
theorem qt {a t u:List Y1}{i:Nat}(h:a.drop i=t++u):(∀(j:Nat) (z:Y1),t[j]?=some z->a[i+j]?=some z)/\a.drop (i+t.length)=u:=by
 refine ⟨λ j z b=>?_,?_⟩
 ·rw [<- xE,h,UD (CT b)];exact b
 ·rw [<- List.drop_drop,h,List.drop_left]
theorem zg (T:Txt K mg ad):CalB P w K mg base true 6 "read_parts" ["reader","deep"] (qJ K ad.Reader):=by
 refine T.XJ.calN qU (λ _ _ _ _ _ _=>Bm λ _ _=>rfl) (λ vs H Q E h=>?_) (λ f c8 A outer s H vs Q E a5 h=>?_)
 ·obtain ⟨_,_,_,_,_,_,rfl,_⟩:=h;rfl
 obtain ⟨a,j,n,g,ps,dp,rfl,a7,c1,ne,c9,sh,k⟩:=h;refine ⟨_,(Ag (Ax (i:=2) qU.nd (CN (Bc (Ai (Ad2 T) a5.m Ah (Ad (pv 0) (Ad (pv 1) Aa))) Aa))) (Ag (Mm YI (Bk (Cd (k:=2) (pv 0) a5.m (Ad (Bl (v:=.str ";") rfl T.ex.m_PARTED ⟨_,rfl⟩) Aa))) (Ak (DQ (Ce Xq Xt Xx Fy (pv 2) (Bc (Ai (Ad2 T) a5.m Ah (Ad (pv 0) (Ad (pv 1) Aa))) Aa))))) (Ak (Av (pv 2))))),?_⟩
 cases ps with
 | nil=>exact absurd rfl ne
 | cons p r=>
  have a8:g.drop 0=toks p++Hs r:=by rw [qh,c1];exact jQ p r
  obtain ⟨tk,dr⟩:=qt a8;refine ⟨_,rfl,_,rfl,a,j,n,g,0,p,dp,rfl,a7,tk,sh p U1,λ v W X J hv=>⟨(by show 1<=Y3;decide),λ l hl=>?_⟩⟩
  have u:=Am hl (.lst [v]);have d0:H a=some (Cw ad.Reader j n 0):=a7.r;have G:l≠a:=λ e=>by rw [e,J.r] at hl;cases hl
  have a9:n≠l:=λ e=>by rw [<- e,J.w] at hl;cases hl
  have b0:H l=none:=by
   cases e:H l with
   | none=>rfl
   | some o=>have:=X l o G e;rw [this] at hl;cases hl
  have Y:SD a H (upd W l (.lst [v])):=X.trans (Lib.SD.ofSame u);have Z:=J.keep u;have b1:upd W l (.lst [v]) l=some (.lst [v]):=Ar;have a0:DVs K (upd W l (.lst [v])) [v] ([p].map CV):=.cons (hv.keep u) .nil;generalize upd W l (.lst [v])=d1 at Y Z b1 a0 ⊢;refine ⟨λ m b2 t=>∃(dn d:List Pc) (i:Nat) (xs:List V),p::r=dn++d/\m=d.length/\b2=[some (.ref a),some (.int dp),some (.ref l)]/\SD a H t/\RdAt ad.Reader a j n g i t/\i<=g.length/\g.drop i=Hs d/\t l=some (.lst xs)/\DVs K t xs (dn.map CV),
   ⟨_,[p],r,_,[v],rfl,rfl,rfl,Y,Z,?_,dr,b1,a0⟩,?_⟩
  ·have:=congrArg QK a8;rw [qh,X1] at this;omega
  rintro m b2 t ⟨dn,d,i,xs,L,rfl,rfl,sd,z,c2,I,a1,M⟩
  have d2:xs.length<=60:=by
   have x:=M.len;have N:=congrArg QK L;rw [Y2] at x;rw [X1] at N;omega
  refine ⟨_,rfl,a,_,j,_,_,_,rfl,z.r,rfl,yN T,a,j,n,g,i,Z3 ";",rfl,z,c2,λ e=>?_,λ e=>?_⟩
  ·cases d with
   | nil=>
    have x:=congrArg QK I;rw [JF] at x;have N:=CT e;simp only [Hs,YG] at x;omega
   | cons q d=>
    refine ⟨_,rfl,iteT ?_⟩;have b3:g.drop (i+1)=toks q++Hs d:=by
     rw [<- List.drop_drop,I];show (Z3 ";"::FJ (q::d)).drop 1=_;rw [jQ];rfl
    obtain ⟨b4,b5⟩:=qt b3;have D:=z.step (i+1);have O:SD a t (upd t a (Cw ad.Reader j n (i+1))):=JB _;have R:upd t a (Cw ad.Reader j n (i+1)) l=some (.lst xs):=by rw [BK G];exact a1
    have a2:DVs K (upd t a (Cw ad.Reader j n (i+1))) xs (dn.map CV):=Cv (Ug z.r O) (DY Ph _) M;generalize upd t a (Cw ad.Reader j n (i+1))=d3 at D O R a2 ⊢;refine ⟨λ a3 B=>∃(dn C:List Pc) (i:Nat) (xs:List V),p::r=dn++C/\C.length=d.length/\a3=[some (.ref a),some (.int dp),some (.ref l)]/\SD a H B/\RdAt ad.Reader a j n g i B/\i<=g.length/\g.drop i=Hs C/\B l=some (.lst xs)/\DVs K B xs (dn.map CV),
     λ a3 B ⟨b6,C,c3,b7,x,N,c4⟩=>⟨d.length,by simp,b6,C,c3,b7,x,N.symm,c4⟩,?_⟩
    refine ⟨_,rfl,.inl ⟨rfl,_,SqL.of R⟩,_,rfl,_,rfl,a,j,n,g,i+1,q,dp,rfl,D,b4,sh q (by rw [L];simp),λ y b8 S U c5=>?_⟩
    have a4:b8 l=some (.lst xs):=S l _ G R;have b9:DVs K b8 xs (dn.map CV):=Cv (Ug D.r S) (DY Ph _) a2;refine ⟨l,xs,_,rfl,rfl,a4,small1000 (by omega),?_⟩
    have c6:=HW a4 (.lst (xs++[y]));refine ⟨dn++[q],d,_,xs++[y],by rw [L,Xs];rfl,rfl,rfl,?_,⟨by rw [BK (UX G)];exact U.r,by rw [BK a9];exact U.w,U.le⟩,?_,b5,Ar,?_⟩
    ·intro b o a6 e;have c0:b≠l:=Bt e b0;rw [BK c0];exact S b o a6 (O b o a6 (sd b o a6 e))
    ·have x:=congrArg QK b3;rw [JF,X1] at x;have N:=Jk q;omega
    ·rw [U4];exact Cv c6 (by rw [<- U4];exact DY Ph _) (b9.append (.cons c5 .nil))
  ·refine ⟨_,rfl,iteF ?_⟩;cases d with
   | cons q d=>
    exfalso
    apply e
    have:=congrArg (λ d4:List Y1=>d4[0]?) I
    simp only [Hs,xE,Nat.add_zero,List.getElem?_cons_zero] at this;exact this
   | nil=>
    have x:=congrArg QK I;rw [JF] at x;simp only [Hs,YG] at x;have c7:i=g.length:=by omega
    subst c7;rw [YY] at L;subst L;exact ⟨_,rfl,k l xs t sd b0 z a1 M⟩
theorem bW {a:List Y1}{e:Nat}(h:∀t∈a,t.length<=e):(a.map (·.length)).sum<=a.length * e:=by
 induction a with
 | nil=>exact WO _
 | cons t a b=>
  rw [YB,yT,X9,FE];have:=h t U1;have:=b (λ x d=>h x (Y9 _ d))
  omega
theorem Aa9 (T:Txt K mg ad):CalB P w K mg base true 7 "read_bench" ["text"] (jU K):=by
 refine T.U6.calN V5 (λ _ _ _ _ _ _=>by1 λ _=>rfl) (λ vs H Q E h=>?_) (λ f a0 A outer s H vs Q E n h=>?_)
 ·obtain ⟨_,rfl,_⟩:=h;rfl
 obtain ⟨ps,rfl,t,sh,q⟩:=h;refine ⟨_,(Ag (BP (CQ (Bk (Br Fv rfl T.isinstance Fb (Ad (pv 0) (Ad (Fo (v:=.ty "str") rfl T.str Hi rfl) Aa))))) (Ak DR) BR) (Ag (BP (BW By (pv 0) Ba) (Ak (Av (CN Aa))) BR) (Ag (Ax (i:=1) V5.nd (Jt (AN3 T) n.m (Bc (Ai (AM5 T) n.m Ah (Ad (pv 0) Aa)) Aa))) (Ag (Ax (i:=2) V5.nd (Ai (zg T) n.m Ah (Ad (pv 1) (Bf Ac Aa)))) (Ag (BP (CQ (Bk (JX (k:=1) (pv 1) n.m))) (Ak DR) BR) (Ag (BP (BW Hq (Ai (AI2 T) n.m Ah (Ad (pv 2) Aa)) (Bl (v:=.int 60) rfl T.ex.m_MOST_PIECES ⟨_,rfl⟩)) (Ak DR) BR) (Ak (Av (Ai (tu T) n.m Ah (Ad (pv 2) Aa)))))))))),?_⟩
 refine ⟨_,rfl,_,_,_,_,rfl,.str _,KY _,_,rfl,iteF ?_⟩;by_cases g:ps=[]
 ·subst g;refine ⟨_,rfl,rfl,_,rfl,Bj (by rw [DK];exact decide_eq_true (by decide+kernel)) ⟨(by show 0<=Y3;decide),λ l hl=>?_⟩⟩
  exact q l [] _ (Am hl _) hl Ar .nil
 ·have V:=AK1 g;refine ⟨_,rfl,rfl,_,rfl,BL (by rw [DK];exact decide_eq_false V) ?_⟩
  have W:=Lg t sh;have sp:=yS g;have a2:=T9 ps;refine ⟨_,rfl,Ed ps,rfl,Zo (US W 2) (by decide),by rw [sp];omega,(λ w C=>by rw [sp] at C;have:=Y4 ps sh w C;omega),λ j p D a1 u=>λ a d x F ne=>?_⟩
  rw [sp,tD ps g] at u;have G:Same p (upd (upd p d (.own a)) a (.ins ad.Reader d [])):=λ b o e=>by rw [BK (Bt e x),BK (Bt e F)];exact e
  refine ⟨a,d,j,rfl,Ar,⟨rfl,?_⟩⟩;have I:j≠a:=λ e=>by rw [<- e,u] at x;cases x
  have J:RdAt ad.Reader a d j (FJ ps) 0 (upd (upd (upd p d (.own a)) a (.ins ad.Reader d [])) a (Cw ad.Reader d j 0)):=⟨Ar,by rw [BK I];exact G _ _ u,by have:=lN ps;omega⟩
  have L:Same p (upd (upd (upd p d (.own a)) a (.ins ad.Reader d [])) a (Cw ad.Reader d j 0)):=λ b o e=>by rw [BK (Bt e x)];exact G _ _ e
  generalize upd (upd (upd p d (.own a)) a (.ins ad.Reader d [])) a (Cw ad.Reader d j 0)=a3 at J L ⊢;refine ⟨_,rfl,a,d,j,FJ ps,ps,0,rfl,J,rfl,g,t,sh,λ l xs M sd a4 y hl N=>?_⟩
  have hd:DV K M (.ref l) (Ec ps):=.lst (SqL.of hl) N;refine ⟨_,rfl,a,_,d,_,_,_,rfl,y.r,rfl,V2 T,a,d,j,FJ ps,(FJ ps).length,rfl,y,_,rfl,BL (by rw [decide_eq_true rfl];rfl) ?_⟩
  refine ⟨_,rfl,.ref l,ps,rfl,hd,_,_,rfl,rfl,_,rfl,BL (decide_eq_false (by omega)) ?_⟩
  refine ⟨_,rfl,.ref l,ps,rfl,hd,t,λ X O Y Z R S B=>?_⟩
  have U:H a=none:=D.free x;have z:Same H M:=Lib.SD.same (D.trans L) U sd;exact q X O Y (z.trans Z) (z.free R) S B
theorem zO {p:Pc}(h:PBig p):(FZ p).length<=4000:=by
 unfold FZ;rw [Ek];have b:=qM (Z3 " ") (toks p) 1200 (Lib.qg p h);have a:=Jk p;have d:(Z3 " ").length=1:=by decide+kernel
 have e:(toks p).length * (1200+(Z3 " ").length)<=3 * 1201:=Nat.mul_le_mul a.1 (by omega)
 omega
end
end K74
namespace K74
open PySem L2 Lib Fr Op
seal PE PT PW PA PS PSs PG PGs PI PO CK
section
variable {P:Yf}{w:World}{K:FrG}{mg:Str->Option Value}{base:Heap}{ad:Adr}{c:Bool}
theorem zq (T:Txt K mg ad):CalB P w K mg base true 1 "_law_cell_at" ["_law_script","_law_k"] (n6 K):=by
 refine T.Zx.calN AO8 (λ _ _ _ _ _ _=>Bm λ _ _=>rfl) (λ vs H Q E h=>?_) (λ f i A outer s H vs Q E j h=>?_)
 ·obtain ⟨_,_,_,rfl,_⟩:=h;rfl
 obtain ⟨a,ns,k,rfl,d,e,q⟩:=h;refine ⟨_,(Ag (BP (BW GX (pv 1) (Br DX rfl T.len DG (Ad (pv 0) Aa))) (Ak (Av (Ae Az (pv 0) (pv 1)))) BR) (Ak (Av Ac))),?_⟩;refine ⟨_,rfl,_,rfl,a,_,rfl,.inl d,_,_,rfl,rfl,_,rfl,?_⟩;refine ite2 (λ b=>?_) (λ _=>q 0)
 have b:k < (((ns.map V.int).length:Nat):Int):=of_decide_eq_true b;obtain ⟨v,hv,g⟩:=Jl (xs:=ns.map V.int) e b;obtain ⟨z,_,rfl⟩:=XW.mp g;exact ⟨_,rfl,_,rfl,a,_,_,_,rfl,rfl,d,hv,q z⟩
theorem xH (T:Txt K mg ad):CalB P w K mg base true 1 "_law_drawn" ["_law_script","_law_start"] (jE K):=by
 refine T.UG.calN Jz (λ _ _ _ _ _ _=>Bm λ _ _=>rfl) (λ vs H Q E h=>?_) (λ f c1 A outer s H vs Q E c5 h=>?_)
 ·obtain ⟨_,_,_,rfl,_⟩:=h;rfl
 obtain ⟨a,ns,st,rfl,b1,Z,a0,q⟩:=h;refine ⟨_,(Ag (Ax (i:=2) Jz.nd (Aw Gs (Fz ["_law_cell"] [none] rfl (Dc (Em Ja (pv 0) Fj (Dy Ac))) (λ _ _ _ _ _=>(Bq (i:=0) (show UB [("_law_cell":Str)] by decide))) (λ _ _ _ _ _=>Fd) (λ _ _ _ _ _=>(Br Ip rfl T.abs Iu (Ad (pv 0) Aa))) (Fw (by decide) (by decide)) (by decide) rfl (by decide) rfl (G3 rfl)) (CN (Bf Ac Aa)))) (Ag (Ax (i:=3) Jz.nd (pv 1)) (Ag (Df YI rfl (K6 rfl T.range (Bc (Br DX rfl T.len DG (Ad (pv 2) Aa)) Aa)) (Bq (i:=4) Jz.nd) (Ak (Ax (i:=3) Jz.nd (Aw Eb (Aw Cp (Aw Cp (Aw Fp (pv 3) Ac) (Aw Fp (Aw Eb (Ae Az (pv 2) (pv 4)) Ac) (Aw Cp (Aw Fp (pv 4) (pv 4)) Ac))) Ac) Ac)))) (Ag (Ax (i:=5) Jz.nd (Aw Fp (Aw Eb (Ae Az (pv 2) Ac) Ac) (Br DX rfl T.len DG (Ad (pv 2) Aa)))) (Ag (Gz (Aw Jr (Ae Az (pv 2) Ac) Ac) (JG (pv 2) Ac Jb)) (Ak (Av (CN (Ad (pv 2) (Ad (pv 5) (Ad (pv 3) (Bf Ac Aa)))))))))))),?_⟩
 refine ⟨_,rfl,_,rfl,a,_,rfl,b1,λ p b2=>⟨p,rfl,⟨_,SqL.of Ar⟩,?_⟩⟩
 obtain ⟨y,I⟩:=yU ns none (some 63);have c2:y.length<=63:=by
  have h:=sJ (ns.map V.int) 63
  change (cutV (ns.map V.int) none (some 63)).length<=_ at h
  rw [I,Y2] at h;omega
 rw [I];have N:=Am b2 (.lst (y.map V.int));have J:upd H p (.lst (y.map V.int)) p=some (.lst (y.map V.int)):=Ar;generalize upd H p (.lst (y.map V.int))=b3 at N J ⊢;refine Io (K:=K) (a:=p) (xs:=y.map V.int) (λ i u D m=>∃c0 t,u=[c0]/\m=b3/\D=t.map V.int/\t.length=i) ⟨_,[],rfl,rfl,rfl,rfl⟩ ?_ ?_ ?_
 ·rintro i u D m hi ⟨c0,t,rfl,rfl,rfl,rfl⟩
  rw [Y2] at hi ⊢;exact ⟨XT (small1000 (by omega)),SqL.of J⟩
 ·rintro i x u D m hi ⟨c0,t,rfl,rfl,rfl,rfl⟩
  obtain ⟨z,_,rfl⟩:=XW.mp (ZB hi);exact ⟨_,rfl,_,rfl,nx (CT hi) ⟨_,t++[_],rfl,rfl,by rw [U4];rfl,by rw [X1];rfl⟩⟩
 rintro c3 D a1 F ⟨c0,k,rfl,rfl,rfl,a2⟩ a3
 rw [Y2] at a2;have O:=Am a3 (.lst (k.map V.int));have B:upd a1 F (.lst (k.map V.int)) F=some (.lst (k.map V.int)):=Ar;generalize upd a1 F (.lst (k.map V.int))=R at O B ⊢;refine ⟨(by show 1<=Y3;decide),λ G a4=>?_⟩
 have S:=Am a4 (.lst [.int 0]);refine ⟨F,G,_,_,rfl,rfl,S _ _ B,Ar,XT (small1000 (by rw [Y2];simp only [X9,YG];omega)),λ j L=>?_⟩
 have b4:=Am L (.lst (k.map V.int++[.int 0]));have g:upd (upd R G (.lst [.int 0])) j (.lst (k.map V.int++[.int 0])) j=some (.lst (k.map V.int++[.int 0])):=Ar;have M:H j=none:=(N.trans (O.trans S)).free L;have U:Same H (upd (upd R G (.lst [.int 0])) j (.lst (k.map V.int++[.int 0]))):=N.trans (O.trans (S.trans b4));have b5:k.map V.int++[.int 0]=(k++[0]).map V.int:=by rw [U4];rfl
 rw [b5] at g U ⊢;have b6:(k++[0]).length<=64:=by rw [X1];simp only [X9,YG];omega
 have a5:0 < (k++[0]).length:=by rw [X1];simp
 generalize upd (upd R G (.lst [.int 0])) j (.lst ((k++[0]).map V.int))=b7 at g U ⊢;generalize k++[0]=t at g b6 a5 ⊢;have c4:(t.map V.int).length=t.length:=Y2 ..;refine ⟨_,rfl,?_⟩;refine ⟨_,rfl,j,_,rfl,.inl (SqL.of g),_,rfl,by omega,by omega,?_⟩
 refine Od (lo:=0) (n:=(((t.map V.int).length:Nat):Int).toNat) (λ i u m=>∃(l:Int) (W:Option V),u=[some (.ref a),some (.int st),some (.ref j),some (.int l),W,none]/\m=b7/\0<=l/\l < 2 ^ 40) ⟨_,_,rfl,rfl,Z,a0⟩ ?_ ?_
 ·rintro i u m hi ⟨l,W,rfl,rfl,a6,a7⟩
  obtain ⟨v,hv,X⟩:=Jl (xs:=t.map V.int) (r:=0+(i:Int)) (by omega) (by omega)
  obtain ⟨z,_,rfl⟩:=XW.mp X;refine ⟨_,rfl,_,_,rfl,rfl,.inr ⟨by decide,by decide⟩,_,rfl,_,rfl,j,_,_,_,rfl,rfl,SqL.of g,hv,_,_,rfl,rfl,(by show (0:Int) < 2147483647;decide),_,rfl,_,rfl,?_⟩
  have c6:(0+(i:Int)) < 100:=by omega
  refine ⟨_,_,rfl,rfl,.inl ⟨by omega,by omega⟩,_,_,rfl,rfl,?_⟩
  have c7:=UO z (show (2147483647:Int)≠0 by decide)
  have c8:=WV z (show (0:Int) < 2147483647 by decide)
  refine ⟨_,_,rfl,rfl,.inl ⟨by omega,by omega⟩,_,_,rfl,rfl,_,_,rfl,rfl,_,_,rfl,rfl,(by show (0:Int) < 2147483629;decide),?_⟩
  have c9:(2:Int) ^ 40=1099511627776:=by decide
  have b8:=λ x:Int=>UO x (show (2147483629:Int)≠0 by decide)
  have e1:=λ x:Int=>WV x (show (0:Int) < 2147483629 by decide)
  refine ⟨_,_,rfl,rfl,b8 _,Int.lt_trans (e1 _) (by decide)⟩
 ·rintro u m ⟨l,W,rfl,rfl,a6,a7⟩
  obtain ⟨v,hv,X⟩:=Jl (xs:=t.map V.int) (r:=0) (by omega) (by omega)
  obtain ⟨z,_,rfl⟩:=XW.mp X;refine ⟨_,rfl,j,_,_,_,rfl,rfl,SqL.of g,hv,_,_,rfl,rfl,(by show (0:Int) < 2;decide),_,rfl,j,_,rfl,.inl (SqL.of g),?_⟩
  have z0:=UO z (show (2:Int)≠0 by decide)
  have d0:=WV z (show (0:Int) < 2 by decide)
  refine ⟨_,_,rfl,rfl,.inl ⟨by omega,by omega⟩,?_⟩
  refine ⟨_,rfl,j,_,_,_,rfl,rfl,SqL.of g,hv,_,_,rfl,rfl,⟨by decide,by decide⟩,_,rfl,j,_,_,0,rfl,rfl,g,oF (by decide) (by omega),?_⟩
  rw [jG];have C:upd m j (.lst ((t.set 0 (z / 2)).map V.int)) j=some (.lst ((t.set 0 (z / 2)).map V.int)):=Ar;have Y:∀b o,H b=some o->upd m j (.lst ((t.set 0 (z / 2)).map V.int)) b=some o:=λ b o e=>by
   rw [BK (Bt e M)];exact U _ _ e
  have a8:(t.set 0 (z / 2)).length=t.length:=ur ..;generalize upd m j (.lst ((t.set 0 (z / 2)).map V.int))=a9 at C Y ⊢;generalize t.set 0 (z / 2)=b9 at C a8;refine ⟨_,rfl,_,rfl,_,rfl,(by show 4<=Y3;decide),λ d hd=>?_⟩
  have b0:=Am hd (.lst [.ref j,.int (z % 2 * ((t.map V.int).length:Int)),.int l,.int 0]);refine q d j _ ((show Same H a9 from Y).trans b0) ((show Same H a9 from Y).free hd) M ⟨_,l,0,b9,Ar,b0 _ _ C,?_,?_,by omega,a6,a7,by decide,by decide⟩
  ·exact Int.mul_nonneg z0 (by omega)
  ·have:z % 2=0\/z % 2=1:=by omega
   rcases this with e | e<;>rw [e]<;>omega
theorem Qq (T:Txt K mg ad):CalB P w K mg base true 1 "_law_draw" ["_law_drawn_here","_law_many"] jr:=by
 refine T.Zu.calN Qm (λ _ _ _ _ _ _=>Bm λ _ _=>rfl) (λ vs H Q E h=>?_) (λ f a2 A outer s H vs Q E a9 h=>?_)
 ·obtain ⟨_,_,_,_,rfl,_⟩:=h;rfl
 obtain ⟨d,c,b4,m,rfl,hd,⟨u,U⟩,q⟩:=h;have y:=hd.ne;obtain ⟨B,n,t,p,C,D,N,O,R,W,X,b0,t1⟩:=hd.x;have a3:(p.map V.int).length=p.length:=Y2 ..;refine ⟨_,(Ag (Ax (i:=2) Qm.nd (Ae Az (pv 0) Ac)) (Ag (Gz (Aw Cp (Ae Az (pv 0) Ac) Ac) (JG (pv 0) Ac Jb)) (Ag (Mm YI (PW.pt (pw_and (BW GX (Ae Az (pv 0) Ac) (Br DX rfl T.len DG (Ad (pv 2) Aa))) (pw_and1 (BW By (Ae Az (pv 2) (Ae Az (pv 0) Ac)) Ac)))) (Ak (Gz (Aw Cp (Ae Az (pv 0) Ac) Ac) (JG (pv 0) Ac Jb)))) (Ag (BP (BW By (Ae Az (pv 0) Ac) (Br DX rfl T.len DG (Ad (pv 2) Aa))) (Ag (Ax (i:=3) Qm.nd (Ae Az (pv 0) Ac)) (Ag (Gz (Aw Eb (Aw Cp (Aw Cp (Aw Fp (Ae Az (pv 0) Ac) Ac) (Aw Fp (Aw Fp (pv 3) (pv 3)) (pv 3))) Ac) Ac) (JG (pv 0) Ac Jb)) (Ak (Av (Aw Eb (Aw Jr (Aw Eb (Aw Fp (Ae Az (pv 0) Ac) (Ae Az (pv 0) Ac)) Ac) Ac) (pv 1)))))) BR) (Ag (Ax (i:=4) Qm.nd (Aw Eb (Ae Az (pv 2) (Ae Az (pv 0) Ac)) (pv 1))) (Ag (Gz (Aw Jr (Ae Az (pv 2) (Ae Az (pv 0) Ac)) (pv 1)) (JG (pv 2) (Ae Az (pv 0) Ac) Jb)) (Ak (Av (pv 4))))))))),?_⟩;refine ⟨_,rfl,d,_,_,_,rfl,rfl,SqL.of C,rfl,?_⟩;refine ⟨_,rfl,d,_,_,_,rfl,rfl,SqL.of C,rfl,_,_,rfl,rfl,_,rfl,d,_,_,3,rfl,rfl,C,rfl,?_⟩;have e1:∀i:Int,[V.ref c,.int B,.int n,.int t].set 3 (.int (t+1))=[.ref c,.int B,.int n,.int (t+1)]:=λ _=>rfl
 rw [e1 B];refine ⟨λ k Y J=>∃i:Int,(k:Int)=(p.length:Int) - i/\0<=i/\i<=p.length/\Y=[some (.ref d),some (.int m),some (.ref c),none,none]/\J=upd H d (.lst [.ref c,.int i,.int n,.int (t+1)]),⟨((p.length:Int) - B).toNat,B,by omega,N,O,rfl,rfl⟩,?_⟩
 rintro k _ _ ⟨i,b1,j,F,rfl,rfl⟩
 have a:upd H d (.lst [.ref c,.int i,.int n,.int (t+1)]) d=some (.lst [.ref c,.int i,.int n,.int (t+1)]):=Ar;have g:upd H d (.lst [.ref c,.int i,.int n,.int (t+1)]) c=some (.lst (p.map V.int)):=by rw [BK y];exact D
 refine ⟨_,rfl,d,_,_,_,rfl,rfl,SqL.of a,rfl,_,rfl,c,_,rfl,.inl (SqL.of g),_,_,rfl,rfl,_,rfl,?_⟩;have a4:∀(a5:Prop),a5->a5:=λ _ h=>h
 by_cases a6:i < (p.length:Int)
 ·obtain ⟨v,hv,Z⟩:=Jl (xs:=p.map V.int) (r:=i) j (by omega)
  obtain ⟨z,_,rfl⟩:=XW.mp Z;refine Bj (decide_eq_true (by omega)) ?_
  refine ⟨_,rfl,_,rfl,d,_,_,_,rfl,rfl,SqL.of a,rfl,c,_,_,_,rfl,rfl,SqL.of g,hv,rfl,_,rfl,?_⟩;refine ite2 (λ _=>?_) (λ _=>?_)
  ·refine ⟨λ S J=>S=[some (.ref d),some (.int m),some (.ref c),none,none]/\J=upd H d (.lst [.ref c,.int (i+1),.int n,.int (t+1)]),?_,?_⟩
   ·rintro _ _ ⟨rfl,rfl⟩
    exact ⟨((p.length:Int) - (i+1)).toNat,by omega,i+1,by omega,by omega,by omega,rfl,rfl⟩
   ·refine ⟨_,rfl,d,_,_,_,rfl,rfl,SqL.of a,rfl,_,_,rfl,rfl,_,rfl,d,_,_,1,rfl,rfl,a,rfl,rfl,?_⟩;rw [GJ];rfl
  ·
   refine ⟨_,rfl,d,_,_,_,rfl,rfl,SqL.of a,rfl,_,rfl,c,_,rfl,.inl (SqL.of g),rfl,_,rfl,BL (by rw [Fq];exact decide_eq_false (by omega)) ?_⟩
   refine ⟨_,rfl,_,rfl,d,_,_,_,rfl,rfl,SqL.of a,rfl,c,_,_,_,rfl,rfl,SqL.of g,hv,_,rfl,_,_,rfl,rfl,u,?_⟩;refine ⟨_,rfl,_,rfl,d,_,_,_,rfl,rfl,SqL.of a,rfl,c,_,_,_,rfl,rfl,SqL.of g,hv,_,rfl,_,_,rfl,rfl,⟨u,U⟩,?_⟩;refine ⟨_,rfl,_,rfl,d,_,_,_,rfl,rfl,SqL.of a,rfl,c,_,_,i.toNat,rfl,rfl,g,oF j (by omega),?_⟩
   rw [jG];refine ⟨_,rfl,q _ _ (UO _ (by omega)) (WV _ u) ⟨i,n,t+1,p.set i.toNat (z / m),?_,Ar,j,?_,?_,W,X,by omega,by omega⟩ ?_⟩
   ·rw [BK (UX y)];exact a
   ·rw [ur];exact F
   ·rw [ur];exact R
   ·intro b o L nc e;rw [BK nc,BK L];exact e
 ·refine BL (decide_eq_false (by omega)) ?_
  have a0:i=((p.map V.int).length:Int):=by omega
  refine ⟨_,rfl,d,_,_,_,rfl,rfl,SqL.of a,rfl,_,rfl,c,_,rfl,.inl (SqL.of g),rfl,_,rfl,Bj (by rw [Fq];exact decide_eq_true a0) ?_⟩
  have a7:(2:Int) ^ 40=1099511627776:=by decide
  have a8:(2:Int) ^ 64=18446744073709551616:=by decide
  refine ⟨_,rfl,d,_,_,_,rfl,rfl,SqL.of a,rfl,?_⟩;refine ⟨_,rfl,d,_,_,_,rfl,rfl,SqL.of a,rfl,_,_,rfl,rfl,.inr ⟨by decide,by decide⟩,_,rfl,_,rfl,_,_,rfl,rfl,.inl ⟨by omega,by omega⟩,_,rfl,_,_,rfl,rfl,.inr ⟨by omega,by omega⟩,_,_,rfl,rfl,_,_,rfl,rfl,_,_,rfl,rfl,(by show (0:Int) < 2147483647;decide),?_⟩
  obtain ⟨x,M⟩:∃x:Int,x=(n * 48271+(t+1) * (t+1) * (t+1)+1) % 2147483647:=⟨_,rfl⟩;have a1:0<=x:=by rw [M];exact UO _ (by decide)
  have b2:x < 2147483647:=by rw [M];exact WV _ (by decide)
  refine ⟨_,rfl,d,_,_,2,rfl,rfl,a,rfl,?_⟩;rw [GJ];show (_:Hp->Prop) (upd H d (.lst ([V.ref c,.int i,.int n,.int (t+1)].set 2 (.int ((n * 48271+(t+1) * (t+1) * (t+1)+1) % 2147483647)))));rw [<- M];have l:upd H d (.lst ([V.ref c,.int i,.int n,.int (t+1)].set 2 (.int x))) d=some (.lst [.ref c,.int i,.int x,.int (t+1)]):=Ar;have G:upd H d (.lst ([V.ref c,.int i,.int n,.int (t+1)].set 2 (.int x))) c=some (.lst (p.map V.int)):=by rw [BK y];exact D
  have I:SE d c H (upd H d (.lst ([V.ref c,.int i,.int n,.int (t+1)].set 2 (.int x)))):=λ b o L nc e=>by rw [BK L];exact e
  generalize upd H d (.lst ([V.ref c,.int i,.int n,.int (t+1)].set 2 (.int x)))=b3 at l G I ⊢;refine ⟨_,rfl,d,_,_,_,rfl,rfl,SqL.of l,rfl,_,rfl,d,_,_,_,rfl,rfl,SqL.of l,rfl,_,_,rfl,rfl,.inl ⟨by omega,by omega⟩,_,_,rfl,rfl,(by show (0:Int) < 2147483629;decide),_,_,rfl,rfl,⟨by decide,by decide⟩,_,rfl,_,_,rfl,rfl,u,?_⟩
  exact q _ _ (UO _ (by omega)) (WV _ u) ⟨i,x,t+1,p,l,G,j,F,R,a1,by omega,by omega,by omega⟩ I
theorem Uy (T:Txt K mg ad):CalB P w K mg base true 1 "_law_low" ["_law_top","_law_bottom"] bA:=by
 refine T.Sv.calN Np (λ _ _ _ _ _ _=>Bm λ _ _=>rfl) (λ vs H Q E h=>?_) (λ f D A outer s H vs Q E F h=>?_)
 ·obtain ⟨a,b,rfl,_⟩:=h;rfl
 obtain ⟨a,b,rfl,G,bs,q⟩:=h;have g:b≠0:=by omega
 refine ⟨_,(Ag (Ax (i:=2) Np.nd (Br Ip rfl T.abs Iu (Ad (pv 0) Aa))) (Ag (Ax (i:=3) Np.nd (pv 1)) (Ag (Mm YI (BW Hq (pv 3) Ac) (Ak (dq (i:=2) (j:=3) rfl Np.nd rfl rfl (by decide) rfl rfl (Ad (pv 3) (CP (Aw Eb (pv 2) (pv 3)) Aa)) rfl))) (Ak (Av (Bp (CP (Aw Ox (pv 0) (pv 2)) (CP (Aw Ox (pv 1) (pv 2)) Aa)))))))),?_⟩
 refine ⟨_,rfl,_,rfl,_,rfl,?_⟩;have u:=Fr.Qu a;have v:b=(b.natAbs:Int):=by omega
 refine ⟨λ k x d=>H=d/\∃(m:Nat),x=[some (.int a),some (.int b),some (.int m),some (.int k)]/\Go m k=Go a.natAbs b.natAbs,⟨b.natAbs,rfl,a.natAbs,by rw [<- u,<- v];rfl,rfl⟩,?_⟩
 rintro n _ _ ⟨rfl,m,rfl,e⟩
 refine ⟨_,rfl,_,_,rfl,rfl,_,rfl,?_⟩;refine ite2 (λ c=>?_) (λ c=>?_)
 ·have l:n≠0:=by
   intro z;subst z;simp at c
  have y:(m:Int) % (n:Int)=((m % n:Nat):Int):=(Fh m n).symm;refine ⟨λ o d=>H=d/\o=[some (.int a),some (.int b),some (.int n),some (.int ((m:Int) % (n:Int)))],?_,?_⟩
  ·rintro _ _ ⟨rfl,rfl⟩
   rw [y];exact ⟨m % n,MB _ (by omega),rfl,n,rfl,by rw [Fr.cX,e]⟩
  ·exact ⟨_,rfl,_,rfl,_,rfl,_,_,rfl,rfl,(by show (0:Int) < (n:Int);omega),_,_,rfl,rfl,rfl⟩
 ·have l:n=0:=by
   by_cases z:n=0
   ·exact z
   ·exfalso
    apply c
    exact decide_eq_true (by omega)
  subst l;have e2:(m:Int)=Fr.gcd a b:=by
   unfold Fr.gcd;rw [<- e,Nat.gcd_zero_right]
  have I:=Fr.jY (a:=a) g;have J:=Fr.cH a b;have r:(m:Int)=Fr.sg a b:=by
   unfold Fr.sg;rw [if_neg (by omega),e2]
  have t:(m:Int).natAbs.log2 < 9000:=by
   have B:(m:Int).natAbs < lim:=by omega
   exact kj B
  have ne:(m:Int)≠0:=by rw [r];exact Fr.Jg g
  refine ⟨_,rfl,_,rfl,_,_,rfl,rfl,⟨ne,t⟩,_,rfl,_,rfl,_,_,rfl,rfl,⟨ne,t⟩,(by show 2<=Y3;decide),λ p C=>?_⟩
  rw [r];exact q p C
theorem V8 (T:Txt K mg ad):CalB P w K mg base true 1 "_law_under" ["_law_one","_law_other"] (PR K Vo):=by
 refine T.Ra.calN zx (λ _ _ _ _ _ _=>Bm λ _ _=>rfl) (λ vs H Q E h=>?_) (λ f m A outer s H vs Q E o h=>?_)
 ·obtain ⟨_,_,dv,⟨_,_,rfl,_⟩,_⟩:=h;exact dv.len
 obtain ⟨_,_,dv,⟨p,q,rfl,sp,d,rfl⟩,k⟩:=h;obtain ⟨_,_,rfl,j,l⟩:=dv.two;obtain ⟨a,rfl,g⟩:=j.fr;obtain ⟨b,rfl,i⟩:=l.fr;refine ⟨_,(Ak (Av (Dr GX (Aw Dj (Ae Al (pv 0) Ac) (Ae Al (pv 1) Ac)) (Aw Dj (Ae Al (pv 1) Ac) (Ae Al (pv 0) Ac))))),?_⟩;refine ⟨_,rfl,a,_,_,_,rfl,rfl,g,rfl,_,rfl,b,_,_,_,rfl,rfl,i,rfl,_,_,rfl,rfl,Dt sp.n d.dn,?_⟩;refine ⟨_,rfl,b,_,_,_,rfl,rfl,i,rfl,_,rfl,a,_,_,_,rfl,rfl,g,rfl,_,_,rfl,rfl,Dt d.n sp.dn,_,_,rfl,rfl,?_⟩;have e:decide (p.num * (q.den:Int) < q.num * (p.den:Int))=decide (p < q):=decide_eq_decide.mpr (Fr.mD p q);show Q (.bl (decide (p.num * (q.den:Int) < q.num * (p.den:Int)))) H;rw [e];exact k _ _ (Same.refl _) (.bl _)
theorem Xb (T:Txt K mg ad):CalB P w K mg base true 2 "_law_part" ["_law_drawn_here","_law_far"] (kh K):=by
 refine T.Wb.calN KJ (λ _ _ _ _ _ _=>Bm λ _ _=>rfl) (λ vs H Q E h=>?_) (λ f U A outer s H vs Q E a h=>?_)
 ·obtain ⟨_,_,_,_,rfl,_⟩:=h;rfl
 obtain ⟨d,c,e3,l,rfl,hd,q⟩:=h;have u:CPow 10 15:=⟨by decide,by decide,by decide⟩
 have W:(10:Int) ^ (15:Int).toNat=1000000000000000:=by decide
 have e4:(2:Nat) ^ 50=1125899906842624:=by decide
 obtain ⟨f9,c9,X⟩:∃t,PSs (Er true P w K mg base ["_law_drawn_here","_law_far","_law_top","_law_bottom"] "_law_part" (defScope Nb) f U A outer s H E).nox ((defBody Nb).drop 1) t/\∀(c8:Ends) (Y Z:Option V) (n:Hp),DrG n d c (e3+6)->SE d c H n->(∀v C q,DrG C d c e3->SE d c H C->DV K C v (Aj q)->Bd (pb l) q->c8.rt v C)->t c8 [some (.ref d),some (.bl l),Y,Z] n:=by
  refine ⟨_,(Ag (Ax (i:=2) KJ.nd (Ai (Qq T) a.m Ah (Ad (pv 0) (Ao (Ae Az (CN (Bf Ac (Bf Ac Aa))) (HQ mY rfl T.int Ih (cF (Dr By (Ai (Qq T) a.m Ah (Ad (pv 0) (Bf Ac Aa))) Ac) Aa))) Aa)))) (Ag (Ax (i:=3) KJ.nd (Aw Cp Ac (Ae Az (CN (Bf Ac (Bf Ac (Bc (Ai (Qq T) a.m Ah (Ad (pv 0) (Bf Ac Aa))) (Bc (Ai (Qq T) a.m Ah (Ad (pv 0) (Bf Ac Aa))) Aa))))) (Ai (Qq T) a.m Ah (Ad (pv 0) (Bf Ac Aa)))))) (Ag (BP (BW By (Ai (Qq T) a.m Ah (Ad (pv 0) (Bf Ac Aa))) Ac) (Ak (Ax (i:=2) KJ.nd (Aw GR Ac (pv 2)))) BR) (Ak (Av (Ai (Uy T) a.m Ah (Ad (pv 2) (Ad (pv 3) Aa)))))))),?_⟩
  intro c8 Y Z n e D q;refine ⟨_,rfl,(by show 2<=Y3;decide),λ p o=>?_⟩
  have a0:=Am o (.lst [.int 21,.int 1999]);have a1:=e.nd o;have a2:=e.nc o;refine ⟨_,rfl,d,c,_,9,rfl,e.keep a0,⟨by decide,by decide⟩,λ a3 d0 a4 a5 x F=>?_⟩
  have a6:=F p _ a1 a2 Ar;refine ⟨rfl,.inr ⟨_,rfl,?_⟩⟩;obtain ⟨v,hv,a7⟩:=Jl (xs:=[V.int 21,V.int 1999]) (r:=if decide (V.int a3=V.int 1) then 1 else 0) (by split<;>decide) (by simp only [X9,YG];split<;>decide)
  obtain ⟨m,rfl,d1,g0⟩:∃m:Int,v=.int m/\0 < m/\m<=1999:=by
   simp only [X2,YN,or_false] at a7;rcases a7 with rfl | rfl<;>exact ⟨_,rfl,by decide,by decide⟩
  refine ⟨p,_,_,_,rfl,rfl,SqL.of a6,hv,?_⟩;refine ⟨d,c,_,m,rfl,x,⟨d1,by omega⟩,λ t d2 g1 t1 y M=>?_⟩
  have a8:=D.trans ((a0.se d c).trans (F.trans M));refine ⟨_,rfl,d,c,_,4,rfl,y,⟨by decide,by decide⟩,λ a9 d3 b0 e5 z N=>?_⟩
  refine ⟨_,rfl,d,c,_,12,rfl,z,⟨by decide,by decide⟩,λ b2 d4 b3 e6 j O=>?_⟩
  refine ⟨(by show 4<=Y3;decide),λ b4 B=>?_⟩
  have b5:=Am B (.lst [.int 0,.int 0,.int a9,.int b2]);have R:=j.nd B;have S:=j.nc B;refine ⟨_,rfl,d,c,_,4,rfl,j.keep b5,⟨by decide,by decide⟩,λ d5 g2 b6 e7 b7 b8=>?_⟩
  have b9:=b8 b4 _ R S Ar;obtain ⟨d6,c0,J⟩:=Jl (xs:=[V.int 0,V.int 0,V.int a9,V.int b2]) (r:=d5) b6 (by simp only [X9,YG];omega)
  obtain ⟨b,rfl,g3,b1⟩:∃b:Int,d6=.int b/\0<=b/\b<=11:=by
   simp only [X2,YN,or_false] at J;rcases J with rfl | rfl | rfl | rfl
   ·exact ⟨_,rfl,by decide,by decide⟩
   ·exact ⟨_,rfl,by decide,by decide⟩
   ·exact ⟨_,rfl,b0,by omega⟩
   ·exact ⟨_,rfl,b3,by omega⟩
  refine ⟨b4,_,_,_,rfl,rfl,SqL.of b9,c0,_,_,rfl,rfl,?_⟩;have c1:=a8.trans (N.trans (O.trans ((b5.se d c).trans b8)));refine ⟨_,rfl,d,c,_,2,rfl,b7,⟨by decide,by decide⟩,λ g4 c2 e8 e9 c3 d7=>?_⟩
  have c4:=c1.trans d7;have bl:(1+b:Int).natAbs < lim:=Y7 (show (1+b:Int).natAbs < 2 ^ 50 by omega) (by unfold lim;exact Cy (by decide))
  refine ⟨rfl,_,rfl,?_⟩;have f0:(2:Nat) ^ 12=4096:=by decide
  have L:∀t':Int,t'.natAbs < 2 ^ 12->∀k,c2 k=none->c8.rt (.ref k) (upd c2 k (.tup [.int (Fr.lt t' (1+b)),.int (Fr.lb t' (1+b))])):=λ t' d8 k g=>
   q _ _ _ (c3.keep (Am g _)) (c4.trans ((Am g _).se d c)) (I9 (by omega)) ((Bd.of (by omega) d8 (by omega)).mono (xU l))
  refine ite2 (λ _=>?_) (λ _=>?_)
  ·refine ⟨_,rfl,_,_,rfl,rfl,?_⟩;exact ⟨_,rfl,_,rfl,_,_,rfl,(by show (0:Int) < 1+b;omega),bl,λ k g=>L (0 - t) (by omega) k g⟩
  ·exact ⟨_,rfl,_,rfl,_,_,rfl,(by show (0:Int) < 1+b;omega),bl,λ k g=>L t (by omega) k g⟩
 refine ⟨_,(Ag (BP (PW.pt (pw_and (Bk (pv 1)) (pw_and1 (BW By (Ai (Qq T) a.m Ah (Ad (pv 0) (Bf Ac Aa))) Ac)))) (Ag (Ax (i:=2) KJ.nd (Aw Cp (Aw Fp (Ai (Qq T) a.m Ah (Ad (pv 0) (Bf Ac Aa))) Ac) (Ai (Qq T) a.m Ah (Ad (pv 0) (Bf Ac Aa))))) (Ag (Ax (i:=3) KJ.nd (Aw Cp (Aw Fp (Ai (Qq T) a.m Ah (Ad (pv 0) (Bf Ac Aa))) Ac) (Ai (Qq T) a.m Ah (Ad (pv 0) (Bf Ac Aa))))) (Ak (Av (Ai (Uy T) a.m Ah (CP (Aw Cp (Aw GR (Aw Eb (pv 2) (Aw GR (Aw Fp Ac (Aw Q6 Ac Ac)) Ac)) (Aw Q6 Ac Ac)) Ac) (CP (Aw Cp Ac (Aw Eb (pv 3) (Aw GR (Aw Q6 Ac Ac) Ac))) Aa))))))) BR) c9),?_⟩
 refine ⟨_,rfl,_,rfl,?_⟩;cases l with
 | false=>exact iteF (iteF (X _ _ _ H (hd.le (qV _)) (SE.refl _ _ _) q))
 | true=>
  refine iteT ?_;refine ⟨_,rfl,d,c,_,3,rfl,hd,⟨by decide,by decide⟩,λ a3 n a4 a5 e D=>?_⟩
  refine ⟨rfl,_,rfl,?_⟩;refine ite2 (λ _=>?_) (λ _=>X _ _ _ n e D q)
  refine ⟨_,rfl,d,c,_,33554432,rfl,e,⟨by decide,by decide⟩,λ c5 d0 f1 f2 x F=>?_⟩
  refine ⟨_,_,rfl,rfl,.inr ⟨by decide,by decide⟩,_,rfl,d,c,_,33554432,rfl,x,⟨by decide,by decide⟩,λ c6 d2 f3 f4 y M=>?_⟩
  refine ⟨_,_,rfl,rfl,?_⟩;refine ⟨_,rfl,d,c,_,33554432,rfl,y,⟨by decide,by decide⟩,λ G d3 f5 f6 z N=>?_⟩
  refine ⟨_,_,rfl,rfl,.inr ⟨by decide,by decide⟩,_,rfl,d,c,_,33554432,rfl,z,⟨by decide,by decide⟩,λ I d4 f7 f8 j O=>?_⟩
  refine ⟨_,_,rfl,rfl,?_⟩;have c7:=D.trans (F.trans (M.trans (N.trans O)));refine ⟨_,rfl,_,_,rfl,rfl,u,_,_,rfl,rfl,.inl ⟨by decide,by decide⟩,_,_,rfl,rfl,_,_,rfl,rfl,(by show (0:Int) < 2 * 10 ^ (15:Int).toNat - 1;decide),_,_,rfl,rfl,u,_,_,rfl,rfl,_,_,rfl,rfl,?_⟩
  refine ⟨_,rfl,_,_,rfl,rfl,u,_,_,rfl,rfl,_,_,rfl,rfl,(by show (0:Int) < 10 ^ (15:Int).toNat - 1;decide),_,_,rfl,rfl,?_⟩
  have d9:=UO (c5 * 33554432+c6) (show (2 * 10 ^ (15:Int).toNat - 1:Int)≠0 by decide)
  have e1:=WV (c5 * 33554432+c6) (show (0:Int) < 2 * 10 ^ (15:Int).toNat - 1 by decide)
  have e0:=UO (G * 33554432+I) (show (10 ^ (15:Int).toNat - 1:Int)≠0 by decide)
  have e2:=WV (G * 33554432+I) (show (0:Int) < 10 ^ (15:Int).toNat - 1 by decide)
  rw [W] at d9 e1 e0 e2 ⊢;refine ⟨_,_,rfl,(by show (0:Int) < 1+(G * 33554432+I) % (1000000000000000 - 1);omega),Y7 (show (1+(G * 33554432+I) % (1000000000000000 - 1):Int).natAbs < 2 ^ 50 by omega) (by unfold lim;exact Cy (by decide)),λ p o=>?_⟩
  exact q _ _ _ ((j.le (by omega)).keep (Am o _)) (c7.trans ((Am o _).se d c)) (I9 (by omega)) (show Bd 50 _ from Bd.of (by omega) (by omega) (by omega))
theorem AI1 (T:Txt K mg ad):CalB P w K mg base true 3 "_law_piece" ["_law_drawn_here","_law_far"] (pq K):=by
 refine T.Th.calN Ld (λ _ _ _ _ _ _=>Bm λ _ _=>rfl) (λ vs H Q E h=>?_) (λ f M A outer s H vs Q E x h=>?_)
 ·obtain ⟨_,_,_,_,rfl,_⟩:=h;rfl
 obtain ⟨d,c,Z,k,rfl,hd,q⟩:=h;refine ⟨_,(Ag (Ax (i:=2) Ld.nd (Ai (Qq T) x.m Ah (Ad (pv 0) (Bf Ac Aa)))) (Ag (Ax (i:=3) Ld.nd (Ai (Xb T) x.m Ah (Ad (pv 0) (Ad (pv 1) Aa)))) (Ag (BP (BW GX (pv 2) Ac) (Ak (Av (Bp (Bf Ba (Ad (pv 3) Aa))))) BR) (Ag (BP (BW GX (pv 2) Ac) (Ak (Av (Bp (Bf Ba (Ad (pv 3) Aa))))) BR) (Ag (Ax (i:=4) Ld.nd (Ai (Xb T) x.m Ah (Ad (pv 0) (Ad (pv 1) Aa)))) (Ag (BP (Bk (Ai (V8 T) x.m Ah (Ad (pv 4) (Ad (pv 3) Aa)))) (Ak (dq (i:=3) (j:=4) rfl Ld.nd rfl rfl (by decide) rfl rfl (Ad (pv 4) (Ad (pv 3) Aa)) rfl)) BR) (Ak (Av (Bp (Bf Ba (Ad (pv 3) (Ad (pv 4) Aa)))))))))))),?_⟩
 refine ⟨_,rfl,d,c,_,5,rfl,hd,⟨by decide,by decide⟩,λ R S N O C I=>?_⟩
 refine ⟨_,rfl,_,rfl,d,c,_,k,rfl,C,λ U V e l J r b2=>?_⟩
 have t:=I.trans J;refine ⟨_,rfl,_,_,rfl,rfl,_,rfl,?_⟩;refine ite2 (λ _=>?_) (λ _=>?_)
 ·refine ⟨_,rfl,(by show 2<=Y3;decide),λ p a=>?_⟩
  exact q _ _ (.gap e) ((l.le (by omega)).keep (Am a _)) (t.trans ((Am a _).se d c)) (DV.upd2 a (.str _) r) trivial b2
 refine ⟨_,rfl,_,_,rfl,rfl,_,rfl,?_⟩;refine ite2 (λ _=>?_) (λ _=>?_)
 ·refine ⟨_,rfl,(by show 2<=Y3;decide),λ p a=>?_⟩
  exact q _ _ (.glass e) ((l.le (by omega)).keep (Am a _)) (t.trans ((Am a _).se d c)) (DV.upd2 a (.str _) r) trivial b2
 refine ⟨_,rfl,_,rfl,d,c,_,k,rfl,l,λ W X u D F v b3=>?_⟩
 have G:=t.trans F;have g:=l.dv F r;refine ⟨_,rfl,_,rfl,_,_,.cons v (.cons g .nil),⟨_,_,rfl,b3.sm (lM k),b2.sm (lM k),rfl⟩,λ b Y n L=>?_⟩
 obtain rfl:=L.bl_of;refine ⟨_,rfl,?_⟩;have y:=D.keep n;have B:=G.trans (n.se d c);refine ite2 (λ o=>?_) (λ o=>?_)
 ·have o:u < e:=of_decide_eq_true o;refine ⟨_,rfl,_,rfl,_,_,rfl,?_⟩;refine ⟨_,rfl,_,rfl,(by show 3<=Y3;decide),λ p a=>?_⟩
  exact q _ _ (.stop u e) (y.keep (Am a _)) (B.trans ((Am a _).se d c)) (DV.upd3 a (.str _) (v.keep n) (g.keep n)) (show ¬ e < u by grind) ⟨b3,b2⟩
 ·have o:¬ u < e:=λ z=>o (decide_eq_true z)
  refine ⟨_,rfl,_,rfl,(by show 3<=Y3;decide),λ p a=>?_⟩
  exact q _ _ (.stop e u) (y.keep (Am a _)) (B.trans ((Am a _).se d c)) (DV.upd3 a (.str _) (g.keep n) (v.keep n)) o ⟨b2,b3⟩
theorem Xh (T:Txt K mg ad):CalB P w K mg base true 3 "_law_plus" ["_law_one","_law_other"] (PR K (JV λ p q=>p+q)):=by
 refine T.WD.calN AP5 (λ _ _ _ _ _ _=>Bm λ _ _=>rfl) (λ vs H Q E h=>?_) (λ f u A outer s H vs Q E g h=>?_)
 ·obtain ⟨_,_,dv,⟨_,_,rfl,_⟩,_⟩:=h;exact dv.len
 obtain ⟨_,_,dv,⟨p,q,rfl,sp,d,rfl⟩,k⟩:=h;obtain ⟨_,_,rfl,l,o⟩:=dv.two;obtain ⟨a,rfl,i⟩:=l.fr;obtain ⟨b,rfl,j⟩:=o.fr;refine ⟨_,(Ak (Av (Ai (Uy T) g.m Ah (CP (Aw Cp (Aw Dj (Ae Al (pv 0) Ac) (Ae Al (pv 1) Ac)) (Aw Dj (Ae Al (pv 1) Ac) (Ae Al (pv 0) Ac))) (CP (Aw Dj (Ae Al (pv 0) Ac) (Ae Al (pv 1) Ac)) Aa))))),?_⟩
 refine ⟨_,rfl,a,_,_,_,rfl,rfl,i,rfl,_,rfl,b,_,_,_,rfl,rfl,j,rfl,_,_,rfl,rfl,Dt sp.n d.dn,?_⟩;refine ⟨_,rfl,b,_,_,_,rfl,rfl,j,rfl,_,rfl,a,_,_,_,rfl,rfl,i,rfl,_,_,rfl,rfl,Dt d.n sp.dn,_,_,rfl,rfl,?_⟩;refine ⟨_,rfl,a,_,_,_,rfl,rfl,i,rfl,_,rfl,b,_,_,_,rfl,rfl,j,rfl,_,_,rfl,rfl,Dt sp.dn d.dn,?_⟩;refine ⟨_,_,rfl,Int.mul_pos (Ml p) (Ml q),K8 sp.dn d.dn,λ r g=>k _ _ (Am g _) ?_⟩
 have e:=I9 (K:=K) (H:=H) (t:=p.num * (q.den:Int)+q.num * (p.den:Int)) (b:=(p.den:Int) * (q.den:Int)) (p:=r) (Ib p q);rw [Fr.Z6] at e;exact e
theorem AR8 (T:Txt K mg ad):CalB P w K mg base true 3 "_law_times" ["_law_one","_law_other"] (PR K (JV λ p q=>p * q)):=by
 refine T.W3.calN uD (λ _ _ _ _ _ _=>Bm λ _ _=>rfl) (λ vs H Q E h=>?_) (λ f u A outer s H vs Q E d h=>?_)
 ·obtain ⟨_,_,dv,⟨_,_,rfl,_⟩,_⟩:=h;exact dv.len
 obtain ⟨_,_,dv,⟨p,q,rfl,sp,g,rfl⟩,k⟩:=h;obtain ⟨_,_,rfl,l,o⟩:=dv.two;obtain ⟨a,rfl,i⟩:=l.fr;obtain ⟨b,rfl,j⟩:=o.fr;refine ⟨_,(Ak (Av (Ai (Uy T) d.m Ah (CP (Aw Dj (Ae Al (pv 0) Ac) (Ae Al (pv 1) Ac)) (CP (Aw Dj (Ae Al (pv 0) Ac) (Ae Al (pv 1) Ac)) Aa))))),?_⟩
 refine ⟨_,rfl,a,_,_,_,rfl,rfl,i,rfl,_,rfl,b,_,_,_,rfl,rfl,j,rfl,_,_,rfl,rfl,Dt sp.n g.n,?_⟩;refine ⟨_,rfl,a,_,_,_,rfl,rfl,i,rfl,_,rfl,b,_,_,_,rfl,rfl,j,rfl,_,_,rfl,rfl,Dt sp.dn g.dn,?_⟩;refine ⟨_,_,rfl,Int.mul_pos (Ml p) (Ml q),K8 sp.dn g.dn,λ r d=>k _ _ (Am d _) ?_⟩
 have e:=I9 (K:=K) (H:=H) (t:=p.num * q.num) (b:=(p.den:Int) * (q.den:Int)) (p:=r) (Ib p q);rw [Fr.RK] at e;exact e
theorem AH9 (T:Txt K mg ad):CalB P w K mg base true 4 "_law_less" ["_law_one","_law_other"] (PR K (JV λ p q=>p - q)):=by
 refine T.YJ.calN zH (λ _ _ _ _ _ _=>Bm λ _ _=>rfl) (λ vs H Q E h=>?_) (λ f u A outer s H vs Q E j h=>?_)
 ·obtain ⟨_,_,dv,⟨_,_,rfl,_⟩,_⟩:=h;exact dv.len
 obtain ⟨_,_,dv,⟨p,q,rfl,sp,l,rfl⟩,k⟩:=h;obtain ⟨_,_,rfl,n,o⟩:=dv.two;obtain ⟨b,rfl,a⟩:=o.fr;refine ⟨_,(Ak (Av (Ai (Xh T) j.m Ah (Ad (pv 0) (Ez (Bp (CP (Aw GR Ac (Ae Al (pv 1) Ac)) (Ao (Ae Al (pv 1) Ac) Aa))) Aa))))),?_⟩
 refine ⟨_,rfl,_,rfl,b,_,_,_,rfl,rfl,a,rfl,_,_,rfl,rfl,_,rfl,b,_,_,_,rfl,rfl,a,rfl,(by show 2<=Y3;decide),λ d g=>?_⟩
 have i:=Am g (.tup [.int (0 - q.num),.int (q.den:Int)]);have dn:DV K (upd H d (.tup [.int (0 - q.num),.int (q.den:Int)])) (.ref d) (Aj (-q)):=by
  rw [pF];exact .tup (SqT.of Ar) (.cons (.int _) (.cons (.int _) .nil))
 refine ⟨_,_,.cons (n.keep i) (.cons dn .nil),⟨_,_,rfl,sp,l.neg,rfl⟩,λ v r t hv=>k _ _ (i.trans t) ?_⟩
 have e:p+-q=p - q:=(Rat.sub_eq_add_neg p q).symm;show DV K r v (Aj (p - q));rw [<- e];exact hv
end
end K74
namespace K74
open PySem L2 Lib Fr Op Tx PySem.NumText
seal PE PT PW PA PS PSs PG PGs PI PO CK PJ
section
variable {P:Yf}{w:World}{K:FrG}{mg:Y1->Option Value}{base:Heap}{ad:Adr}{c:Bool}
theorem eQ {d:Nat}(h:d < 10):(Z3 "0123456789").cps[d]?=some (48+d):=by
 have:∀d:Nat,d < 10->(Z3 "0123456789").cps[d]?=some (48+d):=by decide
 exact this d h
theorem AU8 {y:Y1}(h:y=Z3 ""):cl y=[]:=by subst h;rfl
theorem AX1 (T:Txt K mg ad):CalB P w K mg base true 1 "_law_written" ["_law_number"] lZ:=by
 refine T.Uu.calN Lz (λ _ _ _ _ _ _=>by1 λ _=>rfl) (λ vs H Q E h=>?_) (λ f M A outer s H vs Q E N h=>?_)
 ·obtain ⟨_,rfl,_⟩:=h;rfl
 obtain ⟨n,rfl,I,q⟩:=h;refine ⟨_,(Ag (Ax (i:=1) Lz.nd Ba) (Ag (Ax (i:=2) Lz.nd (Br Ip rfl T.abs Iu (Ad (pv 0) Aa))) (Ag (Mm YI (PW.pt (pw_or (BW Hq (pv 2) Ac) (pw_or1 (BW By (pv 1) Ba)))) (Ag (Ax (i:=1) Lz.nd (Aw Cm (lF Ba (Aw Eb (pv 2) Ac) (λ _ _=>rfl)) (pv 1))) (Ak (Ax (i:=2) Lz.nd (Aw Jr (pv 2) Ac))))) (Ak (Av (Aw Cm (Aw eG Ba (HQ mY rfl T.int Ih (cF (Dr GX (pv 0) Ac) Aa))) (pv 1))))))),?_⟩
 have dl:=(Fe (m:=n.natAbs) (k:=575) (by decide)).mpr I
 refine ⟨_,rfl,_,rfl,?_⟩;refine ⟨λ k J o=>∃(m:Nat) (y:Y1),J=[some (.int n),some (.str y),some (.int (m:Int))]/\o=H/\((cl y=[]/\y=Z3 ""/\m=n.natAbs/\k=m+1)\/(cl y≠[]/\dz m++cl y=dg n.natAbs/\k=m)),⟨n.natAbs+1,n.natAbs,Z3 "",by rw [Fr.Qu];rfl,rfl,.inl ⟨rfl,rfl,rfl,rfl⟩⟩,?_⟩
 rintro k _ o ⟨m,y,rfl,rfl,p⟩
 have x:(m:Int) % 10=((m % 10:Nat):Int):=(Fh m 10).symm;have B:(m:Int) / 10=((m / 10:Nat):Int):=(Int.natCast_ediv m 10).symm;have g:m % 10 < 10:=MB _ (by decide)
 have O:y.length<=575:=by
  rw [<- Dm];rcases p with ⟨e,_⟩ | ⟨_,e,_⟩
  ·rw [e];decide
  ·have:=congrArg QK e;rw [X1] at this;omega
 have step:(0 < m\/cl y=[])->m / 10 < k/\cl (UC #[48+m % 10]++y)≠[]/\dz (m / 10)++cl (UC #[48+m % 10]++y)=dg n.natAbs:=λ b=>by
  have e1:cl (UC #[48+m % 10]++y)=[48+m % 10]++cl y:=Bv _ _;rw [e1];refine ⟨?_,by simp,?_⟩
  ·rcases p with ⟨_,_,_,e⟩ | ⟨d,_,e⟩
   ·omega
   ·rcases b with h | h
    ·omega
    ·exact absurd h d
  ·rcases p with ⟨d,_,e2,e⟩ | ⟨d,e2,e⟩
   ·rw [d,<- e2];by_cases z:m=0
    ·subst z;rfl
    ·rw [YY,<- eO (by omega),zZ (by omega)]
   ·rcases b with h | h
    ·rw [<- e2,eO h,Xs]
    ·exact absurd h d
 have r:¬ (0 < m\/cl y=[])->cl (NR (Z3 "-") (if decide (n < 0)=true then 1 else 0)++y)=(if n < 0 then [45] else [])++dg n.natAbs:=λ b=>by
  have L:m=0:=by
   by_cases z:m=0
   ·exact z
   ·exact absurd (.inl (by omega)) b
  have C:cl y=dg n.natAbs:=by
   rcases p with ⟨d,_⟩ | ⟨_,e2,_⟩
   ·exact absurd (.inr d) b
   ·rw [L] at e2;exact e2
  rw [Bv,C];by_cases a:n < 0
  ·rw [if_pos (decide_eq_true a),if_pos a];rfl
  ·rw [if_neg (by simpa using a),if_neg a];rfl
 have D:MulOk (Z3 "-") (if decide (n < 0)=true then 1 else 0):=by
  by_cases a:n < 0
  ·rw [if_pos (decide_eq_true a)];exact ⟨by decide,λ _ h=>absurd h (by decide),λ _ h=>absurd h (by decide)⟩
  ·rw [if_neg (by simpa using a)];exact ⟨by decide,λ h=>absurd (by decide) h,λ h=>absurd (by decide) h⟩
 have R:(NR (Z3 "-") (if decide (n < 0)=true then 1 else 0)).length<=1:=by
  by_cases a:n < 0
  ·rw [if_pos (decide_eq_true a)];decide
  ·rw [if_neg (by simpa using a)];decide
 refine ⟨_,rfl,_,_,rfl,rfl,_,rfl,?_⟩;refine ite2 (λ c=>?_) (λ c=>?_)
 ·have b:0 < m:=by
   have:(0:Int) < (m:Int):=of_decide_eq_true c;omega
  obtain ⟨t,u,v⟩:=step (.inl b);refine ⟨λ j l=>j=[some (.int n),some (.str (UC #[48+m % 10]++y)),some (.int ((m / 10:Nat):Int))]/\l=o,?_,?_⟩
  ·rintro _ _ ⟨rfl,rfl⟩
   exact ⟨m / 10,t,m / 10,_,rfl,rfl,.inr ⟨u,v,rfl⟩⟩
  ·refine ⟨_,rfl,_,_,rfl,rfl,(by show (0:Int) < 10;decide),_,_,48+m % 10,rfl,rfl,(by show (0:Int)<=(m:Int) % 10;omega),(by show (m:Int) % 10 < 2 ^ 63;omega),(by show (m:Int) % 10 < 10;omega),?_,?_⟩
   ·show (Z3 "0123456789").cps[((m:Int) % 10).toNat]?=_;rw [x,xa];exact eQ g
   ·refine ⟨_,rfl,_,_,rfl,rfl,CW (by show 1+y.length<=10000;omega),?_⟩
    refine ⟨_,rfl,_,_,rfl,rfl,⟨by decide,by decide⟩,?_⟩
    refine ⟨?_,rfl⟩;show [some (V.int n),some (V.str (UC #[48+m % 10]++y)),some (V.int ((m:Int) / 10))]=_;rw [B]
 ·have b:¬ 0 < m:=λ z=>c (decide_eq_true (by omega))
  refine ⟨_,rfl,rfl,_,rfl,?_⟩;refine ite2 (λ c=>?_) (λ c=>?_)
  ·rw [DK] at c;have b:=AU8 (of_decide_eq_true c);obtain ⟨t,u,v⟩:=step (.inr b);refine ⟨λ j l=>j=[some (.int n),some (.str (UC #[48+m % 10]++y)),some (.int ((m / 10:Nat):Int))]/\l=o,?_,?_⟩
   ·rintro _ _ ⟨rfl,rfl⟩
    exact ⟨m / 10,t,m / 10,_,rfl,rfl,.inr ⟨u,v,rfl⟩⟩
   ·refine ⟨_,rfl,_,_,rfl,rfl,(by show (0:Int) < 10;decide),_,_,48+m % 10,rfl,rfl,(by show (0:Int)<=(m:Int) % 10;omega),(by show (m:Int) % 10 < 2 ^ 63;omega),(by show (m:Int) % 10 < 10;omega),?_,?_⟩
    ·show (Z3 "0123456789").cps[((m:Int) % 10).toNat]?=_;rw [x,xa];exact eQ g
    ·refine ⟨_,rfl,_,_,rfl,rfl,CW (by show 1+y.length<=10000;omega),?_⟩
     refine ⟨_,rfl,_,_,rfl,rfl,⟨by decide,by decide⟩,?_⟩
     refine ⟨?_,rfl⟩;show [some (V.int n),some (V.str (UC #[48+m % 10]++y)),some (V.int ((m:Int) / 10))]=_;rw [B]
  ·have F:¬ cl y=[]:=λ e=>c (by rw [DK];exact decide_eq_true (ext (e.trans (show []=cl (Z3 "") from rfl))))
   have G:¬ (0 < m\/cl y=[]):=λ h=>h.elim b F
   exact ⟨_,rfl,_,_,rfl,rfl,.inr ⟨_,rfl,_,_,rfl,rfl,D,_,rfl,_,_,rfl,rfl,CW (by omega),q _ (r G)⟩⟩
theorem Yw (T:Txt K mg ad):CalB P w K mg base true 2 "_law_shown" ["_law_part_here"] (Q3 K):=by
 refine T.ZX.calN AJ5 (λ _ _ _ _ _ _=>by1 λ _=>rfl) (λ vs H Q E h=>?_) (λ f o A outer s H vs Q E d h=>?_)
 ·obtain ⟨_,_,rfl,_⟩:=h;rfl
 obtain ⟨v,p,rfl,hv,sp,q⟩:=h;obtain ⟨a,r,t,rfl,h,e1,e2⟩:=DV.t2 (show DV K H v (.tuple [.int p.num,.int (p.den:Int)]) from hv)
 obtain rfl:=DV.int_of e1;obtain rfl:=DV.int_of e2;refine ⟨_,(Ag (BP (BW By (Ae Al (pv 0) Ac) Ac) (Ak (Av (Ai (AX1 T) d.m Ah (Ao (Ae Al (pv 0) Ac) Aa)))) BR) (Ak (Av (Aw Cm (Aw Cm (Ai (AX1 T) d.m Ah (Ao (Ae Al (pv 0) Ac) Aa)) Ba) (Ai (AX1 T) d.m Ah (Ao (Ae Al (pv 0) Ac) Aa)))))),?_⟩
 refine ⟨_,rfl,a,_,_,_,rfl,rfl,h,rfl,rfl,_,rfl,?_⟩;have u:=(Fe (m:=p.num.natAbs) (k:=575) (by decide)).mpr (Y7 sp.1 Gk)
 have B:=(Fe (m:=p.den) (k:=575) (by decide)).mpr (Y7 sp.2 Gk)
 have e1:∀x:Y1,cl x=sh p->x=Ay p:=λ x j=>ext (j.trans (JP p).symm)
 refine ite2 (λ c1=>?_) (λ c1=>?_)
 ·have g:p.den=1:=by
   have z:decide (V.int (p.den:Int)=V.int 1)=true:=c1;rw [Fq] at z;have:=of_decide_eq_true z;omega
  refine ⟨_,rfl,a,_,_,_,rfl,rfl,h,rfl,_,rfl,Y7 sp.1 Gk,λ z b=>?_⟩
  rw [e1 z (by rw [b];unfold sh;rw [if_pos g,YY])]
  exact q
 ·have g:¬ p.den=1:=by
   intro e
   apply c1
   show decide (V.int (p.den:Int)=V.int 1)=true;rw [Fq,e];rfl
  refine ⟨_,rfl,a,_,_,_,rfl,rfl,h,rfl,_,rfl,Y7 sp.1 Gk,λ z b=>?_⟩
  have l:=Dm z;rw [b,X1] at l;have zl2:(if p.num < 0 then [45] else []:List Nat).length<=1:=by split<;>decide
  have zs:(Z3 "/").length=1:=rfl;refine ⟨_,_,rfl,rfl,CW (by omega),?_⟩
  refine ⟨_,rfl,a,_,_,_,rfl,rfl,h,rfl,_,rfl,by rw [YV];exact Y7 sp.2 Gk,λ y i=>?_⟩
  rw [if_neg (by omega),Qb,YV] at i
  have n:=Dm y;rw [i] at n;refine ⟨_,_,rfl,rfl,CW (by rw [Ck];omega),?_⟩
  show Q (.str (z++Z3 "/"++y)) H;rw [e1 (z++Z3 "/"++y) (by
   rw [Bv,Bv,b,i];unfold sh;rw [if_neg g];show _++[47]++_=_;simp)]
  exact q
theorem Ae9 (T:Txt K mg ad):CalB P w K mg base true 3 "_law_piece_text" ["_law_piece_here"] (nY K):=by
 refine T.XS.calN sS (λ _ _ _ _ _ _=>by1 λ _=>rfl) (λ vs H Q E h=>?_) (λ f b0 A outer s H vs Q E a1 h=>?_)
 ·obtain ⟨_,_,rfl,_⟩:=h;rfl
 obtain ⟨v,p,rfl,hv,ps,q⟩:=h;refine ⟨_,(Ak (Av (Ce YD QU QV Kw Ba (CP (Aw Gs (CN (Ao (Ae Al (pv 0) Ac) Aa)) (Fz ["_law_part_here"] [none] rfl (Qx (Em WN (pv 0) (Dy Ac) Fj)) (λ _ _ _ _ _=>(Bq (i:=0) (show UB [("_law_part_here":Str)] by decide))) (λ _ _ _ _ _=>Fd) (λ _ _ _ _ _=>(Ai (Yw T) a1.m Ah (Ad (pv 0) Aa))) (Fw (by decide) (by decide)) (by decide) rfl (by decide) rfl (G3 rfl))) Aa)))),?_⟩
 obtain ⟨t,b,rfl,g,z⟩:∃(t:Addr) (b:List V),v=.ref t/\SqT K H t (.str (wd p)::b)/\DVs K H b ((fracs p).map Aj):=by
  cases p with
  | gap B=>
   obtain ⟨t,M,N,rfl,g,k,l⟩:=DV.t2 (show DV K H v (.tuple [.str "gap",Aj B]) from hv)
   obtain rfl:=DV.str_of k;exact ⟨t,_,rfl,g,.cons l .nil⟩
  | glass B=>
   obtain ⟨t,M,N,rfl,g,k,l⟩:=DV.t2 (show DV K H v (.tuple [.str "glass",Aj B]) from hv)
   obtain rfl:=DV.str_of k;exact ⟨t,_,rfl,g,.cons l .nil⟩
  | stop B h=>
   obtain ⟨t,M,N,b1,rfl,g,k,l,a2⟩:=DV.t3 (show DV K H v (.tuple [.str "stop",Aj B,Aj h]) from hv)
   obtain rfl:=DV.str_of k;exact ⟨t,_,rfl,g,.cons l (.cons a2 .nil)⟩
 have hl:b.length=(fracs p).length:=by have:=z.len;rw [Y2] at this;exact this
 have b2:1<=(fracs p).length/\(fracs p).length<=2:=by cases p<;>exact ⟨by simp [fracs],by simp [fracs]⟩
 refine ⟨rfl,_,rfl,t,_,_,_,rfl,rfl,g,Dv,(by show 1<=Y3;decide),λ o O=>?_⟩
 have G:=Am O (.lst [.str (wd p)]);have R:upd H o (.lst [.str (wd p)]) o=some (.lst [.str (wd p)]):=Ar;generalize upd H o (.lst [.str (wd p)])=S at G R ⊢;refine ⟨_,rfl,_,rfl,t,_,rfl,g.keep G,(λ e=>by rw [Q9] at e;simp only [X9] at e;omega),λ n U=>⟨n,rfl,⟨_,SqT.of Ar⟩,?_⟩⟩
 rw [Ua];have I:=Am U (.tup ((V.str (wd p)::b).drop 1));have W:upd S n (.tup ((V.str (wd p)::b).drop 1)) n=some (.tup b):=Ar;have C:=I _ _ R;have J:=G.trans I;generalize upd S n (.tup ((V.str (wd p)::b).drop 1))=a3 at I W C J ⊢;refine R1 (K:=K) (a:=n) (xs:=b) (λ i r u j=>∃c0,r=[c0]/\u=(((fracs p).take i).map Ay).map V.str/\j=a3) ⟨_,rfl,rfl,rfl⟩ ?_ ?_ ?_
 ·rintro i r u j hi ⟨c0,rfl,rfl,rfl⟩
  refine ⟨?_,SqT.of W⟩;rw [Y2,Y2,YR];exact XT (small1000 (by omega))
 ·rintro i x r u j hi ⟨c0,rfl,rfl,rfl⟩
  obtain ⟨d,hd,a4⟩:=z.get hi;rw [ZN] at hd;cases e:(fracs p)[i]? with
  | none=>rw [e] at hd;cases hd
  | some B=>
   rw [e] at hd;cases hd
   refine ⟨_,rfl,x,B,rfl,a4.keep J,ps.2 B (ZB e),nx (CT hi) ⟨_,rfl,?_,rfl⟩⟩;rw [Xe,e,U4,U4];rfl
 ·rintro r u j y ⟨c0,rfl,rfl,rfl⟩ X
  rw [hl,YU];have L:=Am X (.lst (((fracs p).map Ay).map V.str));have Y:upd j y (.lst (((fracs p).map Ay).map V.str)) y=some (.lst (((fracs p).map Ay).map V.str)):=Ar;have D:=L _ _ C;have Z:=J.trans L;generalize upd j y (.lst (((fracs p).map Ay).map V.str))=b3 at L Y D Z ⊢;refine ⟨o,y,_,_,rfl,rfl,D,Y,XT (small1000 (by rw [Y2,Y2];simp only [X9,YG];omega)),λ a5 a0=>?_⟩
  have a6:([.str (wd p)]++((fracs p).map Ay).map V.str:List V)=(toks p).map V.str:=rfl;have a7:JoinOk (Z3 " ") (toks p)=true:=by
   refine JL ?_ (by decide+kernel)
   have a8:∀t∈toks p,t.length<=1200:=Lib.qg p ps;have a9:=Jk p;have b4:((toks p).map (·.length)).sum<=(toks p).length * 1200:=bW a8
   have b5:(toks p).length * 1200<=3 * 1200:=YP _ a9.1;omega
  exact ⟨_,a5,toks p,rfl,rfl,by rw [Ar,a6],a7,q _ (Z.trans (Am a0 _))⟩
theorem au (T:Txt K mg ad):CalB P w K mg base true 4 "_law_text" ["_law_bench"] (qI K):=by
 refine T.Xu.calN AN1 (λ _ _ _ _ _ _=>by1 λ _=>rfl) (λ vs H Q E h=>?_) (λ f M A outer s H vs Q E B h=>?_)
 ·obtain ⟨_,_,rfl,_⟩:=h;rfl
 obtain ⟨v,ps,rfl,hv,r,sh,q⟩:=h;refine ⟨_,(Ak (Av (Ce YD QU QV Kw Ba (DW (Fz ["_law_piece_here"] [none] rfl (Dc (pv 0)) (λ _ _ _ _ _=>(Bq (i:=0) (show UB [("_law_piece_here":Str)] by decide))) (λ _ _ _ _ _=>Fd) (λ _ _ _ _ _=>(Ai (Ae9 T) B.m Ah (Ad (pv 0) Aa))) (Fw (by decide) (by decide)) (by decide) rfl (by decide) rfl (G3 rfl)) Aa)))),?_⟩
 have u:=Same.refl H;obtain ⟨b,xs,rfl,y,l⟩:=hv.lst_of;have hl:xs.length=ps.length:=by have:=l.len;rw [Y2] at this;exact this
 refine ⟨rfl,_,rfl,b,rfl,⟨_,y.keep u⟩,?_⟩;refine Io (K:=K) (a:=b) (xs:=xs) (λ i g j k=>∃c0,g=[c0]/\j=((ps.take i).map FZ).map V.str/\Same H k) ⟨_,rfl,rfl,u⟩ ?_ ?_ ?_
 ·rintro i g j k hi ⟨c0,rfl,rfl,e⟩
  refine ⟨?_,y.keep e⟩;rw [Y2,Y2,YR];exact XT (small1000 (by omega))
 ·rintro i x g j k hi ⟨c0,rfl,rfl,e⟩
  obtain ⟨d,hd,C⟩:=l.get hi;obtain ⟨z,n,rfl⟩:=JD hd;refine ⟨_,rfl,x,z,rfl,C.keep e,sh z (ZB n),λ N D=>nx (CT hi) ⟨_,rfl,?_,e.trans D⟩⟩
  rw [Xe,n,U4,U4];rfl
 ·rintro g j k p ⟨c0,rfl,rfl,e⟩ o
  rw [hl,YU];have G:JoinOk (Z3 "; ") (ps.map FZ)=true:=by
   refine JL ?_ (by decide+kernel)
   have I:∀t∈ps.map FZ,t.length<=4000:=λ t J=>by
    obtain ⟨p,o,rfl⟩:=XW.mp J;exact zO (sh p o)
   have L:=bW I;rw [Y2] at L ⊢;have O:ps.length * 4000<=60 * 4000:=YP _ r;omega
  exact ⟨_,p,ps.map FZ,rfl,rfl,Ar,G,q _ (e.trans (Am o _))⟩
theorem AN0 (T:Txt K mg ad):CalB P w K mg base true 1 "is_name" ["thing"] (mL K):=by
 refine T.Z0.calN yV (λ _ _ _ _ _ _=>by1 λ _=>rfl) (λ vs H Q E h=>?_) (λ f l A outer s H vs Q E m h=>?_)
 ·obtain ⟨_,_,rfl,_⟩:=h;rfl
 obtain ⟨v,d,rfl,hv,ok,q⟩:=h;refine ⟨_,(Ag (BP (PW.pt (pw_or (CQ (Bk (Br Fv rfl T.isinstance Fb (Ad (pv 0) (Ad (Fo (v:=.ty "str") rfl T.str Hi rfl) Aa))))) (pw_or1 (CQ (pW Qo Qo Ac (Br lg rfl T.len DG (Ad (pv 0) Aa)) (Bl (v:=.int 8) rfl T.ex.m_MOST_LETTERS ⟨_,rfl⟩)))))) (Ak (Av Cu)) BR) (Ak (Av (Br (P0 rfl) rfl T.all Nr (DW (m7 rfl (pv 0) T.ex.m_LETTERS (by decide) (by decide) rfl (by decide) rfl rfl rfl rfl) Aa))))),?_⟩
 refine ⟨_,rfl,_,_,_,_,rfl,hv,KY d,_,rfl,?_⟩;cases b:Qe d with
 | false=>
  have a:=q _ (Same.refl _);rw [AW3 b] at a;exact iteT (iteT a)
 | true=>
  obtain ⟨z,rfl⟩:=yL b;obtain rfl:=DV.str_of hv;have g:=ok z rfl;refine iteF ⟨_,rfl,z,rfl,g,_,_,rfl,rfl,_,rfl,?_⟩;by_cases i:1<=z.length
  ·refine Bj (decide_eq_true (by omega)) ⟨_,_,rfl,rfl,_,rfl,?_⟩
   by_cases j:z.length<=8
   ·refine BL (by rw [decide_eq_true (by omega)];rfl) ?_
    refine ⟨_,rfl,z,rfl,g,λ p k=>?_⟩
    refine ⟨p,(QP z).map Lq,rfl,SqL.of (by rw [zh];exact Ar),?_⟩
    have a:=q _ (Am k (.lst ((QP z).map λ x=>V.bl (Lq x))))
    have e:Jw (.str z)=((QP z).map Lq).all id:=by
     show ((decide (1<=z.length) && decide (z.length<=8)) && _)=_;rw [decide_eq_true i,decide_eq_true j,ML];rfl
    rw [<- e];exact a
   ·have a:=q _ (Same.refl _);have e:Jw (.str z)=false:=by
     show ((decide (1<=z.length) && decide (z.length<=8)) && _)=_;rw [decide_eq_false j,Bool.and_false,wc]
    rw [e] at a;exact Bj (by rw [decide_eq_false (by omega)];rfl) a
  ·have a:=q _ (Same.refl _);have e:Jw (.str z)=false:=by
    show ((decide (1<=z.length) && decide (z.length<=8)) && _)=_;rw [decide_eq_false i,wc,wc]
   rw [e] at a;exact BL (decide_eq_false (by omega)) ⟨_,rfl,iteT a⟩
theorem iM (T:Txt K mg ad):CalB P w K mg base true 2 "look_at_name" ["word"] qT:=by
 refine T.YM.calN AH6 (λ _ _ _ _ _ _=>by1 λ _=>rfl) (λ vs H Q E h=>?_) (λ f d A outer s H vs Q E a h=>?_)
 ·obtain ⟨_,rfl,_⟩:=h;rfl
 obtain ⟨x,rfl,nx,k⟩:=h;refine ⟨_,(Ak (BP (CQ (Bk (Ai (AN0 T) a.m Ah (Ad (pv 0) Aa)))) (Ak DR) BR)),?_⟩
 refine ⟨_,rfl,_,_,rfl,.str x,(λ z e=>by cases e;exact Zo nx.len (by decide)),λ g b=>?_⟩
 refine ⟨_,rfl,?_⟩;refine BL (by rw [show Jw (.str x)=true from nx];rfl) ?_
 exact k _ b
theorem Ac3 (T:Txt K mg ad):CalB P w K mg base true 4 "read_number_desk" ["word"] (Ny K):=by
 refine T.Wg.calN yD (λ _ _ _ _ _ _=>by1 λ _=>rfl) (λ vs H Q E h=>?_) (λ f d A outer s H vs Q E a h=>?_)
 ·obtain ⟨_,rfl,_⟩:=h;rfl
 obtain ⟨q,rfl,b,k⟩:=h;refine ⟨_,(Ak (j6 (iW T) a.m (Ad (pv 0) Aa))),?_⟩
 exact ⟨_,rfl,q,rfl,b,k⟩
abbrev Ae8 (ad:Adr):List (Y1×V):=[("join",V.ref ad.ROWS_join),("turn",V.ref ad.ROWS_turn),("show",V.ref ad.ROWS_show),("walk",V.ref ad.ROWS_walk),("table",V.ref ad.ROWS_table),("apart",V.ref ad.ROWS_apart),("image",V.ref ad.ROWS_image),("field",V.ref ad.ROWS_field),("sharp",V.ref ad.ROWS_sharp),("rounds",V.ref ad.ROWS_rounds)]
abbrev AK2 (ad:Adr):List (Y1×V):=[("show",V.ref ad.ANSWERS_show),("walk",V.ref ad.ANSWERS_walk),("table",V.ref ad.ANSWERS_table),("apart",V.ref ad.ANSWERS_apart),("image",V.ref ad.ANSWERS_image),("field",V.ref ad.ANSWERS_field),("sharp",V.ref ad.ANSWERS_sharp),("rounds",V.ref ad.ANSWERS_rounds)]
def gZ (K:FrG)(ad:Adr)(u:Y1)(m:Nat):Prop:=∃a,valV (Es (Ae8 ad)) (.inr u)=some (.ref a)/\∀H,SqT K H a [.int 1,.int (m:Int)]
theorem pX (T:Txt K mg ad)(b7:w.params=ad.pr){u0:Y1}{m:Nat}(b8:gZ K ad u0 m)(d0:m<=5):CalB P w K mg base true 8 "read_row" ["words"] (λ vs H Q E=>∃(l:Addr) (x:Y1) (qs:List Rat),vs=[.ref l]/\H l=some (.lst ((u0::x::qs.map Ay).map V.str))/\Nm x/\(∀q∈qs,Short q)/\qs.length=m/\(u0=Z3 "sharp"->∃q,qs[4]?=some q/\0<=q)/\
  ∀r g u b,Same H b->b r=some (.tup [.ref g,.ref u])->b g=some (.lst [.str x])->DV K b (.ref u) (.list (qs.map Aj))->Q (.ref r) b):=by
 refine T.YH.calN Kq (λ _ _ _ _ _ _=>by1 λ _=>rfl) (λ vs H Q E h=>?_) (λ f c8 A outer s H vs Q E Z h=>?_)
 ·obtain ⟨_,_,_,rfl,_⟩:=h;rfl
 obtain ⟨l,x,qs,rfl,hl,a5,a6,d1,a7,k⟩:=h;obtain ⟨F,b9,C⟩:=b8;refine ⟨_,(Ag (Ax (i:=1) Kq.nd (yo (Bl (v:=.ref ad.ROWS) rfl T.ex.m_ROWS rfl) (Ae Az (pv 0) Ac) ⟨rfl,rfl,rfl,rfl⟩)) (Ag (BP (PW.pt (pw_or (BW Mx (pv 1) Fl) (pw_or1 (BW Ey (Br DX rfl T.len DG (Ad (pv 0) Aa)) (Aw Cp (Aw Cp Ac (Ae Al (pv 1) Ac)) (Ae Al (pv 1) Ac)))))) (Ak DR) BR) (Ag (Ax (i:=2) Kq.nd (Em Ja (pv 0) (Dy Ac) (Dy (Aw Cp Ac (Ae Al (pv 1) Ac))))) (Ag (Df YI rfl (Dc (pv 2)) (Bq (i:=3) Kq.nd) (Ak (DQ (Ai (iM T) Z.m Ah (Ad (pv 3) Aa))))) (Ag (cu (i:=4) Kq.nd rfl (by walk_at "o") ["word"] [none] rfl (Dc (Em Ja (pv 0) (Dy (Aw Cp Ac (Ae Al (pv 1) Ac))) Fj)) (λ _ _ _ _ _=>(Bq (i:=0) (show UB [("word":Str)] by decide))) (λ _ _ _ _ _=>Fd) (λ _ _ _ _ _=>(Ai (Ac3 T) Z.m Ah (Ad (pv 0) Aa))) (Fw (by decide) (by decide)) (by decide) rfl (by decide) rfl (G3 rfl)) (Ag (BP (PW.pt (pw_and (BW By (Ae Az (pv 0) Ac) Ba) (pw_and1 (Bk (Ai (Hv T) Z.m Ah (Ao (Ae Az (pv 4) Ac) (Ad (Bl (v:=.ref ad.NOUGHT) rfl T.ex.m_NOUGHT rfl) Aa))))))) (Ak DR) BR) (Ak (Av (Bp (Ad (pv 2) (Ad (pv 4) Aa))))))))))),?_⟩
 refine ⟨ad.ROWS,_,rfl,T.ex.g_ROWS _ _ b7,_,rfl,l,_,_,.str u0,rfl,rfl,SqL.of hl,Bh (j:=0) rfl,.inr u0,rfl,?_⟩;rw [b9];refine ⟨_,rfl,rfl,_,rfl,BL (by rfl) ?_⟩
 have a0:((u0::x::qs.map Ay).map V.str).length=2+m:=by simp only [Y2,X9];omega
 refine ⟨_,rfl,l,_,rfl,.inl (SqL.of hl),_,rfl,F,_,_,.int 1,rfl,rfl,C H,rfl,_,_,rfl,rfl,_,rfl,F,_,_,.int (m:Int),rfl,rfl,C H,rfl,_,_,rfl,rfl,?_⟩;refine ⟨rfl,_,rfl,BL (by rw [Fq,decide_eq_true (show (((u0::x::qs.map Ay).map V.str).length:Int)=1+1+(m:Int) by rw [a0];omega)];rfl) ?_⟩
 refine ⟨_,rfl,_,rfl,_,rfl,F,_,_,.int 1,rfl,rfl,C H,rfl,_,_,rfl,rfl,_,rfl,l,_,rfl,SqL.of hl,λ g a8=>?_⟩
 have c1:cutV ((u0::x::qs.map Ay).map V.str) (some 1) (some (1+1))=[.str x]:=by
  unfold cutV;rw [show HT.sIx ((u0::x::qs.map Ay).map V.str).length 0 (some 1)=min 1 ((u0::x::qs.map Ay).map V.str).length from HT.HR _ _ 1,show HT.sIx ((u0::x::qs.map Ay).map V.str).length ((u0::x::qs.map Ay).map V.str).length (some (1+1))=min 2 ((u0::x::qs.map Ay).map V.str).length from HT.HR _ _ 2,a0,xw (by omega),xw (by omega)]
  rfl
 have c2:cutV ((u0::x::qs.map Ay).map V.str) (some (1+1)) none=(qs.map Ay).map V.str:=by
  unfold cutV;rw [show HT.sIx ((u0::x::qs.map Ay).map V.str).length 0 (some (1+1))=min 2 ((u0::x::qs.map Ay).map V.str).length from HT.HR _ _ 2,HT.Lf,a0,xw (by omega)]
  show ((qs.map Ay).map V.str).take _=_;exact QD (by rw [Y2,Y2];omega)
 rw [c1];have a1:=Am a8 (.lst [.str x]);have o:upd H g (.lst [.str x]) g=some (.lst [.str x]):=Ar;generalize upd H g (.lst [.str x])=c3 at a1 o ⊢;refine ⟨_,rfl,g,rfl,⟨_,SqL.of o⟩,?_⟩;refine G6 (K:=K) (a:=g) (xs:=[.str x]) (λ i t b=>∃G,t=[some (.ref l),some (.ref F),some (.ref g),G,none]/\Same c3 b) ⟨_,rfl,Same.refl _⟩ ?_ ?_ ?_
 ·rintro i t b hi ⟨G,rfl,B⟩
  exact SqL.of (B _ _ o)
 ·rintro i y t b hi ⟨G,rfl,B⟩
  obtain rfl:y=.str x:=by
   have:=ZB hi;exact W1.mp this
  exact ⟨_,rfl,x,rfl,a5,λ a9 c4=>⟨_,rfl,B.trans c4⟩⟩
 ·rintro t b ⟨G,rfl,B⟩
  have W:b l=some (.lst ((u0::x::qs.map Ay).map V.str)):=B _ _ (a1 _ _ hl);refine ⟨_,rfl,_,rfl,F,_,_,.int 1,rfl,rfl,C b,rfl,_,_,rfl,rfl,_,rfl,l,_,rfl,SqL.of W,λ u a2=>?_⟩
  rw [c2];have b0:=Am a2 (.lst ((qs.map Ay).map V.str));have I:upd b u (.lst ((qs.map Ay).map V.str)) u=some (.lst ((qs.map Ay).map V.str)):=Ar;generalize upd b u (.lst ((qs.map Ay).map V.str))=a9 at b0 I ⊢;refine ⟨u,rfl,⟨_,SqL.of I⟩,?_⟩;refine Io (K:=K) (a:=u) (xs:=(qs.map Ay).map V.str) (λ i t n z=>∃c0,t=[c0]/\Same a9 z/\DVs K z n ((qs.take i).map Aj)) ⟨_,rfl,Same.refl _,.nil⟩ ?_ ?_ ?_
  ·rintro i t n z hi ⟨c0,rfl,J,dv⟩
   have:=dv.len;rw [Y2,YR] at this;rw [Y2,Y2] at hi;exact ⟨XT (small1000 (by omega)),SqL.of (J _ _ I)⟩
  ·rintro i y t n z hi ⟨c0,rfl,J,dv⟩
   have b1:=CT hi;rw [ZN,ZN] at hi;cases e:qs[i]? with
   | none=>rw [e] at hi;cases hi
   | some q=>
    rw [e] at hi;cases hi
    refine ⟨_,rfl,q,rfl,a6 q (ZB e),λ v L b2 hv=>nx b1 ⟨_,rfl,J.trans b2,?_⟩⟩
    rw [Xe,e,U4];exact DVs.append (dv.keep b2) (.cons hv .nil)
  ·rintro t n z p ⟨c0,rfl,J,dv⟩ c5
   rw [Y2,Y2,YU] at dv;have S:=Am c5 (.lst n);have dl:DV K (upd z p (.lst n)) (.ref p) (.list (qs.map Aj)):=.lst (SqL.of Ar) (dv.keep S);have b3:(upd z p (.lst n)) p=some (.lst n):=Ar;have M:=dv.keep S;have D:=b0.trans (J.trans S);generalize upd z p (.lst n)=L at S dl b3 M D ⊢;have X:∀N,Same L N->tTup (tCons (tVar 2) (tCons (tVar 4) tNil)) [some (.ref l),some (.ref F),some (.ref g),G,some (.ref p)] N (λ v c6=>Q v c6):=λ N O=>by
    refine ⟨_,rfl,_,rfl,(by show 2<=Y3;decide),λ r b4=>?_⟩
    have a3:=Am b4 (.tup [.ref g,.ref p]);exact k r g p _ (((a1.trans B).trans D).trans (O.trans a3)) Ar (a3 _ _ (O _ _ (D _ _ (B _ _ o)))) (dl.keep (O.trans a3))
   refine ⟨_,rfl,l,_,_,.str u0,rfl,rfl,SqL.of (D _ _ W),Bh (j:=0) rfl,rfl,_,rfl,?_⟩;rw [DK];by_cases a4:u0=Z3 "sharp"
   ·obtain ⟨q,b5,c7⟩:=a7 a4;refine Bj (decide_eq_true a4) ?_;have Y:(qs.map Aj)[4]?=some (Aj q):=by rw [ZN,b5];rfl
    obtain ⟨y,U,R⟩:∃y,n[4]?=some y/\DV K L y (Aj q):=by
     have c9:=M.len;have d2:=CT Y;obtain ⟨y,U⟩:∃y,n[4]?=some y:=⟨_,ZO (by omega)⟩
     obtain ⟨d,hd,R⟩:=M.get U;rw [Y] at hd;cases hd
     exact ⟨y,U,R⟩
    refine ⟨_,rfl,p,_,_,y,rfl,rfl,SqL.of b3,Bh (j:=4) U,_,_,.cons R (.cons (dN T L) .nil),⟨q,0,rfl,(Ji (a6 q (ZB b5))).sm (by decide),Sm.zero,rfl⟩,λ d3 N O b6=>?_⟩
    obtain rfl:=b6.bl_of;rw [decide_eq_false (xi.mpr c7)];exact ⟨_,rfl,iteF (X N O)⟩
   ·exact BL (decide_eq_false a4) (iteF (X L (Same.refl _)))
theorem AP2 (T:Txt K mg ad):MkC P w K mg base 1 "Desk" ad.Desk ["self"] (eZ ad.Desk):=by
 refine T.ex.i_Desk.mkc AU7 (λ _ _ _ _ _ _=>by1 λ _=>rfl) (λ vs H Q E h=>?_) (λ f g A outer s H vs Q E i h=>?_)
 ·obtain ⟨_,_,rfl,_⟩:=h;rfl
 obtain ⟨a,e,rfl,b,q⟩:=h;refine ⟨_,(Ak (J0 (pv 0) wQ)),?_⟩;exact λ d hd=>⟨_,rfl,a,ad.Desk,e,[],rfl,by rw [BK (Bt b hd)];exact b,T.ex.l_Desk,T.ex.n_Desk_benches,by decide,q d hd⟩
theorem AV7 (T:Txt K mg ad):MC P w K mg base 1 ad.Desk "bench_by" ["self","name"] (nO K ad.Desk):=by
 refine T.ex.q_Desk_bench_by.mc AI7 (λ _ _ _ _ _ _=>Bm λ _ _=>rfl) (λ vs H Q E h=>?_) (λ f r A outer s H vs Q E b h=>?_)
 ·obtain ⟨_,_,_,_,_,_,_,_,rfl,_⟩:=h;rfl
 obtain ⟨o,e,d,q,x,v,n,ps,rfl,a,sx,k⟩:=h;refine ⟨_,(Ag (BP (vz (tM b.units1 (pv 1) (Ft (pv 0)))) (Ak DR) BR) (Ak (Av (rH b.units1 (Ft (pv 0)) (pv 1) (λ _ _=>rfl))))),?_⟩
 obtain ⟨t,g,hl,i⟩:=a.d;obtain ⟨ok,l,j,m,p⟩:=i.at sx;have u:DGet H d (.str x) (some (.ref l)):=j▸DGet.k (k:=.inr x) g;refine ⟨_,rfl,_,rfl,o,_,e,_,_,rfl,a.o,T.ex.l_Desk,T.ex.n_Desk_benches,rfl,d,_,rfl,u,_,rfl,BL rfl ?_⟩;exact ⟨_,rfl,o,_,e,_,_,rfl,a.o,T.ex.l_Desk,T.ex.n_Desk_benches,rfl,_,rfl,d,_,rfl,u,k l m p⟩
theorem AS8 (T:Txt K mg ad):MC P w K mg base 6 ad.Desk "keep" ["self","name","bench"] (iZ K ad.Desk):=by
 refine T.ex.q_Desk_keep.mc Ab8 (λ _ _ _ _ _ _=>JM λ _ _ _=>rfl) (λ vs H Q E h=>?_) (λ f u A outer s H vs Q E e h=>?_)
 ·obtain ⟨_,_,_,_,_,_,_,_,_,rfl,_⟩:=h;rfl
 obtain ⟨o,j,d,q,l,x,C,n,ps,rfl,p,r,g,t,ok,k⟩:=h;refine ⟨_,(Ag (DQ (Ai (O3 T) e.m Ah (Ad (pv 2) Aa))) (Ag (z6 e.units1 (Ft (pv 0)) (pv 1) (pv 2) rfl) (Ak (Av (Bl (v:=.str "ok") rfl T.ex.m_DONE ⟨_,rfl⟩))))),?_⟩
 refine ⟨_,rfl,.ref l,ps,50,rfl,g.dv,ok.good,by decide,λ z b=>?_⟩
 have a:=p.keep b;obtain ⟨y,i,hl,B⟩:=a.d;refine ⟨_,rfl,_,rfl,o,_,j,_,_,rfl,a.o,T.ex.l_Desk,T.ex.n_Desk_benches,rfl,_,rfl,d,_,rfl,DPut.k (k:=.inr x) i (xB (Zo hl r) (by decide)),?_⟩
 exact k _ ((Lib.SD.ofSame b).trans (JB _)) (a.put i (g.keep b) t ok)
theorem AM2 (T:Txt K mg ad):MC P w K mg base 10 ad.Desk "lay" ["self","row"] (Zh K ad.Desk):=by
 refine T.ex.q_Desk_lay.mc pG (λ _ _ _ _ _ _=>Bm λ _ _=>rfl) (λ vs H Q E h=>?_) (λ f S A outer s H vs Q E t h=>?_)
 ·obtain ⟨_,_,_,_,_,_,_,_,rfl,_⟩:=h;rfl
 obtain ⟨o,u,d,q,x,U,n,ps,rfl,G,I,J,nx,ok,k⟩:=h;have V:=Lg (Zo ok.1 (by decide)) ok.sh
 refine ⟨_,(Ag (Ax (i:=2) pG.nd (Ce YD XY Wx rJ (pv 1) (Bf Ba (Bf Ac Aa)))) (Ag (BP (BW Ey (Br DX rfl T.len DG (Ad (pv 2) Aa)) Ac) (Ak DR) BR) (Ag (DQ (Ai (iM T) t.m Ah (Ao (Ae Az (pv 2) Ac) Aa))) (Ak (Av (Cd (k:=6) (pv 0) t.m (Ao (Ae Az (pv 2) Ac) (Bc (Ai (Aa9 T) t.m Ah (Ao (Ae Az (pv 2) Ac) Aa)) Aa)))))))),?_⟩
 refine ⟨_,rfl,rfl,_,Z3 "bench",x,Ed ps,rfl,rfl,V7 _ _,by decide+kernel,nx.no,(by rw [bj nx];have:=nx.len;exact Zo (show _<=20000 by omega) (by decide)),λ a v=>?_⟩
 have b:=Am v (.lst [.str (Z3 "bench"),.str x,.str (Ed ps)]);have g:upd H a (.lst [.str (Z3 "bench"),.str x,.str (Ed ps)]) a=some (.lst [.str (Z3 "bench"),.str x,.str (Ed ps)]):=Ar;generalize upd H a (.lst [.str (Z3 "bench"),.str x,.str (Ed ps)])=W at b g ⊢;refine ⟨_,rfl,a,_,rfl,.inl (SqL.of g),rfl,_,rfl,BL rfl ?_⟩;refine ⟨_,rfl,a,_,_,.str x,rfl,rfl,SqL.of g,Bh (j:=1) rfl,x,rfl,nx,λ X p=>?_⟩
 have r:=G.keep (b.trans p);have y:=p _ _ g;refine ⟨_,rfl,o,_,u,_,_,_,rfl,r.o,rfl,AS8 T,_,rfl,a,_,_,.str x,rfl,rfl,SqL.of y,Bh (j:=1) rfl,_,rfl,a,_,_,.str (Ed ps),rfl,rfl,SqL.of y,Bh (j:=2) rfl,ps,rfl,Zo ok.1 (by decide),ok.sh,λ l xs Y B L hl C=>?_⟩
 have M:l∉q:=λ e=>by
  obtain ⟨z,N⟩:=I l e;have:=p _ _ (b _ _ N);rw [L] at this;cases this
 exact ⟨o,u,d,q,l,x,U,n,ps,rfl,r.keep B,J,.of hl C,M,ok,λ O R D=>k O ((Lib.SD.ofSame ((b.trans p).trans B)).trans R) D⟩
theorem bz (T:Txt K mg ad):CalB P w K mg base true 5 "turned_bench" ["bench"] (λ _ _ _ _=>False):=T.VJ.calN AH1 (λ _ _ _ _ _ _=>by1 λ _=>rfl) (λ vs H Q E h=>h.elim) (λ f a A outer s H vs Q E b h=>h.elim)
theorem lL (T:Txt K mg ad)(C:w.params=ad.pr):MC P w K mg base 16 ad.Desk "say" ["self","row"] (Zh K ad.Desk):=by
 have D:=pX (P:=P) (w:=w) (base:=base) T C (u0:="show") ⟨_,by unfold valV Es;rfl,λ H=>T.ex.s_ROWS_show H⟩ (by decide)
 refine T.ex.q_Desk_say.mc IW (λ _ _ _ _ _ _=>Bm λ _ _=>rfl) (λ vs H Q E h=>?_) (λ f S A outer s H vs Q E b h=>?_)
 ·obtain ⟨_,_,_,_,_,_,_,_,rfl,_⟩:=h;rfl
 obtain ⟨o,p,d,q,x,U,n,ps,rfl,G,I,J,nx,ok,k⟩:=h;have W:=Lg (Zo ok.1 (by decide)) ok.sh
 refine ⟨_,(Ag (BP (CQ (Bk (Br Fv rfl T.isinstance Fb (Ad (pv 1) (Ad (Fo (v:=.ty "str") rfl T.str Hi rfl) Aa))))) (Ak DR) BR) (Ag (Ax (i:=2) IW.nd (Ce YD XY Wx Gy (pv 1) (Bf Ba Aa))) (Ag (BP (BW By (Ae Az (pv 2) Ac) Ba) (Ak (Av (Cd (k:=10) (pv 0) b.m (Ad (pv 1) Aa)))) BR) (Ag (Ax (i:=3) IW.nd (Ai D b.m Ah (Ad (pv 2) Aa))) (Ag (Ax (i:=4) IW.nd (Ae Al (pv 3) Ac)) (Ag (BP (BW By (Ae Az (pv 2) Ac) Ba) (Ak (Av (Cd (k:=6) (pv 0) b.m (Ao (Ae Az (pv 4) Ac) (CP (Aw Gs (Cd (k:=1) (pv 0) b.m (Ao (Ae Az (pv 4) Ac) Aa)) (Cd (k:=1) (pv 0) b.m (Ao (Ae Az (pv 4) Ac) Aa))) Aa))))) BR) (Ag (BP (BW By (Ae Az (pv 2) Ac) Ba) (Ak (Av (Cd (k:=6) (pv 0) b.m (Ao (Ae Az (pv 4) Ac) (Bc (Ai (bz T) b.m Ah (Bc (Cd (k:=1) (pv 0) b.m (Ao (Ae Az (pv 4) Ac) Aa)) Aa)) Aa))))) BR) (Ak (Av (jV Ah (az (Bl (v:=.ref ad.ANSWERS) rfl T.ex.m_ANSWERS rfl) (Ae Az (pv 2) Ac) (λ _ _=>rfl)) (Bc (Cd (k:=1) (pv 0) b.m (Ao (Ae Az (pv 4) Ac) Aa)) (Ao (Ae Al (pv 3) Ac) Aa)))))))))))),?_⟩
 refine ⟨_,rfl,_,_,_,_,rfl,.str _,KY _,_,rfl,iteF ?_⟩;refine ⟨_,rfl,rfl,_,_,rfl,rfl,rfl,(by rw [bj nx];have:=nx.len;exact Zo (show _<=20000 by omega) (by decide)),λ e u=>?_⟩
 obtain ⟨r,L⟩:=uE (t:=Ed ps) nx;rw [L];have g:=Am u (.lst ((Z3 "bench"::r).map V.str));have y:upd H e (.lst ((Z3 "bench"::r).map V.str)) e=some (.lst ((Z3 "bench"::r).map V.str)):=Ar;generalize upd H e (.lst ((Z3 "bench"::r).map V.str))=X at g y ⊢;refine ⟨_,rfl,e,_,_,.str (Z3 "bench"),rfl,rfl,SqL.of y,Bh (j:=0) rfl,rfl,_,rfl,Bj (by rw [DK];exact decide_eq_true rfl) ?_⟩
 have l:=G.keep g;exact ⟨_,rfl,o,_,p,_,_,_,rfl,l.o,rfl,AM2 T,_,rfl,o,p,d,q,x,U,n,ps,rfl,l,(λ a M=>(I a M).imp λ z N=>g _ _ N),J,nx,ok,λ O R B=>k O ((Lib.SD.ofSame g).trans R) B⟩
theorem Qa (T:Txt K mg ad)(z:w.params=ad.pr){u0 nm:Y1}{m:Nat}{p:Addr}{b4:List Pc->List Rat->Y1->Prop}(a0:gZ K ad u0 m)(a1:m<=5)(a2:32∉cl u0)(a3:u0.length<=8)(a4:u0≠Z3 "bench")(a5:u0≠Z3 "join")(a6:u0≠Z3 "turn")
  (hv:valV (Es (AK2 ad)) (.inr u0)=some (.ref p)) (B:mg nm=some (.ref p)) (C:CalB P w K mg base true 12 nm ["bench","numbers"] (Jc K b4)):MC P w K mg base 16 ad.Desk "say" ["self","row"] (Jj K ad.Desk u0 m b4):=by
 have a7:=pX (P:=P) (w:=w) (base:=base) T z a0 a1;refine T.ex.q_Desk_say.mc IW (λ _ _ _ _ _ _=>Bm λ _ _=>rfl) (λ vs H Q E h=>?_) (λ f b5 A outer s H vs Q E a h=>?_)
 ·obtain ⟨_,_,_,_,_,_,_,_,_,_,rfl,_⟩:=h;rfl
 obtain ⟨o,D,d,q,x,b7,n,ps,qs,t,rfl,a8,nx,sx,a9,G,I,J,k⟩:=h;refine ⟨_,(Ag (BP (CQ (Bk (Br Fv rfl T.isinstance Fb (Ad (pv 1) (Ad (Fo (v:=.ty "str") rfl T.str Hi rfl) Aa))))) (Ak DR) BR) (Ag (Ax (i:=2) IW.nd (Ce YD XY Wx Gy (pv 1) (Bf Ba Aa))) (Ag (BP (BW By (Ae Az (pv 2) Ac) Ba) (Ak (Av (Cd (k:=10) (pv 0) a.m (Ad (pv 1) Aa)))) BR) (Ag (Ax (i:=3) IW.nd (Ai a7 a.m Ah (Ad (pv 2) Aa))) (Ag (Ax (i:=4) IW.nd (Ae Al (pv 3) Ac)) (Ag (BP (BW By (Ae Az (pv 2) Ac) Ba) (Ak (Av (Cd (k:=6) (pv 0) a.m (Ao (Ae Az (pv 4) Ac) (CP (Aw Gs (Cd (k:=1) (pv 0) a.m (Ao (Ae Az (pv 4) Ac) Aa)) (Cd (k:=1) (pv 0) a.m (Ao (Ae Az (pv 4) Ac) Aa))) Aa))))) BR) (Ag (BP (BW By (Ae Az (pv 2) Ac) Ba) (Ak (Av (Cd (k:=6) (pv 0) a.m (Ao (Ae Az (pv 4) Ac) (Bc (Ai (bz T) a.m Ah (Bc (Cd (k:=1) (pv 0) a.m (Ao (Ae Az (pv 4) Ac) Aa)) Aa)) Aa))))) BR) (Ak (Av (jV Ah (az (Bl (v:=.ref ad.ANSWERS) rfl T.ex.m_ANSWERS rfl) (Ae Az (pv 2) Ac) (λ _ _=>rfl)) (Bc (Cd (k:=1) (pv 0) a.m (Ao (Ae Az (pv 4) Ac) Aa)) (Ao (Ae Al (pv 3) Ac) Aa)))))))))))),?_⟩
 refine ⟨_,rfl,_,_,_,_,rfl,.str _,KY _,_,rfl,iteF ?_⟩;refine ⟨_,rfl,rfl,_,_,rfl,rfl,rfl,Zo (US (AS2 a3 nx.len (by omega) G) 2) (by decide),λ b L=>?_⟩
 rw [AS7 a2 nx.no];have M:=Am L (.lst ((u0::x::qs.map Ay).map V.str));have g:upd H b (.lst ((u0::x::qs.map Ay).map V.str)) b=some (.lst ((u0::x::qs.map Ay).map V.str)):=Ar;generalize upd H b (.lst ((u0::x::qs.map Ay).map V.str))=b8 at M g ⊢;refine ⟨_,rfl,b,_,_,.str u0,rfl,rfl,SqL.of g,Bh (j:=0) rfl,rfl,_,rfl,BL (by rw [DK];exact decide_eq_false a4) ?_⟩
 refine ⟨_,rfl,b,x,qs,rfl,g,nx,G,a9,I,λ r N b0 b9 O l R dn=>?_⟩
 refine ⟨_,rfl,r,_,_,.ref N,rfl,rfl,SqT.of l,Bh (j:=0) rfl,?_⟩;have u:=O _ _ g;refine ⟨_,rfl,b,_,_,.str u0,rfl,rfl,SqL.of u,Bh (j:=0) rfl,rfl,_,rfl,BL (by rw [DK];exact decide_eq_false a5) ?_⟩
 refine ⟨_,rfl,b,_,_,.str u0,rfl,rfl,SqL.of u,Bh (j:=0) rfl,rfl,_,rfl,BL (by rw [DK];exact decide_eq_false a6) ?_⟩
 have S:=M.trans O;have e:=a8.keep S;obtain ⟨y,U,b1,W,X,Y⟩:=C.ex;obtain rfl:y=p:=by
  have:=W.symm.trans B
  injection this with this
  injection this
 refine ⟨_,rfl,b,_,_,.str u0,rfl,rfl,SqL.of u,Bh (j:=0) rfl,ad.ANSWERS,_,.inr u0,.ref y,rfl,T.ex.g_ANSWERS _ _ z,rfl,hv,y,U,12,_,_,rfl,b1,X,Y,a.mono (by decide),?_⟩
 refine ⟨_,rfl,o,_,D,_,_,_,rfl,e.o,rfl,AV7 T,_,rfl,N,_,_,.str x,rfl,rfl,SqL.of R,Bh (j:=0) rfl,o,D,d,q,x,b7,n,ps,rfl,e,sx,λ c0 Z b6=>?_⟩
 exact ⟨_,rfl,r,_,_,.ref b0,rfl,rfl,SqT.of l,Bh (j:=1) rfl,_,_,ps,qs,t,rfl,Z.dv,e.ok sx,dn,J,λ b2 b3=>k b2 (S.trans b3)⟩
theorem Nu (T:Txt K mg ad):CalB P w K mg base true 2 "shown" ["ratios"] (Z9 K):=by
 refine T.Z2.calN ug (λ _ _ _ _ _ _=>by1 λ _=>rfl) (λ vs H Q E h=>?_) (λ f g A outer s H vs Q E b h=>?_)
 ·obtain ⟨_,_,rfl,_⟩:=h;rfl
 obtain ⟨v,qs,rfl,hv,big,a,q⟩:=h;refine ⟨_,(Ak (Av (Ce YD QU QV Kw Ba (DW (Fz ["one"] [none] rfl (qp (pv 0)) (λ _ _ _ _ _=>(Bq (i:=0) (show UB [("one":Str)] by decide))) (λ _ _ _ _ _=>Fd) (λ _ _ _ _ _=>(Ai (gH T) b.m Ah (Ad (pv 0) Aa))) (Fw (by decide) (by decide)) (by decide) rfl (by decide) rfl (G3 rfl)) Aa)))),?_⟩
 exact ⟨rfl,nJ hv big a λ p j d e=>⟨_,p,qs.map Ay,rfl,rfl,e,cB big a,q _ d⟩⟩
theorem AR1 (T:Txt K mg ad):CalB P w K mg base true 12 "walk_answer" ["bench","numbers"] (Jc K mR):=by
 refine T.Xj.calN mX (λ _ _ _ _ _ _=>Bm λ _ _=>rfl) (λ vs H Q E h=>?_) (λ f Z A outer s H vs Q E x h=>?_)
 ·obtain ⟨_,_,_,_,_,rfl,_⟩:=h;rfl
 obtain ⟨v,u0,ps,qs,t,rfl,S,R,U,⟨y,u,rfl,V,W,rfl⟩,k⟩:=h;obtain ⟨a,xs,rfl,B,C⟩:=DV.lst_of U;obtain ⟨e,g,rfl,D,F⟩:=C.two;have rb:=Zk V W;have a0:=YP (50+1) R.1;refine ⟨_,(Ag (Ax (i:=2) mX.nd (Ai (wN T) x.m Ah (Ad (pv 0) (Ez (Bp (Ao (Ae Az (pv 1) Ac) (Ao (Ae Az (pv 1) Ac) Aa))) Aa)))) (Ag (BP (BW AZ3 (Ae Al (pv 2) Ac) Fl) (Ak (Av (Aw Cm Ba (HQ aZ rfl T.str Hi (Ao (Ae Al (pv 2) Ac) Aa))))) BR) (Ak (Av (Aw Cm Ba (Ai (Nu T) x.m Ah (Ao (Ae Az (Ae Al (pv 2) Ac) (gA mQ Ac)) Aa))))))),?_⟩
 refine ⟨_,rfl,_,rfl,a,_,_,e,rfl,rfl,B,rfl,_,rfl,a,_,_,g,rfl,rfl,B,rfl,(by show 2<=Y3;decide),λ p G=>?_⟩
 have j:=Am G (.tup [e,g]);have I:DV K (upd H p (.tup [e,g])) (.ref p) (BX (y,u)):=DV.upd2 G D F;generalize upd H p (.tup [e,g])=a1 at j I ⊢;refine ⟨v,.ref p,ps,(y,u),100,50,rfl,S.keep j,R.good,I,rb,by omega,λ t l a2 at_ a3 J o hl q L b=>?_⟩
 refine ⟨_,rfl,t,_,_,_,rfl,rfl,SqT.of q,rfl,rfl,_,rfl,?_⟩;rw [AV8 b];unfold Hy at k;cases r:(walk ps (y,u)).2 with
 | none=>
  rw [r] at k;refine BL rfl ?_;obtain ⟨z,X,M⟩:=DVs.last L (d:=BX (G7 ps (y,u))) (by rw [List.getLast?_map,qX];rfl)
  have N:=Tj R rb;have O:=all2 N.1 N.2;refine ⟨_,rfl,t,_,_,_,rfl,rfl,SqT.of q,rfl,_,rfl,l,_,_,_,rfl,rfl,SqL.of hl,aU X,z,[(G7 ps (y,u)).1,(G7 ps (y,u)).2],rfl,.inr M,O,(by show 2<=60;decide),λ a4 Y=>?_⟩
  have a5:=Gm O (by show 2<=5;decide)
  exact ⟨_,_,rfl,rfl,CW (by rw [show (Z3 "by ").length=3 by decide+kernel];omega),k _ (j.trans (J.trans Y))⟩
 | some n=>
  rw [r] at k b;refine Bj rfl ?_;obtain rfl:=DV.int_of b;have o:((n:Int)).natAbs.log2 < 1920:=Sq (by
   have D:=(bV r).1;have F:=R.1;rw [YV];exact Y7 (show n < 2 ^ 3 by omega) (zi (by decide) (by decide)))
  refine ⟨_,rfl,t,_,_,_,rfl,rfl,SqT.of q,rfl,_,rfl,o,?_⟩;have a6:=Ss o;exact ⟨_,_,rfl,rfl,CW (by rw [show (Z3 "stopped ").length=8 by decide+kernel];omega),k _ (j.trans J)⟩
theorem Ab9 (T:Txt K mg ad):CalB P w K mg base true 12 "image_answer" ["bench","numbers"] (Jc K jX):=by
 refine T.Vl.calN Wj (λ _ _ _ _ _ _=>Bm λ _ _=>rfl) (λ vs H Q E h=>?_) (λ f X A outer s H vs Q E g h=>?_)
 ·obtain ⟨_,_,_,_,_,rfl,_⟩:=h;rfl
 obtain ⟨v,u0,ps,qs,t,rfl,G,_,I,⟨F,y,rfl,d,rfl⟩,k⟩:=h;obtain ⟨a,xs,rfl,q,r⟩:=DV.lst_of I;obtain ⟨u,Y,rfl,x,z⟩:=r.cons_of;obtain rfl:=z.nil_of;have Z:=YP (18+1) F.1;have tb:=F.tb;refine ⟨_,(Ag (Ax (i:=2) Wj.nd (Ai (U8 T) g.m Ah (Ad (pv 0) Aa))) (Ag (Ax (i:=3) Wj.nd (Ai (nu T) g.m Ah (Ad (pv 2) (Ao (Ae Az (pv 1) Ac) Aa)))) (Ak (Av (G8 (BW Mx (pv 3) Fl) (Bl (v:=.str "none") rfl T.ex.m_NONE ⟨_,rfl⟩) (Ai (Nu T) g.m Ah (Hn (CN (Ad (pv 3) (Bc (Ai (rY T) g.m Ah (Ad (pv 2) (Ao (Ae Az (pv 1) Ac) Aa))) Aa))) Aa))))))),?_⟩
 refine ⟨_,rfl,_,_,.cons G .nil,⟨ps,18,rfl,F.good,by omega,rfl⟩,λ a0 a1 n j=>?_⟩
 refine ⟨_,rfl,_,rfl,a,_,_,u,rfl,rfl,q.keep n,rfl,_,_,.cons j (.cons (x.keep n) .nil),⟨tabOf ps,y,154,rfl,tb,Pu ps,d.mono (by decide),by decide,rfl⟩,λ J L B b=>?_⟩
 have t2:=n.trans B;unfold Jv at k;cases e:img (tabOf ps) y with
 | none=>
  rw [e] at b k;obtain rfl:=DV.non_of b;exact ⟨_,rfl,rfl,_,rfl,Bj (by decide) (k _ t2)⟩
 | some p=>
  rw [e] at b k;obtain ⟨M,N⟩:=aY F d e;have O:RD (tabOf ps) y=some (1 / (spread (tabOf ps) y).2):=by
   unfold img at e;unfold RD
   split at e
   ·cases e
   ·rename_i R;rw [if_neg R]
  obtain ⟨S,a2,a3,rfl,_,_,_⟩:=DV.t2 (show DV K L J (.tuple [.int p.num,.int (p.den:Int)]) from b)
  refine ⟨_,rfl,rfl,_,rfl,BL (by simp) ?_⟩
  refine ⟨_,rfl,_,rfl,_,rfl,a,_,_,u,rfl,rfl,q.keep t2,rfl,_,_,.cons (j.keep B) (.cons (x.keep t2) .nil),⟨tabOf ps,y,154,rfl,tb,Pu ps,d.mono (by decide),by decide,rfl⟩,λ U a4 C l=>?_⟩
  rw [O] at l;refine ⟨(by show 2<=Y3;decide),λ V D=>?_⟩
  have o:=Am D (.lst [.ref S,U]);exact ⟨.ref V,[p,1 / (spread (tabOf ps) y).2],rfl,.inl (.lst (SqL.of Ar) (.cons (b.keep (C.trans o)) (.cons (l.keep o) .nil))),all2 M N,(by show 2<=60;decide),λ a5 W=>k _ (t2.trans (C.trans (o.trans W)))⟩
theorem Ac6 (T:Txt K mg ad):CalB P w K mg base true 12 "field_answer" ["bench","numbers"] (Jc K bD):=by
 refine T.WL.calN qG (λ _ _ _ _ _ _=>Bm λ _ _=>rfl) (λ vs H Q E h=>?_) (λ f a7 A outer s H vs Q E e h=>?_)
 ·obtain ⟨_,_,_,_,_,rfl,_⟩:=h;rfl
 obtain ⟨v,u0,ps,qs,t,rfl,W,_,X,⟨D,x,rfl,G,I,rfl⟩,k⟩:=h;obtain ⟨a,xs,rfl,Y,J⟩:=DV.lst_of X;have a8:=YP (18+1) D.1;have L:=D.field G I;have Z:=pZ L;have u:=oN D G I;refine ⟨_,(Ag (Ax (i:=2) qG.nd (Ai (sW T) e.m Ah (Ad (pv 0) (Bc (HQ xT rfl T.tuple Mq (Ad (pv 1) Aa)) Aa)))) (Ak (Av (G8 (BW (Gh e.units) (pv 2) (CN Aa)) (Bl (v:=.str "none") rfl T.ex.m_NONE ⟨_,rfl⟩) (Ce YD QU QV Kw Ba (DW (Fz ["corner"] [none] rfl (Dc (pv 2)) (λ _ _ _ _ _=>(Bq (i:=0) (show UB [("corner":Str)] by decide))) (λ _ _ _ _ _=>Fd) (λ _ _ _ _ _=>(Ai (Nu T) e.m Ah (Ad (pv 0) Aa))) (Fw (by decide) (by decide)) (by decide) rfl (by decide) rfl (G3 rfl)) Aa)))))),?_⟩
 refine ⟨_,rfl,_,rfl,a,_,rfl,.inl ⟨Y,λ p a0=>?_⟩⟩
 have g:=Am a0 (.tup xs);have M:DV K (upd H p (.tup xs)) (.ref p) (Jp x):=.tup (SqT.of Ar) (J.keep g);generalize upd H p (.tup xs)=a9 at g M ⊢;refine ⟨v,.ref p,ps,x,18,80,17,rfl,W.keep g,M,D.good,by omega,L,by decide,λ l N z a1 b0 hl b=>?_⟩
 have hd:DV K z (.ref l) (JT (Ds (Bg ps) x)):=.lst (SqL.of hl) b;generalize Ds (Bg ps) x=cs at Z u b hd k;have a2:N.length=cs.length:=by have:=b.len;rw [Y2] at this;exact this
 have t2:=g.trans a1;refine ⟨_,rfl,(by show 0<=Y3;decide),λ B O=>?_⟩
 have j:=Am O (.lst ([]:List V));have R:DV K (upd z B (.lst ([]:List V))) (.ref B) (.list []):=.lst (SqL.of Ar) .nil;have hl:=j _ _ hl;have b:=b.keep j;have t3:=t2.trans j;have hd:=hd.keep j;generalize upd z B (.lst ([]:List V))=a3 at R hl b t3 hd ⊢;refine gk hd R (Xi (bQ Ul cs)) ⟨_,rfl,?_⟩;unfold Gr at k;by_cases C:cs=[]
 ·subst C;exact Bj rfl (k _ t3)
 ·rw [if_neg C] at k;refine BL (by cases cs with | nil=>exact absurd rfl C | cons _ _=>rfl) ?_
  refine ⟨rfl,_,rfl,l,rfl,⟨_,SqL.of hl⟩,?_⟩;refine Io (K:=K) (a:=l) (xs:=N) (λ i n o q=>∃c0,n=[c0]/\o=((cs.take i).map λ r=>Bw [r.1,r.2]).map V.str/\Same a3 q) ⟨_,rfl,rfl,Same.refl _⟩ ?_ ?_ ?_
  ·rintro i n o q hi ⟨c0,rfl,rfl,s'⟩
   refine ⟨?_,SqL.of (s' _ _ hl)⟩;rw [Y2,Y2,YR];exact XT (small1000 (by have:=D.1;omega))
  ·rintro i y n o q hi ⟨c0,rfl,rfl,s'⟩
   obtain ⟨d,hd,a4⟩:=b.get hi;rw [ZN] at hd;obtain ⟨r,e,rfl⟩:=QE.mp hd;have S:=u r (ZB e);refine ⟨_,rfl,y,[r.1,r.2],rfl,.inr (a4.keep s'),all2 S.1 S.2,(by show 2<=60;decide),λ b1 a5=>nx (CT hi) ⟨_,rfl,?_,s'.trans a5⟩⟩
   rw [Xe,e,U4,U4];rfl
  ·rintro n o q a6 ⟨c0,rfl,rfl,s'⟩ U
   rw [a2,YU];exact ⟨_,a6,_,rfl,rfl,Ar,vZ u (by have:=D.1;omega),k _ (t3.trans (s'.trans (Am U _)))⟩
theorem uX (T:Txt K mg ad):CalB P w K mg base true 12 "sharp_answer" ["bench","numbers"] (Jc K mJ):=by
 refine T.Uq.calN PN (λ _ _ _ _ _ _=>Bm λ _ _=>rfl) (λ vs H Q E h=>?_) (λ f c2 A outer s H vs Q E F h=>?_)
 ·obtain ⟨_,_,_,_,_,rfl,_⟩:=h;rfl
 obtain ⟨v,u0,ps,qs,t,rfl,M,_,a3,⟨L,x,m,rfl,q,a4,N,rfl⟩,k⟩:=h;obtain ⟨a,xs,rfl,u,O⟩:=DV.lst_of a3;obtain ⟨C,c3,rfl,a5,R⟩:=O.cons_of;obtain ⟨D,a6,a7,a8,rfl,a9,b0,b1,b2⟩:=R.four;have c4:=YP (18+1) L.1;refine ⟨_,(Ag (Ax (i:=2) PN.nd (Bp (Ao (Ae Az (pv 1) Ac) (Ao (Ae Az (pv 1) Ac) Aa)))) (Ag (Ax (i:=3) PN.nd (Ai (AK5 T) F.m Ah (Ad (pv 0) (Ad (pv 2) (Ao (Ae Az (pv 1) Ac) (Ao (Ae Az (pv 1) Ac) Aa)))))) (Ag (BP (BW Mx (pv 3) Fl) (Ak (Av Ba)) BR) (Ag (Ax (i:=4) PN.nd (Ai (zM T) F.m Ah (Ad (pv 0) (Ad (pv 2) (Ad (pv 3) (Ao (Ae Az (pv 1) Ac) Aa)))))) (Ak (Av (G8 (BW Hq (Br DX rfl T.len DG (Ad (pv 4) Aa)) Ac) (Ai (Nu T) F.m Ah (Ao (Em WN (pv 4) (Dy Ac) Fj) Aa)) (Ae Al (pv 4) Ac)))))))),?_⟩
 refine ⟨_,rfl,a,_,_,C,rfl,rfl,u,rfl,_,rfl,a,_,_,D,rfl,rfl,u,rfl,(by show 2<=Y3;decide),λ p S=>?_⟩
 have n:=Am S (.tup [C,D]);have G:DV K (upd H p (.tup [C,D])) (.ref p) (pairD x.h x.s):=DV.upd2 S a5 a9;generalize upd H p (.tup [C,D])=c5 at n G ⊢;refine ⟨_,rfl,_,rfl,_,rfl,a,_,_,a6,rfl,rfl,u.keep n,rfl,_,rfl,a,_,_,a7,rfl,rfl,u.keep n,rfl,_,_,.cons (M.keep n) (.cons G (.cons (b0.keep n) (.cons (b1.keep n) .nil))),⟨ps,x.h,x.s,x.f,x.l,18,12,1000,rfl,L.good,q.h,q.s,q.f.mono (by decide),q.l.mono (by decide),q.o,by omega,by decide,rfl⟩,λ b3 b4 U j=>?_⟩
 have t2:=n.trans U;unfold El at k;cases e:Ei (Bg ps) x.h x.s x.f x.l with
 | none=>
  rw [e] at j k;obtain rfl:=DV.non_of j;exact ⟨_,rfl,rfl,_,rfl,Bj (by decide) (k _ t2)⟩
 | some b5=>
  obtain ⟨r,g'⟩:=b5;have V:=L.lpv q e;rw [e] at j k;obtain ⟨c6,c7,c8,rfl,_,_,_⟩:=DV.t2 (show DV K b4 b3 (.tuple [Aj r,Aj g']) from j)
  refine ⟨_,rfl,rfl,_,rfl,BL (by simp) ?_⟩
  refine ⟨_,rfl,_,rfl,_,rfl,_,rfl,a,_,_,a8,rfl,rfl,u.keep t2,rfl,_,_,.cons (M.keep t2) (.cons (G.keep U) (.cons j (.cons (b2.keep t2) .nil))),⟨ps,⟨x.h,x.s,r,g'⟩,m,rfl,L.good,Zo L.1 (by decide),V,a4,N.mono (by decide),rfl⟩,λ W X b6 d=>?_⟩
  have t3:=t2.trans b6;have k:∀B,Same H B->Q (.str (GC (tabOf ps) ⟨x.h,x.s,r,g'⟩ m)) B:=k;unfold Zz at d;unfold GC at k;by_cases I:growing (tabOf ps) ⟨x.h,x.s,r,g'⟩=0
  ·rw [if_pos I] at d k;have one:∀z:Y1,DV K X W (.tuple [.str z])->(∀B,Same H B->Q (.str z) B)->∃b,W=.ref b/\SqT K X b [.str z]:=λ z b7 _=>by
    obtain ⟨b,y,rfl,g,Y⟩:=t1 b7;obtain rfl:=DV.str_of Y;exact ⟨b,rfl,g⟩
   split at d
   ·rename_i c1
    rw [if_pos c1] at k;obtain ⟨b,rfl,g⟩:=one _ d k;exact ⟨_,rfl,b,_,rfl,.inr g,_,_,rfl,rfl,_,rfl,BL rfl ⟨_,rfl,b,_,_,_,rfl,rfl,g,rfl,k _ t3⟩⟩
   ·rename_i c1
    rw [if_neg c1] at k;obtain ⟨b,rfl,g⟩:=one _ d k;exact ⟨_,rfl,b,_,rfl,.inr g,_,_,rfl,rfl,_,rfl,BL rfl ⟨_,rfl,b,_,_,_,rfl,rfl,g,rfl,k _ t3⟩⟩
  ·rw [if_neg I] at d k;obtain ⟨b,b8,Z,a0,rfl,g,c9,e1,e2⟩:=DV.t3 d;have a1:=uV L.tb V N I;refine ⟨_,rfl,b,_,rfl,.inr g,_,_,rfl,rfl,_,rfl,Bj rfl ?_⟩;refine ⟨_,rfl,_,rfl,b,_,rfl,g,(λ e=>by rw [Q9] at e;simp only [X9] at e;omega),λ b9 a2=>?_⟩
   rw [Ua];have J:=Am a2 (.tup ([b8,Z,a0].drop 1));exact ⟨.ref b9,[mid (tabOf ps) x.s - reach (tabOf ps) ⟨x.h,x.s,r,g'⟩ m,mid (tabOf ps) x.s+reach (tabOf ps) ⟨x.h,x.s,r,g'⟩ m],rfl,.inr (.tup (SqT.of Ar) (.cons (e1.keep J) (.cons (e2.keep J) .nil))),all2 a1.1 a1.2,(by show 2<=60;decide),λ d0 c0=>k _ (t3.trans (J.trans c0))⟩
theorem z9 (T:Txt K mg ad):CalB P w K mg base true 1 "_law_called" ["_law_number","_law_k"] kO:=by
 refine T.Vy.calN Xp (λ _ _ _ _ _ _=>Bm λ _ _=>rfl) (λ vs H Q E h=>?_) (λ f k A outer s H vs Q E l h=>?_)
 ·obtain ⟨_,_,rfl,_⟩:=h;rfl
 obtain ⟨z,i,rfl,z0,n,o,p,q⟩:=h;refine ⟨_,(Ag (Ax (i:=2) Xp.nd (lF Ba (Aw Eb (Aw Cp (Aw Jr (pv 0) Ac) (Aw Fp Ac (pv 1))) Ac) (λ _ _=>rfl))) (Ag (BP (BW By (Aw Eb (pv 0) Ac) Ac) (Ak (Av (Aw eG Ba (Aw Cp Ac (pv 1))))) BR) (Ag (Ax (i:=3) Xp.nd (Aw Eb (Aw Jr (pv 0) Ac) Ac)) (Ak (Av (Aw Cm (Aw Cm (Em Ju Ba Fj (Dy (pv 3))) (pv 2)) (Em Ju Ba (Dy (pv 3)) (Dy (Aw Cp (pv 3) (Aw Eb (pv 0) Ac)))))))))),?_⟩
 have hl:=yj ⟨((z / 24+5 * i) % 26).toNat,by omega⟩
 have d:=vd ⟨(z / 3 % 5).toNat,by omega⟩ ⟨(z % 4).toNat,by omega⟩
 have e2:(((z / 3 % 5).toNat:Nat):Int)=z / 3 % 5:=by omega
 have g:(((z % 4).toNat:Nat):Int)=z % 4:=by omega
 simp only [e2,g] at d;refine ⟨_,rfl,_,_,rfl,rfl,⟨(by show (0:Int) < 24;decide),(by show (24:Int) < 1073741824;decide)⟩,_,rfl,_,_,rfl,rfl,.inl ⟨by decide,by omega⟩,_,_,rfl,rfl,_,_,rfl,rfl,(by show (0:Int) < 26;decide),?_⟩
 refine ⟨_,_,_,rfl,rfl,by omega,by omega,?_,hl,?_⟩
 ·show (z / 24+5 * i) % 26 < ((Z3 "abcdefghijklmnopqrstuvwxyz").length:Int);rw [show (Z3 "abcdefghijklmnopqrstuvwxyz").length=26 by decide+kernel]
  omega
 refine ⟨_,rfl,_,_,rfl,rfl,(by show (0:Int) < 3;decide),rfl,_,rfl,?_⟩
 by_cases a:z % 3=0
 ·refine Bj (by rw [Fq];exact decide_eq_true a) ⟨_,rfl,_,_,rfl,rfl,_,_,rfl,rfl,?_,?_⟩
  ·have j:i=0\/i=1\/i=2\/i=3:=by omega
   rcases j with rfl | rfl | rfl | rfl
   ·exact ⟨by decide,λ _ h=>absurd h (by decide),λ _ h=>absurd h (by decide)⟩
   ·exact ⟨by decide,λ _ _=>by decide,λ _ _=>by decide⟩
   ·exact ⟨by decide,λ _ _=>by decide,λ _ _=>by decide⟩
   ·exact ⟨by decide,λ _ _=>by decide,λ _ _=>by decide⟩
  ·have e:called z i=NR (Z3 "m") (1+i):=if_pos a;rw [<- e];exact q
 ·refine BL (by rw [Fq];exact decide_eq_false a) ?_
  have e:called z i=IV ((z / 24+5 * i) % 26) (z / 3 % 5) (z % 4):=if_neg a;rw [e] at q;have b:(Z3 "lens").length<=Y3:=by decide+kernel
  refine ⟨_,rfl,_,_,rfl,rfl,⟨(by show (0:Int) < 3;decide),(by show (3:Int) < 1073741824;decide)⟩,_,_,rfl,rfl,(by show (0:Int) < 5;decide),?_⟩
  refine ⟨_,rfl,_,rfl,_,rfl,b,_,rfl,_,_,rfl,rfl,?_,?_⟩
  ·exact Zo (show _+1<=5 by omega) (by decide)
  refine ⟨_,rfl,_,rfl,_,rfl,_,rfl,_,_,rfl,rfl,(by show (0:Int) < 4;decide),_,_,rfl,rfl,_,rfl,_,rfl,b,_,_,rfl,rfl,?_,q⟩
  refine Zo (m:=9) ?_ (by decide)
  rw [<- Lib.Jx,Bv,X1,Lib.Jx,Lib.Jx];show _+1+_<=9;omega
theorem AG9 (T:Txt K mg ad):CalB P w K mg base true 6 "_law_benches" ["_law_drawn_here","_law_many","_law_least"] (kJ K):=by
 refine T.Ry.calN Hw (λ _ _ _ _ _ _=>JM λ _ _ _=>rfl) (λ vs H Q E h=>?_) (λ f j5 A outer s H vs Q E b8 h=>?_)
 ·obtain ⟨_,_,_,_,rfl,_⟩:=h;rfl
 obtain ⟨d,c,e9,d3,rfl,j9,hd,q⟩:=h;refine ⟨_,(Ag (Ax (i:=3) Hw.nd (CN Aa)) (Ag (Df YI rfl (K6 rfl T.range (Ad (pv 1) Aa)) (Bq (i:=4) Hw.nd) (Ag (Ax (i:=5) Hw.nd (CN Aa)) (Ag (Df YI rfl (K6 rfl T.range (CP (Aw Cp (pv 2) (Ai (Qq T) b8.m Ah (Ad (pv 0) (Bf Ac Aa)))) Aa)) (Bq (i:=6) Hw.nd) (Ag (Ax (i:=7) Hw.nd (Ai (AI1 T) b8.m Ah (Ad (pv 0) (Bf Cu Aa)))) (Ag (BP (PW.pt (pw_and (BW By (Ae Al (pv 7) Ac) Ba) (pw_and1 (BW Hq (Ai (Qq T) b8.m Ah (Ad (pv 0) (Bf Ac Aa))) Ac)))) (Ag (Ax (i:=8) Hw.nd (Ai (AH9 T) b8.m Ah (Ao (Ae Al (pv 7) Ac) (Ez (Bp (Bf Ac (Bf Ac Aa))) Aa)))) (Ak (Ax (i:=7) Hw.nd (Bp (Bf Ba (Ad (pv 8) (Bc (Ai (Xh T) b8.m Ah (Ao (Ae Al (pv 7) Ac) (Ez (Bp (Bf Ac (Bf Ac Aa))) Aa))) Aa))))))) BR) (Ak (DQ (Ce Xq Xt Xx Fy (pv 5) (Ad (pv 7) Aa))))))) (Ak (DQ (Ce Xq Xt Xx Fy (pv 3) (Ad (pv 5) Aa))))))) (Ak (Av (pv 3))))),?_⟩
 refine ⟨(by show 0<=Y3;decide),λ g J=>?_⟩
 have u0:=Am J (.lst ([]:List V));have a6:g≠d:=hd.nd J;have a7:g≠c:=hd.nc J;have d7:=hd.keep u0;have d8:upd H g (.lst ([]:List V)) g=some (.lst []):=Ar;have f7:SE d c H (upd H g (.lst ([]:List V))):=u0.se d c;generalize upd H g (.lst ([]:List V))=k0 at u0 d7 d8 f7 ⊢;refine ⟨_,rfl,(d3:Int),rfl,by omega,by omega,?_⟩
 rw [xa];refine Od (lo:=0) (n:=d3) (λ i Z x=>(∃f0 f1 a0 a1 a2,Z=[some (.ref d),some (.int (d3:Int)),some (.int 1),some (.ref g),f0,f1,a0,a1,a2])/\DrG x d c (e9+400 - i * 120)/\SE d c H x/\∃(bs:List Addr) (k:List (List Pc)),bs.length=i/\x g=some (.lst (bs.map V.ref))/\BnL K x bs k/\(∀b∈bs,H b=none/\b≠g)/\∀ps∈k,OkS ps) ⟨⟨_,_,_,_,_,rfl⟩,d7.le (by omega),f7,[],[],rfl,d8,⟨rfl,λ i b ps h=>nomatch h⟩,(λ b C=>nomatch C),λ ps a3=>nomatch a3⟩ ?_ ?_
 ·rintro i Z d4 hi ⟨⟨f0,f1,a0,a1,a2,rfl⟩,L,d5,bs,k,f2,a8,M,bn,b9⟩
  refine ⟨(by show 0<=Y3;decide),λ lb z=>?_⟩
  have c0:=Am z (.lst ([]:List V));have N:lb≠d:=L.nd z;have O:lb≠c:=L.nc z;have c1:lb≠g:=λ e=>by rw [e,a8] at z;cases z
  have f8:∀b∈bs,b≠lb:=λ b C e=>by
   obtain ⟨j,f9⟩:=ui C;have g0:j < k.length:=by rw [<- M.1];exact CT f9
   obtain ⟨xs,R,_⟩:=M.2 j b _ f9 (ZO g0);rw [e,z] at R;cases R
  have d9:H lb=none:=by
   cases e:H lb with
   | none=>rfl
   | some o=>have:=d5 lb o N O e;rw [z] at this;cases this
  have c2:=L.keep c0;have e0:upd d4 lb (.lst ([]:List V)) lb=some (.lst []):=Ar;have e1:=c0 _ _ a8;have g1:=d5.trans (c0.se d c);have e2:=M.keep c0;generalize upd d4 lb (.lst ([]:List V))=k1 at c0 c2 e0 e1 g1 e2 ⊢;refine ⟨_,rfl,_,rfl,d,c,e9+400 - i * 120 - 1,7,rfl,c2.le (by omega),by decide,λ m k2 k3 k4 g2 d6=>?_⟩
  refine ⟨_,_,rfl,rfl,_,rfl,by omega,by omega,?_⟩
  have a4:∀b∈bs,b≠d/\b≠c:=λ b C=>⟨hd.nd (bn b C).1,hd.nc (bn b C).1⟩
  refine Od (lo:=0) (n:=(1+m).toNat) (λ I Z x=>(∃a0 a1 a2,Z=[some (.ref d),some (.int (d3:Int)),some (.int 1),some (.ref g),some (.int (0+(i:Int))),some (.ref lb),a0,a1,a2])/\DrG x d c (e9+400 - i * 120 - 1 - I * 17)/\SE d c H x/\x g=some (.lst (bs.map V.ref))/\BnL K x bs k/\∃xs ps,x lb=some (.lst xs)/\DVs K x xs (List.map CV ps)/\ps.length=I/\∀p∈ps,Ef p/\p.fd 12 17) ⟨⟨_,_,_,rfl⟩,g2.le (by omega),g1.trans d6,d6 _ _ a6 a7 e1,e2.se c2 d6 a4,[],[],d6 _ _ N O e0,.nil,rfl,λ p a3=>nomatch a3⟩ ?_ ?_
  ·rintro I Z f3 j6 ⟨⟨a0,a1,a2,rfl⟩,S,f4,D,c3,xs,ps,c4,a9,e3,c5⟩
   have k5:I < 7:=by omega
   have k6:i < 3:=by omega
   refine ⟨_,rfl,d,c,e9+400 - i * 120 - 1 - I * 17 - 15,false,rfl,S.le (by omega),λ v g3 p G c6 hv e4 c7=>?_⟩
   have b0:∀(u:V) (a:Hp) (b5:Pc),DrG a d c (e9+400 - i * 120 - 1 - (I+1) * 17)->SE d c H a->a g=some (.lst (bs.map V.ref))->BnL K a bs k->a lb=some (.lst xs)->DV K a u (CV b5)->DVs K a xs (List.map CV ps)->(Ef b5/\b5.fd 12 17)->DrG (upd a lb (.lst (xs++[u]))) d c (e9+400 - i * 120 - 1 - (I+1) * 17)/\SE d c H (upd a lb (.lst (xs++[u])))/\upd a lb (.lst (xs++[u])) g=some (.lst (bs.map V.ref))/\BnL K (upd a lb (.lst (xs++[u]))) bs k/\∃e5 c8,upd a lb (.lst (xs++[u])) lb=some (.lst e5)/\DVs K (upd a lb (.lst (xs++[u]))) e5 (List.map CV c8)/\c8.length=I+1/\∀p∈c8,Ef p/\p.fd 12 17:=by
    intro u a b5 b1 U b2 b3 l i4 b4 g4;have W:SD lb a (upd a lb (.lst (xs++[u]))):=Qp;have st:Gd a (upd a lb (.lst (xs++[u]))):=W.t l;refine ⟨b1.keepD W N.symm O.symm,λ b o n m e=>by rw [BK (Bt e d9)];exact U b o n m e,by rw [BK c1.symm];exact b2,b3.sd l W f8,_,ps++[b5],Ar,?_,by rw [X1,e3];rfl,λ p a3=>?_⟩
    ·rw [U4];exact DVs.append (Cv st (DY KD ps) b4) (.cons (Fg st (KD b5) i4) .nil)
    ·rcases YE.mp a3 with h | h
     ·exact c5 p h
     ·rw [W1.mp h];exact g4
   have b6:xs.length < Y3:=small1000 (by have:=a9.len;rw [Y2] at this;omega)
   have c9:=f4.trans c6;have d0:=c6 _ _ a6 a7 D;have B:=c6 _ _ N O c4;have d1:=Cv (S.t c6) (DY KD ps) a9;have X:=c3.se S c6 a4;have a5:Ef _/\_:=⟨jx e4 c7 (by decide),wD c7⟩
   cases p with
   | gap k7=>
    obtain ⟨tt,g5,rfl,d2,Y⟩:=DV.tup_of hv;obtain ⟨g6,g7,rfl,R,g8⟩:=Y.two;obtain rfl:=DV.str_of R;refine ⟨_,rfl,tt,_,_,_,rfl,rfl,d2,Dv,rfl,_,rfl,BL (by rw [DK];exact decide_eq_false (by decide+kernel)) (iteF ?_)⟩
    exact ⟨_,rfl,.inl ⟨rfl,_,SqL.of B⟩,_,rfl,lb,_,_,rfl,rfl,B,b6,⟨_,_,_,rfl⟩,b0 _ g3 _ (G.le (by omega)) c9 d0 X B hv d1 a5⟩
   | glass k7=>
    obtain ⟨tt,g5,rfl,d2,Y⟩:=DV.tup_of hv;obtain ⟨g6,g7,rfl,R,g8⟩:=Y.two;obtain rfl:=DV.str_of R;refine ⟨_,rfl,tt,_,_,_,rfl,rfl,d2,Dv,rfl,_,rfl,BL (by rw [DK];exact decide_eq_false (by decide+kernel)) (iteF ?_)⟩
    exact ⟨_,rfl,.inl ⟨rfl,_,SqL.of B⟩,_,rfl,lb,_,_,rfl,rfl,B,b6,⟨_,_,_,rfl⟩,b0 _ g3 _ (G.le (by omega)) c9 d0 X B hv d1 a5⟩
   | stop lo hi=>
    obtain ⟨tt,g5,rfl,d2,Y⟩:=DV.tup_of hv;obtain ⟨g6,g7,k8,rfl,R,g8,k9⟩:=Y.three;obtain rfl:=DV.str_of R;refine ⟨_,rfl,tt,_,_,_,rfl,rfl,d2,Dv,rfl,_,rfl,Bj (by rw [DK];exact decide_eq_true rfl) ?_⟩
    refine ⟨_,rfl,d,c,e9+400 - i * 120 - 1 - I * 17 - 16,3,rfl,G.le (by omega),by decide,λ y a l0 l1 b1 U=>?_⟩
    have e6:=c9.trans U;have b2:=U _ _ a6 a7 d0;have l:=U _ _ N O B;have b4:=Cv (G.t U) (DY KD ps) d1;have b3:=X.se G U a4;have e7:=G.dv U hv;refine ⟨_,_,rfl,rfl,_,rfl,ite2 (λ i5=>?_) (λ i5=>?_)⟩
    ·obtain ⟨t',j7,e,e8,f5⟩:=DV.tup_of e7;cases e
     obtain ⟨l2,l3,l4,rfl,l5,i6,i7⟩:=f5.three;have b:Bd 12 lo/\Bd 12 hi:=c7;have g9:Aj 9=.tuple [.int 9,.int 1]:=rfl;have b7:Bd 4 (9:Rat):=⟨by decide,by decide⟩
     refine ⟨_,rfl,tt,_,_,_,rfl,rfl,e8,rfl,(by show 2<=Y3;decide),λ h0 h1=>?_⟩
     have h2:=Am h1 (.tup [.int 9,.int 1]);have i8:DV K (upd a h0 (.tup [.int 9,.int 1])) (.ref h0) (Aj 9):=by rw [g9];exact .tup (SqT.of Ar) (.cons (.int 9) (.cons (.int 1) .nil))
     refine ⟨_,_,.cons (i6.keep h2) (.cons i8 .nil),⟨lo,9,rfl,b.1.sm (by decide),b7.sm (by decide),rfl⟩,λ h3 i9 j0 j1=>?_⟩
     have h4:=h2.trans j0;refine ⟨_,rfl,_,rfl,tt,_,_,_,rfl,rfl,e8.keep h4,rfl,(by show 2<=Y3;decide),λ h5 h6=>?_⟩
     have h7:=Am h6 (.tup [.int 9,.int 1]);have h8:=h4.trans h7;have j2:DV K (upd i9 h5 (.tup [.int 9,.int 1])) (.ref h5) (Aj 9):=by rw [g9];exact .tup (SqT.of Ar) (.cons (.int 9) (.cons (.int 1) .nil))
     refine ⟨_,_,.cons (i7.keep h8) (.cons j2 .nil),⟨hi,9,rfl,b.2.sm (by decide),b7.sm (by decide),rfl⟩,λ h9 j3 i0 j4=>?_⟩
     refine ⟨(by show 3<=Y3;decide),λ r i1=>?_⟩
     have f6:=Am i1 (.tup [.str (Z3 "stop"),h3,h9]);have u:=(h8.trans i0).trans f6;have i2:DV K (upd j3 r (.tup [.str (Z3 "stop"),h3,h9])) (.ref r) (CV (.stop (lo - 9) (hi+9))):=.tup (SqT.of Ar) (.cons (.str _) (.cons (j1.keep ((h7.trans i0).trans f6)) (.cons (j4.keep f6) .nil)));have j8:¬ hi < lo:=e4;have i3:(Pc.stop (lo - 9) (hi+9)).ok:=show ¬ hi+9 < lo - 9 by grind
     exact ⟨_,rfl,.inl ⟨rfl,_,SqL.of (u _ _ l)⟩,_,rfl,lb,_,_,rfl,rfl,u _ _ l,b6,⟨_,_,_,rfl⟩,b0 _ _ _ ((b1.keep u).le (by omega)) (e6.trans (u.se d c)) (u _ _ b2) (b3.keep u) (u _ _ l) i2 (b4.keep u) ⟨jx i3 ⟨b.1.sub b7,b.2.add b7⟩ (by decide),(b.1.sub b7).mono (by decide),(b.2.add b7).mono (by decide)⟩⟩
    ·exact ⟨_,rfl,.inl ⟨rfl,_,SqL.of l⟩,_,rfl,lb,_,_,rfl,rfl,l,b6,⟨_,_,_,rfl⟩,b0 _ a _ (b1.le (by omega)) e6 b2 b3 l e7 b4 a5⟩
  ·rintro Z f3 ⟨⟨a0,a1,a2,rfl⟩,S,f4,D,c3,xs,ps,c4,a9,e3,c5⟩
   have W:SD g f3 (upd f3 g (.lst (bs.map V.ref++[.ref lb]))):=Qp;have X:=(c3.sd D W λ b C=>(bn b C).2).snoc (Ls (BnA.of c4 a9) (W.t D) λ o e=>W _ _ c1 e)
   have b6:(bs.map V.ref).length < Y3:=small1000 (by rw [Y2];omega)
   refine ⟨_,rfl,.inl ⟨rfl,_,SqL.of D⟩,_,rfl,g,_,_,rfl,rfl,D,b6,⟨_,_,_,_,_,rfl⟩,(S.keepD W a6.symm a7.symm).le (by omega),(λ b o n m e=>by rw [BK (Bt e J)];exact f4 b o n m e),bs++[lb],k++[ps],by rw [X1,f2];rfl,by rw [Ar,U4];rfl,X,λ b C=>?_,λ p a3=>?_⟩
   ·rcases YE.mp C with h | h
    ·exact bn b h
    ·rw [W1.mp h];exact ⟨d9,c1⟩
   ·rcases YE.mp a3 with h | h
    ·exact b9 p h
    ·rw [W1.mp h];exact ⟨by omega,c5⟩
 ·rintro Z d4 ⟨⟨f0,f1,a0,a1,a2,rfl⟩,L,d5,bs,k,f2,a8,M,bn,b9⟩
  exact ⟨_,rfl,q g bs k d4 (L.le (by omega)) d5 J bn a8 f2 M b9⟩
theorem AZ8 (T:Txt K mg ad)(c8:w.params=ad.pr):CalB P w K mg base true 18 "_law_laid" ["_law_drawn_here","_law_number","_law_least"] (pI K ad.Desk):=by
 refine T.W8.calN Lh (λ _ _ _ _ _ _=>JM λ _ _ _=>rfl) (λ vs H Q E h=>?_) (λ f d5 A outer s H vs Q E I h=>?_)
 ·obtain ⟨_,_,_,_,rfl,_⟩:=h;rfl
 obtain ⟨q,c,c7,z,rfl,a2,z0,a7,k⟩:=h;have d6:(Z3 "bench ").length=6:=by decide+kernel
 have e0:(Z3 " ").length=1:=by decide+kernel
 refine ⟨_,(Ag (Wq (i:=3) Lh.nd rfl (by walk_at "o") ["_law_k","_law_number"] [none,some 1] rfl (K6 rfl T.range (Bf Ac Aa)) (λ _ _ _ _ _ _=>(Bq (i:=0) (show UB [("_law_k":Str),("_law_number":Str)] by decide))) (λ _ _ _ _ _ _=>Fd) (λ _ _ _ _ _ _=>(Ai (z9 T) I.m Ah (Ad (pv 1) (Ad (pv 0) Aa)))) (Pg (hcell:=by decide) (hf:=(show ∀y:Str×UM,y∈_->y.2=zt->(defScope Nk).names.lookup y.1=some GQ by decide))) (by decide) rfl (by decide) rfl (λ i j h=>by
   rcases i with _ | _ | i
   ·simp at h
   ·simp at h;subst h;exact ⟨_,rfl,rfl,rfl,rfl⟩
   ·simp at h)) (Ag (Ax (i:=4) Lh.nd (Ai (AG9 T) I.m Ah (Ad (pv 0) (CP (Aw Cp Ac (Ai (Qq T) I.m Ah (Ad (pv 0) (Bf Ac Aa)))) (Ad (pv 2) Aa))))) (Ag (Ax (i:=5) Lh.nd (AX7 (AP2 T) I.m)) (Ag (Df YI rfl (K6 rfl T.range (Bc (Br DX rfl T.len DG (Ad (pv 4) Aa)) Aa)) (Bq (i:=6) Lh.nd) (Ak (BP (BW Ey (Cd (k:=16) (pv 5) I.m (CP (Aw Cm (Aw Cm (Aw Cm Ba (Ae Az (pv 3) (pv 6))) Ba) (Ai (au T) I.m Ah (Ao (Ae Az (pv 4) (pv 6)) Aa))) Aa)) Ba) (Ak (Av (CN (Bf Fl (Ad (pv 3) (Ad (pv 4) Aa)))))) BR))) (Ak (Av (CN (Ad (pv 5) (Ad (pv 3) (Ad (pv 4) Aa)))))))))),?_⟩
 refine ⟨4,rfl,by decide,by decide,?_⟩
 refine wY (lo:=0) (n:=(4:Int).toNat) (λ i t S l=>(∃c0,t=[c0,some (.int z)])/\S=((Wc i).map λ j:Nat=>V.str (called z (j:Nat)))/\l=H) ⟨⟨_,rfl⟩,rfl,rfl⟩ ?_ ?_ ?_
 ·rintro i t S l hi ⟨⟨c0,rfl⟩,rfl,rfl⟩
  rw [Y2,List.length_range];exact Zo hi (by decide)
 ·rintro i t S l hi ⟨⟨c0,rfl⟩,rfl,rfl⟩
  have d7:i < 4:=hi;refine ⟨_,rfl,_,rfl,_,_,rfl,z0,a7,by omega,by omega,nx hi ⟨⟨_,rfl⟩,?_,rfl⟩⟩
  rw [List.range_succ,U4,Int.zero_add];rfl
 rintro t S l g ⟨⟨c0,rfl⟩,rfl,rfl⟩ J
 have L:=Am J (.lst ((Wc (4:Int).toNat).map λ j:Nat=>V.str (called z (j:Nat))))
 have a3:(upd l g (.lst ((Wc (4:Int).toNat).map λ j:Nat=>V.str (called z (j:Nat))))) g=some (.lst ((Wc 4).map λ j:Nat=>V.str (called z (j:Nat)))):=Ar
 have X:g≠q:=a2.nd J;have M:g≠c:=a2.nc J;have N:=a2.keep L;generalize upd l g (.lst ((Wc (4:Int).toNat).map λ j:Nat=>V.str (called z (j:Nat))))=e3 at L a3 N ⊢
 refine ⟨_,rfl,_,rfl,q,c,c7+400,2,rfl,N,by decide,λ a8 c9 d8 d9 C a9=>?_⟩
 obtain ⟨m,d0,e4,b0⟩:∃m:Nat,2+a8=(m:Int)/\2<=m/\m<=3:=⟨(2+a8).toNat,by omega,by omega,by omega⟩
 refine ⟨_,_,rfl,rfl,_,rfl,?_⟩;dsimp only
 rw [d0];refine ⟨q,c,c7,m,rfl,b0,C,λ lb bs v d1 D b1 b2 bn Y bl b3 Z=>?_⟩
 have a0:∀b,c9 b=none->b≠q/\b≠c:=λ b x=>⟨C.nd x,C.nc x⟩
 have F:=a9.trans b1;have b4:=F _ _ X M a3;have a4:=a0 lb b2;refine λ o p no a1 ne=>⟨o,p,rfl,Ar,λ d hd=>⟨rfl,?_⟩⟩
 obtain ⟨B,O,G,b5⟩:=vK (K:=K) (q:=[q,c]) no a1 ne hd;generalize upd (upd (upd (upd d1 p (.own o)) o (.ins ad.Desk p [])) d (.dK [])) o (.ins ad.Desk p [("benches",.ref d)])=b6 at B O ⊢;have a:Ly74 K b6 ad.Desk o p d g lb q c c7 (λ _=>none) 0 z bs v:=⟨D.keep B,O,B _ _ b4,B _ _ Y,b3.keep B,λ j ps d2=>absurd d2 (by omega)⟩
 have b7:SE q c l b6:=(L.se q c).trans (F.trans (B.se q c));have b8:∀b∈bs,b≠q/\b≠c:=λ b x=>a0 b (bn b x).1
 have b9:l d=none:=by
  cases e:l d with
  | none=>rfl
  | some o=>
   have:=F _ _ (D.nd G) (D.nc G) (L _ _ e);rw [G] at this;cases this
 clear B O G b5 hd no a1 ne F D C N a9 b1 a3 b4 L b3 Y;refine ⟨_,rfl,lb,_,rfl,.inl (SqL.of a.hl),_,rfl,by omega,by rw [Y2];omega,?_⟩
 rw [xa,Y2,bl];refine Od (lo:=0) (n:=m) (λ i t U=>∃(a5:Option V) (c1:Di),t=[some (.ref q),some (.int z),some (.int 1),some (.ref g),some (.ref lb),some (.ref o),a5]/\Ly74 K U ad.Desk o p d g lb q c c7 c1 i z bs v/\SE q c l U) ⟨_,_,rfl,a,b7⟩ ?_ ?_
 ·rintro i t U hi ⟨a5,c1,rfl,a,sx⟩
  have x:i < bs.length:=by omega
  have d3:i < v.length:=by rw [<- a.bl.1];exact x
  have a6:=ZO x;have W:=ZO d3;generalize bs[i]=b at a6;generalize v[i]=ps at W;have c2:=a.bl.2 i b ps a6 W;have ok:=Z ps (ZB W);have nm:Nm (called z i):=Rz z (by omega) (by omega)
  have e5:=Lg (Zo ok.1 (by decide)) ok.w.sh
  have e1:((Wc 4).map λ k=>V.str (called z (k:Nat)))[i]?=some (.str (called z i)):=by
   rw [ZN,List.getElem?_range (by omega)]
   rfl
  have e2:(bs.map V.ref)[i]?=some (.ref b):=by rw [ZN,a6];rfl
  have a7:=nm.len;refine ⟨_,rfl,o,_,p,_,_,_,rfl,a.ds.o,rfl,lL T c8,?_⟩;rw [Int.zero_add];refine ⟨_,rfl,_,rfl,g,_,_,_,rfl,rfl,SqL.of a.nm,Bh e1,_,_,rfl,rfl,CW (by omega),_,_,rfl,rfl,CW (by rw [Ck];omega),?_⟩
  refine ⟨_,rfl,_,rfl,lb,_,_,_,rfl,rfl,SqL.of a.hl,Bh e2,.ref b,ps,rfl,c2.dv,Zo ok.1 (by decide),ok.w.pbig,λ e6 c3=>?_⟩
  refine ⟨_,_,rfl,rfl,(by rw [Ck,Ck];exact Zo (show _<=20100 by omega) (by decide)),?_⟩
  have R:=a.keep c3;refine ⟨o,p,d,[q,c],called z i,c1,i,ps,rfl,R.ds,R.there,by omega,nm,ok.w,λ e7 c4 c5=>?_⟩
  refine ⟨rfl,_,rfl,BL (by decide+kernel) ?_⟩
  exact ⟨_,_,rfl,R.next W (by omega) c4 c5,λ b o n d4 e=>c4 _ _ (Bt e b9) (c3 _ _ (sx b o n d4 e))⟩
 ·rintro t U ⟨a5,c1,rfl,a,sx⟩
  refine ⟨_,rfl,_,rfl,_,rfl,(by show 3<=Y3;decide),λ r c6=>?_⟩
  have u:=Am c6 (.lst [.ref o,.ref g,.ref lb]);have a:=a.keep u;exact k r o p d g lb c1 m bs v _ (sx.trans (u.se q c)) Ar b0 ⟨a.dr,a.ds,a.nm,a.hl,⟨⟨X,M⟩,a4⟩,a.bl,b8,by omega,Z,λ j ps e=>a.sx j ps (by have:=CT e;rw [<- a.bl.1] at this;omega) e⟩
theorem Vr (T:Txt K mg ad):CalB P w K mg base true 3 "_law_row" ["_law_parts"] (Z9 K):=by
 refine T.Uh.calN AQ4 (λ _ _ _ _ _ _=>by1 λ _=>rfl) (λ vs H Q E h=>?_) (λ f g A outer s H vs Q E b h=>?_)
 ·obtain ⟨_,_,rfl,_⟩:=h;rfl
 obtain ⟨v,qs,rfl,hv,big,a,q⟩:=h;refine ⟨_,(Ak (Av (Ce YD QU QV Kw Ba (DW (Fz ["_law_part_here"] [none] rfl (qp (pv 0)) (λ _ _ _ _ _=>(Bq (i:=0) (show UB [("_law_part_here":Str)] by decide))) (λ _ _ _ _ _=>Fd) (λ _ _ _ _ _=>(Ai (Yw T) b.m Ah (Ad (pv 0) Aa))) (Fw (by decide) (by decide)) (by decide) rfl (by decide) rfl (G3 rfl)) Aa)))),?_⟩
 exact ⟨rfl,nJ hv big a λ p j d e=>⟨_,p,qs.map Ay,rfl,rfl,e,cB big a,q _ d⟩⟩
theorem pQ (T:Txt K mg ad):CalB P w K mg base true 1 "_law_read" ["_law_word"] (cz K):=by
 refine T.SM.calN gC (λ _ _ _ _ _ _=>by1 λ _=>rfl) (λ vs H Q E h=>?_) (λ f y A outer s H vs Q E z h=>?_)
 ·obtain ⟨_,rfl,_⟩:=h;rfl
 obtain ⟨q,rfl,t,k⟩:=h;refine ⟨_,(Ag (Ax (i:=1) gC.nd (Ce YD XY Wx Gy (pv 0) (Bf Ba Aa))) (Ag (BP (BW By (Br DX rfl T.len DG (Ad (pv 1) Aa)) Ac) (Ak (Av (Bp (Bc (HQ Qj rfl T.int Ih (Ao (Ae Az (pv 1) Ac) Aa)) (Bc (HQ Qj rfl T.int Ih (Ao (Ae Az (pv 1) Ac) Aa)) Aa))))) BR) (Ak (Av (Bp (Bc (HQ Qj rfl T.int Ih (Ao (Ae Az (pv 1) Ac) Aa)) (Bf Ac Aa))))))),?_⟩;refine ⟨_,rfl,rfl,_,_,rfl,rfl,rfl,Zo (US (Kf t) 2) (by decide),λ d m=>?_⟩
 rcases AL0 t with ⟨a,e,u,n,o⟩ | ⟨a,b,e,n,lb,o,v⟩
 ·rw [e];have l:=Am m (.lst [.str a]);have g:upd H d (.lst [.str a]) d=some (.lst [.str a]):=Ar;show tSeq _ _ _ _ (upd H d (.lst [.str a]));generalize upd H d (.lst [.str a])=x at l g ⊢;refine ⟨_,rfl,d,_,rfl,.inl (SqL.of g),rfl,_,rfl,BL rfl ?_⟩;refine ⟨_,rfl,d,_,_,.str a,rfl,rfl,SqL.of g,Bh (j:=0) rfl,a,_,rfl,n,o,(by show 2<=Y3;decide),λ p r=>k _ _ (l.trans (Am r _)) ?_⟩
  show DV K _ _ (.tuple [.int q.num,.int (q.den:Int)]);rw [u];exact .tup (SqT.of Ar) (.cons (.int _) (.cons (.int _) .nil))
 ·rw [e];have l:=Am m (.lst [.str a,.str b]);have g:upd H d (.lst [.str a,.str b]) d=some (.lst [.str a,.str b]):=Ar;show tSeq _ _ _ _ (upd H d (.lst [.str a,.str b]));generalize upd H d (.lst [.str a,.str b])=x at l g ⊢;refine ⟨_,rfl,d,_,rfl,.inl (SqL.of g),rfl,_,rfl,Bj rfl ?_⟩;refine ⟨_,rfl,d,_,_,.str a,rfl,rfl,SqL.of g,Bh (j:=0) rfl,a,_,rfl,n,o,_,rfl,d,_,_,.str b,rfl,rfl,SqL.of g,Bh (j:=1) rfl,b,_,rfl,lb,v,(by show 2<=Y3;decide),λ p r=>k _ _ (l.trans (Am r _)) ?_⟩
  exact .tup (SqT.of Ar) (.cons (.int _) (.cons (.int _) .nil))
theorem lJ (T:Txt K mg ad):CalB P w K mg base true 3 "_law_read_all" ["_law_text_here"] (q8 K):=by
 refine T.Vk.calN w6 (λ _ _ _ _ _ _=>by1 λ _=>rfl) (λ vs H Q E h=>?_) (λ f I A outer s H vs Q E B h=>?_)
 ·obtain ⟨_,rfl,_⟩:=h;rfl
 obtain ⟨qs,rfl,n,C,o,k⟩:=h;refine ⟨_,(Ak (Av (Fz ["_law_word"] [none] rfl (Dc (Ce YD XY Wx Gy (pv 0) (Bf Ba Aa))) (λ _ _ _ _ _=>(Bq (i:=0) (show UB [("_law_word":Str)] by decide))) (λ _ _ _ _ _=>Fd) (λ _ _ _ _ _=>(Ai (pQ T) B.m Ah (Ad (pv 0) Aa))) (Fw (by decide) (by decide)) (by decide) rfl (by decide) rfl (G3 rfl)))),?_⟩
 refine ⟨_,rfl,rfl,_,_,rfl,rfl,rfl,Zo (US (Gm o C) 2) (by decide),λ d r=>?_⟩
 rw [jq n];have t:=Am r (.lst ((qs.map Ay).map V.str));have l:upd H d (.lst ((qs.map Ay).map V.str)) d=some (.lst ((qs.map Ay).map V.str)):=Ar;generalize upd H d (.lst ((qs.map Ay).map V.str))=D at t l ⊢;refine ⟨d,rfl,⟨_,SqL.of l⟩,?_⟩;refine Io (K:=K) (a:=d) (xs:=(qs.map Ay).map V.str) (λ i j b g=>(∃c0,j=[c0])/\Same D g/\DVs K g b ((qs.take i).map Aj)) ⟨⟨_,rfl⟩,Same.refl _,.nil⟩ ?_ ?_ ?_
 ·rintro i j b g hi ⟨⟨c0,rfl⟩,s',dv⟩
  have:=dv.len;rw [Y2,YR] at this;exact ⟨XT (small1000 (by omega)),SqL.of (s' _ _ l)⟩
 ·rintro i x j b g hi ⟨⟨c0,rfl⟩,s',dv⟩
  obtain ⟨q,y,rfl⟩:∃q,qs[i]?=some q/\x=.str (Ay q):=by
   rw [ZN,ZN] at hi;cases e:qs[i]? with
   | none=>rw [e] at hi;cases hi
   | some q=>rw [e] at hi;cases hi;exact ⟨q,rfl,rfl⟩
  refine ⟨_,rfl,q,rfl,o q (ZB y),λ v J z hv=>nx (CT hi) ⟨⟨_,rfl⟩,s'.trans z,?_⟩⟩
  rw [Xe,y,U4];exact (dv.keep z).append (.cons hv .nil)
 ·rintro j b g p ⟨⟨c0,rfl⟩,s',dv⟩ G
  rw [Y2,Y2,YU] at dv;have u:=Am G (.lst b);exact k p b _ (t.trans (s'.trans u)) Ar (dv.keep u)
theorem gK (T:Txt K mg ad):CalB P w K mg base true 1 "_law_is_short" ["_law_parts"] (fQ K):=by
 refine T.Tu.calN uO (λ _ _ _ _ _ _=>by1 λ _=>rfl) (λ vs H Q E h=>?_) (λ f S A outer s H vs Q E I h=>?_)
 ·obtain ⟨_,_,rfl,_⟩:=h;rfl
 obtain ⟨v,qs,rfl,hv,U,k⟩:=h;obtain ⟨a,xs,rfl,r,n⟩:=DV.lst_of hv;have t:CPow 10 14:=⟨by decide,by decide,by decide⟩
 refine ⟨_,(Ak (Av (Dr (Gh I.units) (Fz ["_law_part_here"] [none] rfl (Dc (pv 0)) (λ _ _ _ _ _=>(Bq (i:=0) (show UB [("_law_part_here":Str)] by decide))) (λ _ _ _ _ _=>(XX (BW X8 (Br (AP8 rfl) rfl T.max uC (Bc (Br Ip rfl T.abs Iu (Ao (Ae (YW (K:=K)) (pv 0) Ac) Aa)) (Ao (Ae (YW (K:=K)) (pv 0) Ac) Aa))) (Aw Q6 Ac Ac)))) (λ _ _ _ _ _=>(pv 0)) (Fw (by decide) (by decide)) (by decide) rfl (by decide) rfl (G3 rfl)) (CN Aa)))),?_⟩
 refine ⟨_,rfl,a,rfl,⟨_,r⟩,?_⟩;refine Pq (K:=K) (a:=a) (xs:=xs) (λ i m g j=>(∃c0,m=[c0])/\j=H/\DVs K H g (((qs.take i).filter λ q=>!Ex q).map Aj)) ⟨⟨_,rfl⟩,rfl,.nil⟩ ?_ ?_ ?_
 ·rintro i m g j hi ⟨⟨c0,rfl⟩,rfl,dv⟩
  have:=dv.len;have J:=yX (λ q=>!Ex q) (qs.take i)
  rw [Y2] at this;rw [YR] at J;exact ⟨XT (small1000 (by omega)),r⟩
 ·rintro i x m g j hi ⟨⟨c0,rfl⟩,rfl,dv⟩
  obtain ⟨d,hd,y⟩:=n.get hi;rw [ZN] at hd;obtain ⟨q,L,rfl⟩:=QE.mp hd;obtain ⟨b,rfl,z⟩:=y.fr;refine ⟨_,rfl,b,_,_,_,rfl,rfl,z,rfl,_,rfl,_,rfl,b,_,_,_,rfl,rfl,z,rfl,_,_,rfl,_,_,rfl,rfl,t,?_⟩;refine ⟨_,_,rfl,rfl,_,rfl,?_⟩;have B:=wu q;have o:(qs.take (i+1)).filter (λ q=>!Ex q)=(qs.take i).filter (λ q=>!Ex q)++if (!Ex q)=true then [q] else []:=by
   rw [Xe,L,List.filter_append];cases e:Ex q with
   | true=>simp [e]
   | false=>simp [e]
  show if decide (_<=_)=true then _ else _
  refine ite2 (λ c1=>?_) (λ c1=>?_)
  ·have c1:(!Ex q)=true:=B.symm.trans c1;refine ⟨_,rfl,nx (CT hi) ⟨⟨_,rfl⟩,rfl,?_⟩⟩;rw [o,if_pos c1,U4];exact dv.append (.cons y .nil)
  ·have c1:¬ (!Ex q)=true:=λ h=>c1 (B.trans h)
   refine nx (CT hi) ⟨⟨_,rfl⟩,rfl,?_⟩;rw [o,if_neg c1,YY];exact dv
 ·rintro m g j p ⟨⟨c0,rfl⟩,rfl,dv⟩ M
  have N:xs.length=qs.length:=by have:=n.len;rw [Y2] at this;exact this
  rw [N,YU] at dv;have u:=Am M (.lst g);have C:DV K (upd j p (.lst g)) (.ref p) (.list ((qs.filter λ q=>!Ex q).map Aj)):=.lst (SqL.of Ar) (dv.keep u)
  generalize upd j p (.lst g)=O at u C ⊢;refine ⟨(by show 0<=Y3;decide),λ D F=>?_⟩
  have G:=Am F (.lst ([]:List V));have R:DV K (upd O D (.lst ([]:List V))) (.ref D) (.list []):=.lst (SqL.of Ar) .nil;refine gk (C.keep G) R (Xi (bQ Im _)) (k _ _ (u.trans G) ?_);rw [rT];cases qs.filter (λ q=>!Ex q) with
  | nil=>exact ⟨λ _=>rfl,λ _=>rfl⟩
  | cons a l=>exact ⟨λ h=>(by cases h),λ h=>(by cases h)⟩
theorem zP (T:Txt K mg ad):CalB P w K mg base true 4 "_law_box" ["_law_drawn_here"] (pH K):=by
 refine T.Xd.calN Wh (λ _ _ _ _ _ _=>by1 λ _=>rfl) (λ vs H Q E h=>?_) (λ f f0 A outer s H vs Q E L h=>?_)
 ·obtain ⟨_,_,_,rfl,_⟩:=h;rfl
 obtain ⟨d,c,d3,rfl,hd,q⟩:=h;refine ⟨_,(Ag (Wq (i:=1) Wh.nd rfl (by walk_at "o") ["_law_k","_law_drawn_here"] [none,some 0] rfl (K6 rfl T.range (Bf Ac Aa)) (λ _ _ _ _ _ _=>(Bq (i:=0) (show UB [("_law_k":Str),("_law_drawn_here":Str)] by decide))) (λ _ _ _ _ _ _=>Fd) (λ _ _ _ _ _ _=>(Ai (Xb T) L.m Ah (Ad (pv 1) (Bf Cu Aa)))) (Pg (hcell:=by decide) (hf:=(show ∀y:Str×UM,y∈_->y.2=zt->(defScope PB).names.lookup y.1=some GQ by decide))) (by decide) rfl (by decide) rfl (λ i j h=>by
   rcases i with _ | _ | i
   ·simp at h
   ·simp at h;subst h;exact ⟨_,rfl,rfl,rfl,rfl⟩
   ·simp at h)) (Ag (Df YI rfl (uR rfl T.range (Bf Ac (Bf Ac (Bf Ac Aa)))) (Bq (i:=2) Wh.nd) (Ak (BP (Bk (Ai (V8 T) L.m Ah (Ao (Ae Az (pv 1) (Aw Cp (pv 2) Ac)) (Ao (Ae Az (pv 1) (pv 2)) Aa)))) (Ak (Gz (Bp (Ao (Ae Az (pv 1) (Aw Cp (pv 2) Ac)) (Ao (Ae Az (pv 1) (pv 2)) Aa))) (K4 (n:=2) rfl (Du (JG (pv 1) (pv 2) Jb) (Du (JG (pv 1) (Aw Cp (pv 2) Ac) Jb) Gp))))) BR))) (Ak (Av (pv 1))))),?_⟩
 refine ⟨_,rfl,by decide,by decide,?_⟩
 refine pY (lo:=0) (n:=Int.toNat 4) (λ i a3 b5 M=>∃c0 I,a3=[c0,some (.ref d)]/\DrG M d c (d3+28 - i * 7)/\SE d c H M/\DVs K M b5 (I.map Aj)/\I.length=i/\∀r∈I,Bd 12 r) ⟨_,[],rfl,hd,SE.refl _ _ _,.nil,rfl,λ r L=>nomatch L⟩ ?_ ?_ ?_
 ·rintro i a3 b5 M hi ⟨c0,I,rfl,a6,sd,dv,a4,C⟩
  have:=dv.len;rw [Y2,a4] at this;have f2:Int.toNat 4=4:=rfl;exact XT (small1000 (by omega))
 ·rintro i a3 b5 M hi ⟨c0,I,rfl,a6,sd,dv,a4,C⟩
  have f3:i < 4:=hi;refine ⟨_,rfl,d,c,d3+28 - i * 7 - 7,false,rfl,a6.le (by omega),λ v c3 r N a5 hv e2=>nx hi ⟨_,I++[r],rfl,N.le (by omega),sd.trans a5,?_,by rw [X1,a4];rfl,λ e3 d4=>?_⟩⟩
  ·rw [U4];exact DVs.append (Cv (a6.t a5) (DY (λ _=>rfl) I) dv) (.cons hv .nil)
  ·rcases YE.mp d4 with h | h
   ·exact C e3 h
   ·rw [W1.mp h];exact e2
 rintro f1 b5 b6 l ⟨c0,I,rfl,F,a7,dv,a4,C⟩ hl
 have a4:I.length=4:=a4;obtain ⟨p,u,x,B,rfl⟩:∃p u x B,I=[p,u,x,B]:=by
  match I,a4 with
  | [p,u,x,B],_=>exact ⟨p,u,x,B,rfl⟩
 obtain ⟨g,a,k,b,rfl,e4,e5,e6,e7⟩:=dv.four;have F:DrG b6 d c d3:=F.le (by show d3<=d3+28 - 4 * 7;omega)
 have a8:l≠d:=F.nd hl;have a9:l≠c:=F.nc hl;have b0:H l=none:=by
  cases e:H l with
  | none=>rfl
  | some o=>have:=a7 l o a8 a9 e;rw [hl] at this;cases this
 have b7:=Am hl (.lst [g,a,k,b]);have b9:(upd b6 l (.lst [g,a,k,b])) l=some (.lst [g,a,k,b]):=Ar;have F:=F.keep b7;have a7:=a7.trans (b7.se d c);have c2:DVs K (upd b6 l (.lst [g,a,k,b])) [g,a,k,b] ([p,u,x,B].map Aj):=dv.keep b7;generalize upd b6 l (.lst [g,a,k,b])=f4 at b9 F a7 c2 ⊢;clear e4 e5 e6 e7 b7 hl dv;refine ⟨0,4,2,2,rfl,by decide,by decide,by decide,by decide,?_⟩
 refine AT1 (lo:=0) (st:=2) (n:=2) (λ i a3 M=>∃(c4:Option V) (g a k b:V) (p u x B:Rat),a3=[some (.ref d),some (.ref l),c4]/\DrG M d c d3/\SE d c H M/\M l=some (.lst [g,a,k,b])/\DVs K M [g,a,k,b] ([p,u,x,B].map Aj)/\(∀r∈[p,u,x,B],Bd 12 r)/\(1<=i->p<=u)/\(2<=i->x<=B)) ⟨_,g,a,k,b,p,u,x,B,rfl,F,a7,b9,c2,C,(λ h=>absurd h (by decide)),λ h=>absurd h (by decide)⟩ ?_ ?_
 ·rintro i a3 c3 hi ⟨c4,g,a,k,b,p,u,x,B,rfl,N,a5,G,U,C,b8,d5⟩
  have d6:i=0\/i=1:=by omega
  obtain ⟨_,_,_,_,b1,d7,d8,d9,e0⟩:=U.four;cases b1
  rcases d6 with rfl | rfl
  ·have c5:=d7;have e1:=d8;refine ⟨_,rfl,_,rfl,_,_,rfl,rfl,l,_,_,a,rfl,rfl,SqL.of G,rfl,_,rfl,_,rfl,l,_,_,g,rfl,rfl,SqL.of G,rfl,_,_,.cons e1 (.cons c5 .nil),⟨u,p,rfl,(C u (by simp)).sm (by decide),(C p (by simp)).sm (by decide),rfl⟩,λ e8 b2 O b3=>?_⟩
   obtain rfl:=b3.bl_of;have D:=O _ _ G;have W:=U.keep O;have X:=N.keep O;have Y:=a5.trans (O.se d c);refine ⟨_,rfl,ite2 (λ c1=>?_) (λ c1=>?_)⟩
   ·have c1:u < p:=of_decide_eq_true c1;refine ⟨_,rfl,_,rfl,_,_,rfl,rfl,l,_,_,a,rfl,rfl,SqL.of D,rfl,_,rfl,_,rfl,l,_,_,g,rfl,rfl,SqL.of D,rfl,(by show 2<=Y3;decide),λ R b4=>?_⟩
    have S:=Am b4 (.tup [a,g]);have J:=S _ _ D;have Z:=W.keep S;have a0:=X.keep S;have a1:=Y.trans (S.se d c);have a2:SqT K (upd b2 R (.tup [a,g])) R [a,g]:=SqT.of Ar;generalize upd b2 R (.tup [a,g])=e9 at J Z a0 a1 a2 ⊢;obtain ⟨j1,c6,c7,c8⟩:=dw J a8.symm a9.symm b0 a0 a1 Z [a,g,k,b];refine ⟨R,_,rfl,a2,rfl,a,_,rfl,⟨_,rfl,_,rfl,l,[g,a,k,b],_,0,rfl,rfl,J,rfl,?_⟩⟩;refine ⟨g,_,rfl,⟨_,rfl,_,rfl,_,_,rfl,rfl,l,[a,a,k,b],_,1,rfl,rfl,Ar,rfl,?_⟩⟩;rw [GJ];obtain ⟨_,_,_,_,b1,c9,d0,d1,d2⟩:=c7.four;cases b1
    refine ⟨rfl,_,a,g,k,b,u,p,x,B,rfl,j1,c6,c8,(.cons d0 (.cons c9 (.cons d1 (.cons d2 .nil)))),(λ r L=>C r ?_),(λ _=>Rat.le_of_lt c1),λ h=>absurd h (by decide)⟩
    simp only [X2,YN,or_false] at L ⊢;rcases L with h | h | h | h<;>simp only [h,true_or,or_true]
   ·have c1:p<=u:=xi.mp λ z=>c1 (decide_eq_true z)
    exact ⟨_,g,a,k,b,p,u,x,B,rfl,X,Y,D,W,C,(λ _=>c1),λ h=>absurd h (by decide)⟩
  ·have c5:=d9;have e1:=e0;refine ⟨_,rfl,_,rfl,_,_,rfl,rfl,l,_,_,b,rfl,rfl,SqL.of G,rfl,_,rfl,_,rfl,l,_,_,k,rfl,rfl,SqL.of G,rfl,_,_,.cons e1 (.cons c5 .nil),⟨B,x,rfl,(C B (by simp)).sm (by decide),(C x (by simp)).sm (by decide),rfl⟩,λ e8 b2 O b3=>?_⟩
   obtain rfl:=b3.bl_of;have D:=O _ _ G;have W:=U.keep O;have X:=N.keep O;have Y:=a5.trans (O.se d c);refine ⟨_,rfl,ite2 (λ c1=>?_) (λ c1=>?_)⟩
   ·have c1:B < x:=of_decide_eq_true c1;refine ⟨_,rfl,_,rfl,_,_,rfl,rfl,l,_,_,b,rfl,rfl,SqL.of D,rfl,_,rfl,_,rfl,l,_,_,k,rfl,rfl,SqL.of D,rfl,(by show 2<=Y3;decide),λ R b4=>?_⟩
    have S:=Am b4 (.tup [b,k]);have J:=S _ _ D;have Z:=W.keep S;have a0:=X.keep S;have a1:=Y.trans (S.se d c);have a2:SqT K (upd b2 R (.tup [b,k])) R [b,k]:=SqT.of Ar;generalize upd b2 R (.tup [b,k])=e9 at J Z a0 a1 a2 ⊢;obtain ⟨j1,c6,c7,c8⟩:=dw J a8.symm a9.symm b0 a0 a1 Z [g,a,b,k];refine ⟨R,_,rfl,a2,rfl,b,_,rfl,⟨_,rfl,_,rfl,l,[g,a,k,b],_,2,rfl,rfl,J,rfl,?_⟩⟩;refine ⟨k,_,rfl,⟨_,rfl,_,rfl,_,_,rfl,rfl,l,[g,a,b,b],_,3,rfl,rfl,Ar,rfl,?_⟩⟩;rw [GJ];obtain ⟨_,_,_,_,b1,c9,d0,d1,d2⟩:=c7.four;cases b1
    refine ⟨rfl,_,g,a,b,k,p,u,B,x,rfl,j1,c6,c8,(.cons c9 (.cons d0 (.cons d2 (.cons d1 .nil)))),(λ r L=>C r ?_),(λ _=>b8 (by decide)),λ _=>Rat.le_of_lt c1⟩
    simp only [X2,YN,or_false] at L ⊢;rcases L with h | h | h | h<;>simp only [h,true_or,or_true]
   ·have c1:x<=B:=xi.mp λ z=>c1 (decide_eq_true z)
    exact ⟨_,g,a,k,b,p,u,x,B,rfl,X,Y,D,W,C,(λ _=>b8 (by decide)),λ _=>c1⟩
 ·rintro a3 c3 ⟨c4,g,a,k,b,p,u,x,B,rfl,N,a5,G,U,C,b8,d5⟩
  exact ⟨_,rfl,q l _ p u x B c3 N a5 b0 G U ⟨b8 (by decide),d5 (by decide)⟩ ⟨C _ (by simp),C _ (by simp),C _ (by simp),C _ (by simp)⟩⟩
theorem jW (T:Txt K mg ad)(a:w.params=ad.pr):MC P w K mg base 16 ad.Desk "say" ["self","row"] (Jj K ad.Desk (Z3 "walk") 2 mR):=Qa T a ⟨_,by unfold valV Es;rfl,λ H=>T.ex.s_ROWS_walk H⟩ (by decide) (by decide+kernel) (by decide+kernel) (by decide+kernel) (by decide+kernel) (by decide+kernel) (by unfold valV Es;rfl) T.ex.f_ANSWERS_walk (AR1 T)
theorem AV1 (T:Txt K mg ad)(a:w.params=ad.pr):MC P w K mg base 16 ad.Desk "say" ["self","row"] (Jj K ad.Desk (Z3 "image") 1 jX):=Qa T a ⟨_,by unfold valV Es;rfl,λ H=>T.ex.s_ROWS_image H⟩ (by decide) (by decide+kernel) (by decide+kernel) (by decide+kernel) (by decide+kernel) (by decide+kernel) (by unfold valV Es;rfl) T.ex.f_ANSWERS_image (Ab9 T)
theorem rE (T:Txt K mg ad)(a:w.params=ad.pr):MC P w K mg base 16 ad.Desk "say" ["self","row"] (Jj K ad.Desk (Z3 "field") 4 bD):=Qa T a ⟨_,by unfold valV Es;rfl,λ H=>T.ex.s_ROWS_field H⟩ (by decide) (by decide+kernel) (by decide+kernel) (by decide+kernel) (by decide+kernel) (by decide+kernel) (by unfold valV Es;rfl) T.ex.f_ANSWERS_field (Ac6 T)
theorem AP3 (T:Txt K mg ad)(a:w.params=ad.pr):MC P w K mg base 16 ad.Desk "say" ["self","row"] (Jj K ad.Desk (Z3 "sharp") 5 mJ):=Qa T a ⟨_,by unfold valV Es;rfl,λ H=>T.ex.s_ROWS_sharp H⟩ (by decide) (by decide+kernel) (by decide+kernel) (by decide+kernel) (by decide+kernel) (by decide+kernel) (by unfold valV Es;rfl) T.ex.f_ANSWERS_sharp (uX T)
theorem Ae1 (T:Txt K mg ad)(G:w.params=ad.pr):CalB P w K mg base true 18 "_law_comes_by" ["_law_desk","_law_name","_law_ray"] (bw K ad.Desk):=by
 refine T.RJ.calN zz (λ _ _ _ _ _ _=>JM λ _ _ _=>rfl) (λ vs H Q E h=>?_) (λ f L A outer s H vs Q E i h=>?_)
 ·obtain ⟨_,_,_,_,_,_,_,_,_,_,_,rfl,_⟩:=h;rfl
 obtain ⟨o,j,d,q,x,M,n,ps,v,y,u,rfl,l,nx,sx,hv,p,I,k⟩:=h;have N:=nx.len;have ls:(Z3 "walk ").length=5:=by decide+kernel
 have O:(Z3 " ").length=1:=by decide+kernel
 refine ⟨_,(Ak (Av (aP (Jq (Ai (gK T) i.m Ah (Ad (pv 2) Aa))) (Ga (Dr By (Em Ju (Cd (k:=16) (pv 0) i.m (CP (Aw Cm (Aw Cm (Aw Cm Ba (pv 1)) Ba) (Ai (Vr T) i.m Ah (Ad (pv 2) Aa))) Aa)) Fj (Dy Ac)) Ba))))),?_⟩
 refine ⟨_,rfl,v,[y,u],rfl,hv,by show 2<=60;decide,λ b R a r=>⟨_,rfl,_,rfl,?_⟩⟩
 have t:=all2 p I;have S:=Gm t (by show 2<=5;decide)
 cases b with
 | false=>exact Bj rfl (k true _ a ⟨λ _=>.inl λ h=>(by cases r.mpr h),λ _=>rfl⟩)
 | true=>
  have B:=r.mp rfl;have sh:=B.short;have C:=sh y (by simp)
  have D:=sh u (by simp)
  refine BL rfl ?_;have g:=l.keep a;refine ⟨_,rfl,o,_,j,_,_,_,rfl,g.o,rfl,jW T G,_,rfl,_,_,rfl,rfl,CW (by omega),_,_,rfl,rfl,CW (by rw [Ck];omega),?_⟩
  refine ⟨_,rfl,v,[y,u],rfl,.inl (hv.keep a),t,by show 2<=60;decide,λ U F=>?_⟩
  refine ⟨_,_,rfl,rfl,CW (by rw [Ck,Ck];omega),?_⟩
  rw [Kr (u:=Z3 "walk") (by decide+kernel)]
  refine ⟨o,j,d,q,x,M,n,ps,[y,u],_,rfl,g.keep F,nx,sx,rfl,sh,(λ e=>absurd e (by decide+kernel)),⟨y,u,rfl,C,D,rfl⟩,λ V J=>?_⟩
  have W:=bR (l.ok sx) (Zk C D);refine ⟨_,rfl,_,rfl,CW (by omega),?_⟩
  refine ⟨rfl,k _ _ (a.trans (F.trans J)) ?_⟩;rw [DK,decide_eq_true_eq,xV];exact ⟨λ h=>.inr h,λ h=>h.resolve_left λ z=>z B⟩
theorem AR6 (T:Txt K mg ad)(d2:w.params=ad.pr):CalB P w K mg base true 19 "_law_field" ["_law_desk","_law_name","_law_box_here"] (iz K ad.Desk):=by
 refine T.ZV.calN Jo (λ _ _ _ _ _ _=>JM λ _ _ _=>rfl) (λ vs H Q E h=>?_) (λ f k3 A outer s H vs Q E B h=>?_)
 ·obtain ⟨_,_,_,_,_,_,_,_,_,_,_,rfl,_⟩:=h;rfl
 obtain ⟨o,b6,d,q,x,j3,n,ps,l,xs,z,rfl,b7,nx,sx,ok,hl,c7,C,g,k⟩:=h;obtain ⟨D,G,I,J,rfl,d3,d4,d5,d6⟩:=c7.four;have k9:=nx.len;have ls:(Z3 "field ").length=6:=by decide+kernel
 have f5:(Z3 " ").length=1:=by decide+kernel
 have d7:=ok.field C g;have j4:=pZ d7;have d8:=oN ok C g;have a5:∀{z:Rat},Bd 12 z->Bd 1900 z:=λ h=>h.mono (by decide)
 have f6:∀t∈[z.a,z.b,z.c,z.d],Bd 12 t:=λ t M=>by
  simp only [X2,YN,or_false] at M;rcases M with rfl | rfl | rfl | rfl
  ·exact g.a
  ·exact g.b
  ·exact g.c
  ·exact g.d
 have a6:∀t∈[z.a,z.b,z.c,z.d],Bd 1900 t:=λ t M=>a5 (f6 t M)
 have l0:=Gm a6 (by show 4<=5;decide)
 refine ⟨_,(Ag (Ax (i:=3) Jo.nd (Cd (k:=16) (pv 0) B.m (CP (Aw Cm (Aw Cm (Aw Cm Ba (pv 1)) Ba) (Ai (Vr T) B.m Ah (Ad (pv 2) Aa))) Aa))) (Ag (BP (BW By (pv 3) Ba) (Ag (Ax (i:=4) Jo.nd (CN (Hn (CN (Ao (Ae Az (pv 2) Ac) (Ao (Ae Az (pv 2) Ac) Aa))) (Hn (CN (Ao (Ae Az (pv 2) Ac) (Ao (Ae Az (pv 2) Ac) Aa))) (Hn (CN (Ao (Ae Az (pv 2) Ac) (Ao (Ae Az (pv 2) Ac) Aa))) (Hn (CN (Ao (Ae Az (pv 2) Ac) (Ao (Ae Az (pv 2) Ac) Aa))) Aa)))))) (Ak (Av (Dr (Gh B.units) (xW ["_law_ray","_law_desk","_law_name"] [none,some 0,some 1] rfl (Dc (pv 4)) (λ _ _ _ _ _ _=>(Bq (i:=0) (show UB [("_law_ray":Str),("_law_desk":Str),("_law_name":Str)] by decide))) (λ _ _ _ _ _ _=>(XX (Bk (Ai (Ae1 T d2) B.m Ah (Ad (pv 1) (Ad (pv 2) (Ad (pv 0) Aa))))))) (λ _ _ _ _ _ _=>(pv 0)) (Pg (hcell:=by decide) (hf:=(show ∀y:Str×UM,y∈_->y.2=zt->(defScope Oq).names.lookup y.1=some GQ by decide))) (by decide) rfl (by decide) rfl (λ i j h=>by
   rcases i with _ | _ | _ | i
   ·simp at h
   ·simp at h;subst h;exact ⟨_,rfl,rfl,rfl,rfl⟩
   ·simp at h;subst h;exact ⟨_,rfl,rfl,rfl,rfl⟩
   ·simp at h)) (CN Aa))))) BR) (Ag (Df YI rfl (Dc (Ce YD XY Wx Gy (pv 3) (Bf Ba Aa))) (Bq (i:=5) Jo.nd) (Ag (Gz (Ai (lJ T) B.m Ah (Ad (pv 5) Aa)) (W0 (n:=2) rfl (Du (Bq (i:=6) Jo.nd) (Du (Bq (i:=7) Jo.nd) Gp)))) (Ag (BP (PW.pt (pw_or (Bk (Ai (V8 T) B.m Ah (Ad (pv 6) (Ao (Ae Az (pv 2) Ac) Aa)))) (pw_or (Bk (Ai (V8 T) B.m Ah (Ao (Ae Az (pv 2) Ac) (Ad (pv 6) Aa)))) (pw_or1 (CQ (Bk (Ai (Ae1 T d2) B.m Ah (Ad (pv 0) (Ad (pv 1) (Hn (CN (Ad (pv 6) (Ad (pv 7) Aa))) Aa)))))))))) (Ak (Av Cu)) BR) (Ak (BP (PW.pt (pw_or (Bk (Ai (V8 T) B.m Ah (Ad (pv 7) (Ao (Ae Az (pv 2) Ac) Aa)))) (pw_or1 (Bk (Ai (V8 T) B.m Ah (Ao (Ae Az (pv 2) Ac) (Ad (pv 7) Aa))))))) (Ak (Av Cu)) BR))))) (Ak (Av Cu))))),?_⟩
 refine ⟨_,rfl,o,_,b6,_,_,_,rfl,b7.o,rfl,rE T d2,_,rfl,_,_,rfl,rfl,CW (by omega),_,_,rfl,rfl,CW (by rw [Ck];omega),?_⟩
 refine ⟨_,rfl,.ref l,[z.a,z.b,z.c,z.d],rfl,.inl (.lst (SqL.of hl) c7),a6,by show 4<=60;decide,λ l1 f7=>?_⟩
 refine ⟨_,_,rfl,rfl,CW (by rw [Ck,Ck];omega),?_⟩
 rw [Kr (u:=Z3 "field") (by decide+kernel)]
 refine ⟨o,b6,d,q,x,j3,n,ps,[z.a,z.b,z.c,z.d],_,rfl,b7.keep f7,nx,sx,rfl,(λ t M=>NB (f6 t M) (by decide)),(λ e=>absurd e (by decide+kernel)),⟨ok,z,rfl,C,g,rfl⟩,λ b8 j5=>?_⟩
 have Y:=f7.trans j5;have f8:=Ae0 d8 (by have:=ok.1;omega)
 have go:∀r∈Ds (Bg ps) z,z.has r/\(walk ps r).2=none:=λ r B=>yK d7 B
 have no:=λ (h:Ds (Bg ps) z=[]) r (B:z.has r)=>yF d7 h B
 have fn:=Ad0 (Ds (Bg ps) z);have f9:Ds (Bg ps) z≠[]->Gr (Ds (Bg ps) z)=ue (Z3 ", ") ((Ds (Bg ps) z).map λ r=>Bw [r.1,r.2]):=λ h=>if_neg h
 generalize Ds (Bg ps) z=cs at j4 d8 f8 go no fn f9 ⊢;refine ⟨_,rfl,rfl,_,rfl,ite2 (λ c0=>?_) (λ c0=>?_)⟩
 ·have j6:cs=[]:=fn.mp (V.str.inj (of_decide_eq_true c0));have a7:=Y _ _ hl;refine ⟨_,rfl,l,_,_,D,rfl,rfl,SqL.of a7,Bh (j:=0) rfl,_,rfl,l,_,_,I,rfl,rfl,SqL.of a7,Bh (j:=2) rfl,(by show 2<=Y3;decide),λ N g0=>?_⟩
  have d9:=Am g0 (.lst [D,I]);have a2:upd b8 N (.lst [D,I]) N=some (.lst [D,I]):=Ar;generalize upd b8 N (.lst [D,I])=g1 at d9 a2 ⊢;have W:=d9 _ _ a7;refine ⟨_,rfl,l,_,_,D,rfl,rfl,SqL.of W,Bh (j:=0) rfl,_,rfl,l,_,_,J,rfl,rfl,SqL.of W,Bh (j:=3) rfl,(by show 2<=Y3;decide),λ O g2=>?_⟩
  have e0:=Am g2 (.lst [D,J]);have g3:upd g1 O (.lst [D,J]) O=some (.lst [D,J]):=Ar;generalize upd g1 O (.lst [D,J])=g4 at e0 g3 ⊢;have Z:=e0 _ _ W;refine ⟨_,rfl,l,_,_,G,rfl,rfl,SqL.of Z,Bh (j:=1) rfl,_,rfl,l,_,_,I,rfl,rfl,SqL.of Z,Bh (j:=2) rfl,(by show 2<=Y3;decide),λ R g5=>?_⟩
  have e1:=Am g5 (.lst [G,I]);have g6:upd g4 R (.lst [G,I]) R=some (.lst [G,I]):=Ar;generalize upd g4 R (.lst [G,I])=g7 at e1 g6 ⊢;have a8:=e1 _ _ Z;refine ⟨_,rfl,l,_,_,G,rfl,rfl,SqL.of a8,Bh (j:=1) rfl,_,rfl,l,_,_,J,rfl,rfl,SqL.of a8,Bh (j:=3) rfl,(by show 2<=Y3;decide),λ S g8=>?_⟩
  have e2:=Am g8 (.lst [G,J]);have g9:upd g7 S (.lst [G,J]) S=some (.lst [G,J]):=Ar;generalize upd g7 S (.lst [G,J])=h0 at e2 g9 ⊢;have k4:=e2 _ _ a8;refine ⟨(by show 4<=Y3;decide),λ a9 h1=>?_⟩
  have e3:=Am h1 (.lst [.ref N,.ref O,.ref R,.ref S]);have e4:upd h0 a9 (.lst [.ref N,.ref O,.ref R,.ref S]) a9=some (.lst [.ref N,.ref O,.ref R,.ref S]):=Ar;generalize upd h0 a9 (.lst [.ref N,.ref O,.ref R,.ref S])=b9 at e3 e4 ⊢;have c8:=e2.trans e3;have c9:=e1.trans c8;have d0:=e0.trans c9;have a0:=Y.trans (d9.trans d0);have two:∀{p:Addr} {y v:V} {a b:Rat},b9 p=some (.lst [y,v])->DV K H y (Aj a)->DV K H v (Aj b)->DV K b9 (.ref p) (.list ([a,b].map Aj)):=λ j7 j8 hv=>.lst (SqL.of j7) (.cons (j8.keep a0) (.cons (hv.keep a0) .nil))
  have dr:∀(i:Nat) (y:V),[V.ref N,.ref O,.ref R,.ref S][i]?=some y->∃a b:Rat,DV K b9 y (.list ([a,b].map Aj))/\Bd 12 a/\Bd 12 b/\z.has (a,b):=λ i y hi=>by
   match i,hi with
   | 0,hi=>cases hi;exact ⟨z.a,z.c,two (d0 _ _ a2) d3 d5,g.a,g.c,JC,C.h,JC,C.s⟩
   | 1,hi=>cases hi;exact ⟨z.a,z.d,two (c9 _ _ g3) d3 d6,g.a,g.d,JC,C.h,C.s,JC⟩
   | 2,hi=>cases hi;exact ⟨z.b,z.c,two (c8 _ _ g6) d4 d5,g.b,g.c,C.h,JC,JC,C.s⟩
   | 3,hi=>cases hi;exact ⟨z.b,z.d,two (e3 _ _ g9) d4 d6,g.b,g.d,C.h,JC,C.s,JC⟩
  refine ⟨_,rfl,a9,rfl,⟨_,SqL.of e4⟩,?_⟩;refine Pq (K:=K) (a:=a9) (xs:=[.ref N,.ref O,.ref R,.ref S]) (λ i U b0 L=>(∃c0,U=[c0,some (.ref o),some (.str x)])/\b0=[]/\Same b9 L) ⟨⟨_,rfl⟩,rfl,Same.refl _⟩ ?_ ?_ ?_
  ·rintro i U b0 L hi ⟨⟨c0,rfl⟩,rfl,s'⟩
   exact ⟨by show 0<=Y3;decide,SqL.of (s' _ _ e4)⟩
  ·rintro i y U b0 L hi ⟨⟨c0,rfl⟩,rfl,s'⟩
   obtain ⟨a,b,dv,h2,h3,a3⟩:=dr i y hi;refine ⟨_,rfl,_,rfl,_,rfl,o,b6,d,q,x,j3,n,ps,y,a,b,rfl,b7.keep (a0.trans s'),nx,sx,dv.keep s',a5 h2,a5 h3,λ t k5 h4 M=>⟨_,rfl,?_⟩⟩
   have j9:t=false:=by
    cases t with
    | false=>rfl
    | true=>
     rcases M.mp rfl with h | h
     ·exact absurd (Ac0 λ q e5=>by
       rcases X2.mp e5 with rfl | e5
       ·exact h2.mono (by decide)
       ·rw [W1.mp e5];exact h3.mono (by decide)) h
     ·exact absurd h (no j6 _ a3)
   exact BL j9 (L2.nx (CT hi) ⟨⟨_,rfl⟩,rfl,s'.trans h4⟩)
  rintro U b0 L e6 ⟨⟨k6,rfl⟩,rfl,s'⟩ h5
  have h6:=Am h5 (.lst ([]:List V));have h7:DV K (upd L e6 (.lst ([]:List V))) (.ref e6) (.list []):=.lst (SqL.of Ar) .nil;generalize upd L e6 (.lst ([]:List V))=c1 at h6 h7 ⊢;refine ⟨(by show 0<=Y3;decide),λ X b3=>?_⟩
  have a4:=Am b3 (.lst ([]:List V));have c2:DV K (upd c1 X (.lst ([]:List V))) (.ref X) (.list []):=.lst (SqL.of Ar) .nil;exact ⟨_,_,h7.keep a4,c2,rfl,rfl,k _ (a0.trans (s'.trans (h6.trans a4)))⟩
 have c0:cs≠[]:=λ e=>c0 (decide_eq_true (congrArg V.str (fn.mpr e)))
 have Z:=Y _ _ hl;have sp:XG (Gr cs) (Z3 ", ")=cs.map λ r=>Bw [r.1,r.2]:=by rw [f9 c0,sr c0]
 refine ⟨_,rfl,rfl,_,_,rfl,rfl,rfl,Zo (US f8 2) (by decide),λ b4 h8=>?_⟩
 rw [sp];have h9:=Am h8 (.lst ((cs.map λ r=>Bw [r.1,r.2]).map V.str))
 have a2:upd b8 b4 (.lst ((cs.map λ r=>Bw [r.1,r.2]).map V.str)) b4=some (.lst ((cs.map λ r=>Bw [r.1,r.2]).map V.str)):=Ar
 generalize upd b8 b4 (.lst ((cs.map λ r=>Bw [r.1,r.2]).map V.str))=k0 at h9 a2 ⊢
 have d1:=Y.trans h9;refine ⟨b4,rfl,⟨_,SqL.of a2⟩,?_⟩;refine G6 (K:=K) (a:=b4) (xs:=(cs.map λ r=>Bw [r.1,r.2]).map V.str) (λ i U L=>∃c3 c4 c5 c6,U=[some (.ref o),some (.str x),some (.ref l),some (.str (Gr cs)),c3,c4,c5,c6]/\Same k0 L) ⟨_,_,_,_,rfl,Same.refl _⟩ ?_ ?_ ?_
 ·rintro i U L hi ⟨c3,c4,c5,c6,rfl,s'⟩
  exact SqL.of (s' _ _ a2)
 ·rintro i y U L hi ⟨c3,c4,c5,c6,rfl,s'⟩
  obtain ⟨r,i0,rfl⟩:∃r,cs[i]?=some r/\y=.str (Bw [r.1,r.2]):=by
   rw [ZN,ZN] at hi;cases e:cs[i]? with
   | none=>rw [e] at hi;cases hi
   | some r=>rw [e] at hi;cases hi;exact ⟨r,rfl,rfl⟩
  have i1:=ZB i0;obtain ⟨b1,b2⟩:=d8 r i1;obtain ⟨a3,k1⟩:=go r i1;refine ⟨_,rfl,[r.1,r.2],rfl,by simp,by show 2<=5;decide,all2 b1 b2,λ f5 b0 l2 i2 W i3=>?_⟩
  obtain ⟨e7,e8,rfl,e9,f0⟩:=i3.two;refine ⟨f5,_,rfl,SqL.of W,rfl,_,_,rfl,_,_,rfl,rfl,?_⟩;have t4:=d1.trans (s'.trans i2);have u:∀{a b:Rat},a<=b->decide (b < a)=false:=λ h=>decide_eq_false (xi.mpr h)
  refine ⟨_,rfl,_,rfl,l,_,_,D,rfl,rfl,SqL.of (t4 _ _ hl),Bh (j:=0) rfl,_,_,.cons e9 (.cons (d3.keep t4) .nil),⟨r.1,z.a,rfl,b1.sm (by decide),g.a.sm (by decide),rfl⟩,λ l3 l4 f1 i4=>?_⟩
  obtain rfl:=i4.bl_of;refine ⟨_,rfl,BL (u a3.1) ?_⟩;have t5:=t4.trans f1;refine ⟨_,rfl,l,_,_,G,rfl,rfl,SqL.of (t5 _ _ hl),Bh (j:=1) rfl,_,rfl,_,_,.cons (d4.keep t5) (.cons (e9.keep f1) .nil),⟨z.b,r.1,rfl,g.b.sm (by decide),b1.sm (by decide),rfl⟩,λ l5 c1 i5 i6=>?_⟩
  obtain rfl:=i6.bl_of;refine ⟨_,rfl,BL (u a3.2.1) ?_⟩;have k2:=t5.trans i5;have i7:=f1.trans i5;refine ⟨_,rfl,_,rfl,_,rfl,_,rfl,(by show 2<=Y3;decide),λ X b3=>?_⟩
  have a4:=Am b3 (.lst [e7,e8]);have a1:=i7.trans a4;have c2:DV K (upd c1 X (.lst [e7,e8])) (.ref X) (.list ([r.1,r.2].map Aj)):=.lst (SqL.of Ar) (.cons (e9.keep a1) (.cons (f0.keep a1) .nil));generalize upd c1 X (.lst [e7,e8])=l6 at a4 c2 a1 ⊢;have i8:=k2.trans a4;refine ⟨o,b6,d,q,x,j3,n,ps,.ref X,r.1,r.2,rfl,b7.keep i8,nx,sx,c2,b1,b2,λ t l7 i9 M=>⟨_,rfl,?_⟩⟩
  obtain rfl:t=true:=M.mpr (.inr k1);refine BL rfl ?_;have f2:=i8.trans i9;have b5:=a1.trans i9;refine ⟨_,rfl,_,rfl,l,_,_,I,rfl,rfl,SqL.of (f2 _ _ hl),Bh (j:=2) rfl,_,_,.cons (f0.keep b5) (.cons (d5.keep f2) .nil),⟨r.2,z.c,rfl,b2.sm (by decide),g.c.sm (by decide),rfl⟩,λ l8 l9 f3 j0=>?_⟩
  obtain rfl:=j0.bl_of;refine ⟨_,rfl,BL (u a3.2.2.1) ?_⟩;have j1:=f2.trans f3;refine ⟨_,rfl,l,_,_,J,rfl,rfl,SqL.of (j1 _ _ hl),Bh (j:=3) rfl,_,rfl,_,_,.cons (d6.keep j1) (.cons (f0.keep (b5.trans f3)) .nil),⟨z.d,r.2,rfl,g.d.sm (by decide),b2.sm (by decide),rfl⟩,λ k7 k8 j2 f4=>?_⟩
  obtain rfl:=f4.bl_of;refine ⟨_,rfl,BL (u a3.2.2.2) ?_⟩;exact ⟨_,_,_,_,rfl,s'.trans (i2.trans (b5.trans (f3.trans j2)))⟩
 ·rintro U L ⟨c3,c4,c5,c6,rfl,s'⟩
  exact k _ (d1.trans s')
theorem AL4 (T:Txt K mg ad)(e3:w.params=ad.pr):CalB P w K mg base true 19 "_law_lamp" ["_law_desk","_law_name","_law_bench","_law_lamp_here","_law_slants"] (jD K ad.Desk):=by
 refine T.Vx.calN Hl (λ _ _ _ _ _ _=>uK λ _ _ _ _ _=>rfl) (λ vs H Q E h=>?_) (λ f p5 A outer s H vs Q E r h=>?_)
 ·obtain ⟨_,_,_,_,_,_,_,_,_,_,_,_,_,_,rfl,_⟩:=h;rfl
 obtain ⟨o,Y,d,q,x,o3,n,ps,r5,c2,ls,r6,r7,z,rfl,e4,i1,r8,nx,sx,ok,o4,c3,k8,a7,k9,g,k,o5⟩:=h;obtain ⟨O,L,rfl,l0,i2⟩:=k8.two;obtain ⟨C,Z,rfl,i3,l1⟩:=k9.two;have r9:=nx.len;have s0:(Z3 "sharp ").length=6:=by decide+kernel
 have s1:(Z3 "image ").length=6:=by decide+kernel
 have s2:(Z3 " ").length=1:=by decide+kernel
 have a8:∀{z:Rat},Bd 12 z->Bd 1900 z:=λ h=>h.mono (by decide)
 have l2:Bd 12 (0:Rat):=Ff _ (by decide)
 have l3:∀t∈[z.h,z.s,z.f,z.l,0],Bd 12 t:=λ t G=>by
  simp only [X2,YN,or_false] at G;rcases G with rfl | rfl | rfl | rfl | rfl
  ·exact g.h
  ·exact g.s
  ·exact g.f
  ·exact g.l
  ·exact l2
 have c4:∀t∈[z.h,z.s,z.f,z.l,0],Bd 1900 t:=λ t G=>a8 (l3 t G)
 have s3:=Gm c4 (by show 5<=5;decide)
 have s4:=Kf (a8 g.s);refine ⟨_,(Ag (Ax (i:=5) Hl.nd (Cd (k:=16) (pv 0) r.m (CP (Aw Cm (Aw Cm (Aw Cm Ba (pv 1)) Ba) (Ai (Vr T) r.m Ah (CP (Aw Gs (Aw Gs (pv 3) (pv 4)) (CN (Ez (Bp (Bf Ac (Bf Ac Aa))) Aa))) Aa))) Aa))) (Ag (Ax (i:=6) Hl.nd (Cd (k:=16) (pv 0) r.m (CP (Aw Cm (Aw Cm (Aw Cm Ba (pv 1)) Ba) (Ai (Yw T) r.m Ah (Ao (Ae Az (pv 3) Ac) Aa))) Aa))) (Ag (BP (PW.pt (pw_or (BW By (pv 5) Ba) (pw_or1 (BW (Gh r.units) (Ae Az (pv 4) Ac) (Ae Az (pv 4) Ac))))) (Ak (Av (Dr iJ (pv 5) (Bp (Bf Ba (Bf Ba Aa)))))) BR) (Ag (BP (PW.pt (pw_or (BW By (pv 5) Ba) (pw_or1 (BW By (pv 6) Ba)))) (Ak (Av (aP (Gw (Dr By (pv 6) Ba) (Ga (Dr By (pv 5) Ba))) (Ga (Dr By (pv 5) Ba))))) BR) (Ag (Gz (Ce YD XY Wx Gy (pv 6) (Bf Ba Aa)) (W0 (n:=2) rfl (Du (Bq (i:=7) Hl.nd) (Du (Bq (i:=8) Hl.nd) Gp)))) (Ag (BP (BW Ey (pv 5) (Aw Cm (Aw Cm (pv 7) Ba) (pv 7))) (Ak (Av Cu)) BR) (Ag (BP (CQ (Bk (Ai (gK T) r.m Ah (Hn (CN (Bc (Ai (pQ T) r.m Ah (Ad (pv 7) Aa)) Aa)) Aa)))) (Ak (Av Cu)) BR) (Ag (Ax (i:=9) Hl.nd (Ai (au T) r.m Ah (CP (Aw Gs (Fz ["_law_piece_here"] [none] rfl (Dc (pv 2)) (λ _ _ _ _ _=>(Bq (i:=0) (show UB [("_law_piece_here":Str)] by decide))) (λ _ _ _ _ _=>(XX (BW Ey (Ae (YW (K:=K)) (pv 0) Ac) Ba))) (λ _ _ _ _ _=>(pv 0)) (Fw (by decide) (by decide)) (by decide) rfl (by decide) rfl (G3 rfl)) (CN (Ez (Bp (Bf Ba (Bc (Ai (pQ T) r.m Ah (Ad (pv 7) Aa)) Aa))) Aa))) Aa))) (Ag (BP (BW Ey (Cd (k:=16) (pv 0) r.m (CP (Aw Cm Ba (pv 9)) Aa)) Ba) (Ak (Av Cu)) BR) (Ag (Ax (i:=10) Hl.nd (Ai (Xh T) r.m Ah (Ao (Ae Az (pv 3) Ac) (Bc (Ai (AR8 T) r.m Ah (Ao (Ae Az (pv 3) Ac) (Ao (Ae Az (pv 4) Ac) Aa))) Aa)))) (Ag (Ax (i:=11) Hl.nd (Cd (k:=16) (pv 0) r.m (CP (Aw Cm Ba (Ai (Vr T) r.m Ah (Hn (CN (Ad (pv 10) (Ao (Ae Az (pv 4) Ac) Aa))) Aa))) Aa))) (Ak (Av (Dr (Gh r.units) (Ae Az (Ai (lJ T) r.m Ah (Ao (Em Ju (pv 11) (Dy Ac) Fj) Aa)) Ac) (Ai (AR8 T) r.m Ah (Bc (Ai (pQ T) r.m Ah (Ad (pv 8) Aa)) (Ao (Ae Az (pv 3) Ac) Aa))))))))))))))))),?_⟩
 refine ⟨_,rfl,o,_,Y,_,_,_,rfl,e4.o,rfl,AP3 T e3,_,rfl,_,_,rfl,rfl,CW (by omega),_,_,rfl,rfl,CW (by rw [Ck];omega),?_⟩
 refine ⟨_,rfl,_,rfl,c2,ls,_,_,rfl,rfl,c3,a7,(by show 4<=Y3;decide),λ e5 f6=>?_⟩
 have i4:=Am f6 (.lst ([O,L]++[C,Z]));have b8:upd H e5 (.lst ([O,L]++[C,Z])) e5=some (.lst [O,L,C,Z]):=Ar;generalize upd H e5 (.lst ([O,L]++[C,Z]))=l4 at i4 b8 ⊢;refine ⟨(by show 2<=Y3;decide),λ M f7=>?_⟩
 have e6:=Am f7 (.tup [.int 0,.int 1]);have i5:DV K (upd l4 M (.tup [.int 0,.int 1])) (.ref M) (Aj 0):=.tup (SqT.of Ar) (.cons (.int 0) (.cons (.int 1) .nil));generalize upd l4 M (.tup [.int 0,.int 1])=l5 at e6 i5 ⊢;refine ⟨(by show 1<=Y3;decide),λ e7 f8=>?_⟩
 have c5:=Am f8 (.lst [.ref M]);have i6:upd l5 e7 (.lst [.ref M]) e7=some (.lst [.ref M]):=Ar;generalize upd l5 e7 (.lst [.ref M])=l6 at c5 i6 ⊢;refine ⟨e5,e7,_,_,rfl,rfl,c5 _ _ (e6 _ _ b8),i6,(by show 5<=Y3;decide),λ i7 f9=>?_⟩
 have e8:=Am f9 (.lst ([O,L,C,Z]++[.ref M]));have t4:=i4.trans (e6.trans (c5.trans e8));have i8:DV K (upd l6 i7 (.lst ([O,L,C,Z]++[.ref M]))) (.ref i7) (.list ([z.h,z.s,z.f,z.l,0].map Aj)):=.lst (SqL.of Ar) (.cons (l0.keep t4) (.cons (i2.keep t4) (.cons (i3.keep t4) (.cons (l1.keep t4) (.cons (i5.keep (c5.trans e8)) .nil)))));generalize upd l6 i7 (.lst ([O,L,C,Z]++[.ref M]))=s5 at e8 t4 i8 ⊢;refine ⟨_,[z.h,z.s,z.f,z.l,0],rfl,.inl i8,c4,by show 5<=60;decide,λ s6 l7=>?_⟩
 refine ⟨_,_,rfl,rfl,CW (by rw [Ck,Ck];omega),?_⟩
 rw [Kr (u:=Z3 "sharp") (by decide+kernel)]
 have t5:=t4.trans l7;refine ⟨o,Y,d,q,x,o3,n,ps,[z.h,z.s,z.f,z.l,0],_,rfl,e4.keep t5,nx,sx,rfl,(λ t G=>NB (l3 t G) (by decide)),(λ _=>⟨0,rfl,JC⟩),⟨ok,z,0,rfl,g,JC,l2,rfl⟩,λ s7 l8=>?_⟩
 have c6:=t5.trans l8;have c7:=e4.keep c6;refine ⟨_,rfl,o,_,Y,_,_,_,rfl,c7.o,rfl,AV1 T e3,_,rfl,_,_,rfl,rfl,CW (by omega),_,_,rfl,rfl,CW (by rw [Ck];omega),?_⟩
 refine ⟨_,rfl,c2,_,_,L,rfl,rfl,SqL.of (c6 _ _ c3),Bh (j:=1) rfl,L,z.s,rfl,i2.keep c6,a8 g.s,?_⟩;refine ⟨_,_,rfl,rfl,CW (by rw [Ck,Ck];omega),?_⟩
 rw [<- AH8 z.s,Kr (u:=Z3 "image") (by decide+kernel)]
 refine ⟨o,Y,d,q,x,o3,n,ps,[z.s],_,rfl,c7,nx,sx,rfl,(λ t G=>by rw [W1.mp G];exact NB g.s (by decide)),(λ e=>absurd e (by decide+kernel)),⟨ok,z.s,rfl,g.s,rfl⟩,λ e9 l9=>?_⟩
 have N:=c6.trans l9;clear i4 e6 c5 e8 t4 t5 c6 i5 i8 b8 i6 c7 l7 l8 l9 f6 f7 f8 f9;have sd:∀t:Y1,t=Z3 "dark"\/t=Z3 "all"->inV (.str t) [.str (Z3 "dark"),.str (Z3 "all")]=true:=λ t h=>by
  rcases h with rfl | rfl<;>decide+kernel
 have m0:∀p∈ps,p.ok:=λ p R=>(ok.2 p R).1.1
 refine ⟨_,rfl,rfl,_,rfl,ite2 (λ a0=>Bj rfl ?_) (λ a0=>?_)⟩
 ·have a0:El ps z 0=Z3 "dark":=V.str.inj (of_decide_eq_true a0);refine ⟨_,rfl,(by show 2<=Y3;decide),λ p R=>⟨p,_,rfl,.inr (SqT.of Ar),rfl,rfl,?_⟩⟩
  show Q (.bl (inV _ _)) _;rw [sd _ (.inl a0)];exact k _ (N.trans (Am R _))
 have a0:El ps z 0≠Z3 "dark":=λ e=>a0 (decide_eq_true (congrArg V.str e))
 refine ⟨_,rfl,ls,_,_,C,rfl,rfl,SqL.of (N _ _ a7),Bh (j:=0) rfl,_,rfl,ls,_,_,Z,rfl,rfl,SqL.of (N _ _ a7),Bh (j:=1) rfl,?_⟩;refine Xo (i3.keep N) (l1.keep N) ⟨_,rfl,ite2 (λ m1=>?_) (λ m1=>?_)⟩
 ·refine ⟨_,rfl,(by show 2<=Y3;decide),λ p R=>⟨p,_,rfl,.inr (SqT.of Ar),rfl,rfl,?_⟩⟩
  show Q (.bl (inV _ _)) _;rw [sd _ (vX m0 (of_decide_eq_true m1))];exact k _ (N.trans (Am R _))
 refine ⟨_,rfl,rfl,_,rfl,ite2 (λ S=>Bj rfl ?_) (λ S=>?_)⟩
 ·have g0:∀{t u:Y1},V.str t=V.str u->Q (.bl (decide (V.str t=V.str u))) e9:=λ e=>by rw [decide_eq_true e];exact k _ N
  have S:=of_decide_eq_true S;exact ⟨_,rfl,rfl,_,rfl,ite2 (λ c1=>⟨_,rfl,rfl,_,rfl,ite2 (λ o6=>k _ N) (λ o6=>⟨_,rfl,rfl,g0 S⟩)⟩) (λ c1=>⟨_,rfl,BL rfl ⟨_,rfl,rfl,g0 S⟩⟩)⟩
 have S:El ps z 0≠Z3 "all":=λ e=>S (decide_eq_true (congrArg V.str e))
 refine ⟨_,rfl,rfl,_,rfl,?_⟩;rcases AJ2 (tabOf ps) z.s with ⟨a3,i9⟩ | ⟨a3,i9,o7⟩
 ·rw [i9];have o8:=xO a3 a0 S;refine Bj (decide_eq_true rfl) ?_;rw [o8];exact ⟨_,rfl,rfl,_,rfl,Bj (decide_eq_true rfl) ⟨_,rfl,rfl,_,rfl,Bj (decide_eq_true rfl) (k _ N)⟩⟩
 refine BL (decide_eq_false λ e=>o7 (V.str.inj e)) ?_
 have es:=AO7 a3 a0 S;obtain ⟨c8,f0⟩:=aY ok g.s (show img (tabOf ps) z.s=some (mid (tabOf ps) z.s) from if_neg a3)
 have f1:=vH (ps:=ps) (h:=z.h) (s:=z.s) (u:=z.f) a3;rw [i9,es];generalize s8:mid (tabOf ps) z.s=m at c8 f1 ⊢;generalize s9:1 / (spread (tabOf ps) z.s).2=j0 at f0 f1 ⊢;have m2:=all2 c8 f0;have p6:=Kf c8;refine ⟨_,rfl,rfl,_,_,rfl,rfl,rfl,Zo (US (Gm m2 (by show 2<=5;decide)) 2) (by decide),λ c9 m3=>?_⟩
 rw [jq (by simp)]
 have m4:=Am m3 (.lst [.str (Ay m),.str (Ay j0)]);have b8:upd e9 c9 (.lst [.str (Ay m),.str (Ay j0)]) c9=some (.lst [.str (Ay m),.str (Ay j0)]):=Ar;show Sw K 2 _ _ _ (upd e9 c9 (.lst [.str (Ay m),.str (Ay j0)])) _;generalize upd e9 c9 (.lst [.str (Ay m),.str (Ay j0)])=t0 at m4 b8 ⊢;refine ⟨c9,_,rfl,SqL.of b8,rfl,_,_,rfl,_,_,rfl,rfl,?_⟩;have o9:=N.trans m4;refine ⟨_,rfl,_,rfl,_,_,rfl,rfl,CW (by omega),_,rfl,_,_,rfl,rfl,CW (by rw [Ck];omega),?_⟩
 rw [z8];refine ⟨rfl,_,rfl,BL (by rw [decide_eq_true rfl];rfl) ?_⟩
 refine ⟨_,rfl,m,rfl,c8,λ j1 m5 p0 m6=>⟨(by show 1<=Y3;decide),λ a9 j2=>?_⟩⟩
 have d0:=Am j2 (.lst [j1]);have g1:DV K (upd m5 a9 (.lst [j1])) (.ref a9) (.list ([m].map Aj)):=.lst (SqL.of Ar) (.cons (m6.keep d0) .nil);generalize upd m5 a9 (.lst [j1])=p7 at d0 g1 ⊢;refine ⟨.ref a9,[m],rfl,g1,by show 1<=60;decide,λ b g2 m7 hf=>⟨_,rfl,?_⟩⟩
 have a1:=o9.trans (p0.trans (d0.trans m7));cases b with
 | false=>exact Bj rfl (k _ a1)
 | true=>
 refine BL rfl ?_;have sm:Short m:=(hf.mp rfl).short m (by simp)
 obtain ⟨m8,xs,rfl,g3,g4⟩:=DV.lst_of o4;have p1:xs.length=ps.length:=by have:=g4.len;rw [Y2] at this;exact this
 have p8:=ok.1;refine ⟨_,rfl,m8,rfl,⟨_,g3.keep a1⟩,?_⟩;refine Pq (K:=K) (a:=m8) (xs:=xs) (λ i f2 v b9=>(∃c0,f2=[c0])/\b9=g2/\DVs K g2 v ((Cj (ps.take i)).map CV)) ⟨⟨_,rfl⟩,rfl,.nil⟩ ?_ ?_ ?_
 ·rintro i f2 v b9 hi ⟨⟨c0,rfl⟩,rfl,dv⟩
  have e1:=dv.len;have e2:=j5 (ps.take i);rw [Y2] at e1;rw [YR] at e2;exact ⟨XT (small1000 (by omega)),g3.keep a1⟩
 ·rintro i y f2 v b9 hi ⟨⟨c0,rfl⟩,rfl,dv⟩
  obtain ⟨dd,hd,a4⟩:=g4.get hi;rw [ZN] at hd;obtain ⟨p,R,rfl⟩:=QE.mp hd;have a4:=a4.keep a1;have pt:=AO1 R;cases p with
  | gap g'=>
   have d1:=a4;obtain ⟨a,m9,rfl,a5,a2⟩:=DV.tup_of a4;obtain ⟨f3,j3,rfl,e1,e2⟩:=a2.two;obtain rfl:=DV.str_of e1;refine ⟨_,rfl,a,_,_,_,rfl,rfl,a5,Dv,rfl,_,rfl,Bj (by decide+kernel) ⟨_,rfl,L2.nx (CT hi) ⟨⟨_,rfl⟩,rfl,?_⟩⟩⟩
   rw [pt,if_neg (by simp [Pc.isStop]),U4]
   exact dv.append (.cons d1 .nil)
  | glass g'=>
   have d1:=a4;obtain ⟨a,m9,rfl,a5,a2⟩:=DV.tup_of a4;obtain ⟨f3,j3,rfl,e1,e2⟩:=a2.two;obtain rfl:=DV.str_of e1;refine ⟨_,rfl,a,_,_,_,rfl,rfl,a5,Dv,rfl,_,rfl,Bj (by decide+kernel) ⟨_,rfl,L2.nx (CT hi) ⟨⟨_,rfl⟩,rfl,?_⟩⟩⟩
   rw [pt,if_neg (by simp [Pc.isStop]),U4]
   exact dv.append (.cons d1 .nil)
  | stop lo n0=>
   obtain ⟨a,m9,rfl,a5,a2⟩:=DV.tup_of a4;obtain ⟨f3,j3,t1,rfl,e1,e2,t2⟩:=a2.three;obtain rfl:=DV.str_of e1;refine ⟨_,rfl,a,_,_,_,rfl,rfl,a5,Dv,rfl,_,rfl,BL (by decide+kernel) (L2.nx (CT hi) ⟨⟨_,rfl⟩,rfl,?_⟩)⟩
   rw [pt,if_pos (show (Pc.stop lo n0).isStop=true from rfl)]
   exact dv
 rintro f2 v b9 b0 ⟨⟨c0,rfl⟩,rfl,dv⟩ j4
 rw [p1,YU] at dv;have d2:=Am j4 (.lst v);have g5:upd b9 b0 (.lst v) b0=some (.lst v):=Ar;have dv:=dv.keep d2;generalize upd b9 b0 (.lst v)=p9 at d2 g5 dv ⊢;refine ⟨_,rfl,m,rfl,c8,λ d3 g6 n1 j6=>⟨(by show 2<=Y3;decide),λ B j7=>?_⟩⟩
 have d4:=Am j7 (.tup [.str (Z3 "gap"),d3]);have g7:DV K (upd g6 B (.tup [.str (Z3 "gap"),d3])) (.ref B) (CV (.gap m)):=.tup (SqT.of Ar) (.cons (.str _) (.cons (j6.keep d4) .nil));generalize upd g6 B (.tup [.str (Z3 "gap"),d3])=g8 at d4 g7 ⊢;refine ⟨(by show 1<=Y3;decide),λ b1 j8=>?_⟩
 have d5:=Am j8 (.lst [.ref B]);have g9:upd g8 b1 (.lst [.ref B]) b1=some (.lst [.ref B]):=Ar;generalize upd g8 b1 (.lst [.ref B])=h0 at d5 g9 ⊢;have U:=n1.trans (d4.trans d5);have pl:=j5 ps;have t3:v.length=(Cj ps).length:=by have:=dv.len;rw [Y2] at this;exact this
 refine ⟨b0,b1,_,_,rfl,rfl,U _ _ g5,g9,(by simp only [X9,YG];exact Zo (show _<=10 by omega) (by decide)),λ b2 j9=>?_⟩
 have b3:=Am j9 (.lst (v++[.ref B]));have h1:DV K (upd h0 b2 (.lst (v++[.ref B]))) (.ref b2) (Ec (Cj ps++[Pc.gap m])):=by
  refine .lst (SqL.of Ar) ?_;rw [U4];exact (dv.keep (U.trans b3)).append (.cons (g7.keep (d5.trans b3)) .nil)
 generalize upd h0 b2 (.lst (v++[.ref B]))=q0 at b3 h1 ⊢;have J:OkB (Cj ps++[Pc.gap m]):=by
  refine ⟨by rw [X1];show _+1<=8;omega,λ p R=>?_⟩
  rcases YE.mp R with h | h
  ·exact (ok.2 p (UN.mp h).1).1
  ·rw [W1.mp h];exact ⟨trivial,λ q i1=>by rw [W1.mp i1];exact sm⟩
 refine ⟨.ref b2,Cj ps++[Pc.gap m],rfl,h1,Zo J.1 (by decide),J.pbig,λ n2 n3=>?_⟩
 have D:=a1.trans (d2.trans (U.trans (b3.trans n3)));have a6:=e4.keep D;have t6:=Lg (Zo J.1 (by decide)) J.sh
 have q1:(Z3 "bench seen ").length=11:=by decide+kernel
 refine ⟨_,rfl,o,_,Y,_,_,_,rfl,a6.o,rfl,lL T e3,_,rfl,_,_,rfl,rfl,(by exact Zo (show _<=20100 by omega) (by decide)),?_⟩
 rw [tX];refine ⟨o,Y,d,q,Z3 "seen",o3,n,Cj ps++[Pc.gap m],rfl,a6,(λ a a5=>(i1 a a5).imp λ z a3=>D _ _ a3),by omega,aV,J,λ n4 d6 d7=>⟨rfl,_,rfl,BL (by decide+kernel) ?_⟩⟩
 obtain ⟨q2,n5,_,_⟩:=a6.d;have st:=oA n5 d6;have h2:∀{a:Addr} {v:List V},n2 a=some (.lst v)->n4 a=some (.lst v):=λ {a v} h=>d6 _ _ (λ e=>by rw [e,n5] at h;cases h) h
 have W:=h2 (D _ _ c3);have b4:=h2 (D _ _ a7);have n6:=Fg st rfl (l0.keep D);have p2:=Fg st rfl (i2.keep D);have n7:=Fg st rfl (i3.keep D);have h3:Bd 24 (z.s * z.f):=g.s.mul g.f;have h4:Bd 37 (z.h+z.s * z.f):=g.h.add h3;refine ⟨_,rfl,c2,_,_,O,rfl,rfl,SqL.of W,Bh (j:=0) rfl,_,rfl,c2,_,_,L,rfl,rfl,SqL.of W,Bh (j:=1) rfl,_,rfl,ls,_,_,C,rfl,rfl,SqL.of b4,Bh (j:=0) rfl,_,_,.cons p2 (.cons n7 .nil),⟨z.s,z.f,rfl,g.s.sm (by decide),g.f.sm (by decide),rfl⟩,λ q3 q4 h5 k0=>?_⟩
 refine ⟨_,_,.cons (n6.keep h5) (.cons k0 .nil),⟨z.h,z.s * z.f,rfl,g.h.sm (by decide),h3.sm (by decide),rfl⟩,λ d8 h6 n8 k1=>?_⟩
 have I:=h5.trans n8;have d9:=d7.keep I;have f4:=I _ _ b4;have h7:=all2 (h4.mono (show 37<=1900 by decide)) (a8 g.f)
 have q5:=Gm h7 (by show 2<=5;decide)
 have q6:(Z3 "walk seen ").length=10:=by decide+kernel
 refine ⟨_,rfl,o,_,Y,_,_,_,rfl,d9.o,rfl,jW T e3,?_⟩;refine ⟨_,rfl,_,rfl,ls,_,_,C,rfl,rfl,SqL.of f4,Bh (j:=0) rfl,(by show 2<=Y3;decide),λ e0 k2=>?_⟩
 have b5:=Am k2 (.lst [d8,C]);have h8:DV K (upd h6 e0 (.lst [d8,C])) (.ref e0) (.list ([z.h+z.s * z.f,z.f].map Aj)):=.lst (SqL.of Ar) (.cons (k1.keep b5) (.cons (n7.keep (I.trans b5)) .nil));generalize upd h6 e0 (.lst [d8,C])=q7 at b5 h8 ⊢;refine ⟨_,[z.h+z.s * z.f,z.f],rfl,.inl h8,h7,by show 2<=60;decide,λ q8 n9=>?_⟩
 refine ⟨_,_,rfl,rfl,CW (by omega),?_⟩
 rw [za];have k3:=NB h4 (by decide)
 have k4:=NB g.f (by decide)
 have b6:=b5.trans n9;refine ⟨o,Y,d,q,Z3 "seen",_,_,Cj ps++[Pc.gap m],[z.h+z.s * z.f,z.f],_,rfl,d9.keep b6,aV,(by unfold setB;rw [if_pos rfl]),rfl,(λ t G=>by
  rcases X2.mp G with rfl | G
  ·exact k3
  ·rw [W1.mp G];exact k4),(λ e=>absurd e (by decide+kernel)),⟨_,_,rfl,k3,k4,rfl⟩,λ q9 o0=>?_⟩
 have rb:=Zk k3 k4;have bl:=Tj J rb;have p3:Hy (Cj ps++[Pc.gap m]) (z.h+z.s * z.f,z.f)=Z3 "by "++Bw [(G7 (Cj ps++[Pc.gap m]) (z.h+z.s * z.f,z.f)).1,(G7 (Cj ps++[Pc.gap m]) (z.h+z.s * z.f,z.f)).2]:=by
  unfold Hy;rw [f1.1]
 have t7:=bR J rb;refine ⟨_,rfl,_,rfl,_,rfl,CW (by omega),?_⟩
 rw [p3,vL];refine ⟨_,rfl,by simp,by show 2<=5;decide,all2 bl.1 bl.2,λ o1 p4 r0 o2 k5 f5=>?_⟩
 obtain ⟨f3,j3,rfl,e1,e2⟩:=f5.two;refine ⟨o1,_,_,f3,rfl,rfl,SqL.of k5,Bh (j:=0) rfl,?_⟩;refine ⟨_,rfl,j0,rfl,f0,λ r1 r2 h9 k6=>?_⟩
 have X:=I.trans (b6.trans (o0.trans (o2.trans h9)));refine ⟨_,rfl,c2,_,_,O,rfl,rfl,SqL.of (X _ _ W),Bh (j:=0) rfl,_,_,.cons k6 (.cons (n6.keep X) .nil),⟨j0,z.h,rfl,f0.sm (by decide),g.h.sm (by decide),rfl⟩,λ r3 r4 i0 k7=>?_⟩
 refine Xo (e1.keep (h9.trans i0)) k7 ?_;rw [decide_eq_true f1.2];have b7:=X.trans i0;exact o5 _ _ ((Lib.SD.ofSame D).trans (d6.trans (Lib.SD.ofSame b7))) (d7.keep b7)
theorem wR (T:Txt K mg ad)(d6:w.params=ad.pr){f1:Addr}{fd:UK}(j4:Fun K "law" "law" Li f1 fd):FnB P w K mg base true 20 f1 fd ["_law_script"] (spLaw K):=by
 refine j4.okB Gg (λ vs H Q E h=>?_) (λ i8 A outer s H vs Q E p h=>?_)
 ·obtain ⟨a,ns,rfl,_⟩:=h;rfl
 obtain ⟨a,ns,rfl,d7,i9,k⟩:=h;refine ⟨_,(Ag (Ax (i:=1) Gg.nd (Ai (xH T) p.m Ah (Ad (pv 0) (Bf Ac Aa)))) (Ag (Ax (i:=2) Gg.nd (Aw Eb (Ai (zq T) p.m Ah (Ad (pv 0) (Bf Ac Aa))) Ac)) (Ag (Gz (Ai (AZ8 T d6) p.m Ah (Ad (pv 1) (Ad (pv 2) (Bf Ac Aa)))) (W0 (n:=3) rfl (Du (Bq (i:=3) Gg.nd) (Du (Bq (i:=4) Gg.nd) (Du (Bq (i:=5) Gg.nd) Gp))))) (Ag (BP (BW Mx (pv 3) Fl) (Ak (Av Cu)) BR) (Ag (Df YI rfl (Dc (Aw Gs (Em Ja (pv 0) (Dy Ac) (Dy Ac)) (CN (Bc (Br DX rfl T.len DG (Ad (pv 0) Aa)) Aa)))) (Bq (i:=6) Gg.nd) (Ag (Ax (i:=7) Gg.nd (Aw Eb (pv 6) (Br DX rfl T.len DG (Ad (pv 5) Aa)))) (Ag (Ax (i:=8) Gg.nd (CN (Bc (Ai (Xb T) p.m Ah (Ad (pv 1) (Bf Cu Aa))) (Bc (Ai (Xb T) p.m Ah (Ad (pv 1) (Bf Cu Aa))) Aa)))) (Ag (Ax (i:=9) Gg.nd (Ai (zP T) p.m Ah (Ad (pv 1) Aa))) (Ag (BP (CQ (Bk (Ai (AR6 T d6) p.m Ah (Ad (pv 3) (Ao (Ae Az (pv 4) (pv 7)) (Ad (pv 9) Aa)))))) (Ak (Av Cu)) BR) (Ak (BP (CQ (Bk (Ai (AL4 T d6) p.m Ah (Ad (pv 3) (Ao (Ae Az (pv 4) (pv 7)) (Ao (Ae Az (pv 5) (pv 7)) (Ad (pv 8) (Ao (Em Ja (pv 9) (Dy Ac) Fj) Aa)))))))) (Ak (Av Cu)) BR))))))) (Ak (Av Cu))))))),?_⟩
 refine ⟨_,rfl,a,ns,113,rfl,d7,by decide,by decide,λ q c j5 d8 h5 nc c3=>?_⟩
 have c4:=d7.keep d8;refine ⟨_,rfl,a,ns,0,rfl,c4,by decide,λ z=>⟨_,_,rfl,rfl,(by show (0:Int) < 2147483647;decide),?_⟩⟩
 have c5:=UO z (show (2147483647:Int)≠0 by decide)
 have c6:=WV z (show (0:Int) < 2147483647 by decide)
 dsimp only
 generalize z % 2147483647=z at c5 c6 ⊢;refine ⟨_,rfl,_,rfl,q,c,10000,z,rfl,c3.le (by decide),c5,c6,λ r o d9 d a9 lb b0 n bs f2 b3 S c7 e0 f=>?_⟩
 refine ⟨r,_,rfl,SqL.of c7,rfl,_,_,rfl,_,_,rfl,_,_,rfl,rfl,?_⟩;have c8:Same H b3:=λ b o e=>S b o (Bt e h5) (Bt e nc) (d8 b o e)
 have U:=d7.keep c8;clear S c7 c4 d8 c3 c8;refine ⟨_,rfl,rfl,_,rfl,BL rfl ?_⟩;refine ⟨_,rfl,_,rfl,_,rfl,a,_,rfl,U,λ e3 c9=>?_⟩
 have W:=Am c9 (.lst (cutV (ns.map V.int) (some 1) (some 13)));have e4:=AP1 (ns.map V.int) 1 13
 change (cutV (ns.map V.int) (some 1) (some 13)).length<=_ at e4
 have e5:=AW7 ns (some 1) (some 13);generalize cutV (ns.map V.int) (some 1) (some 13)=g at W e4 e5 ⊢;refine ⟨_,rfl,a,_,rfl,.inl (U.keep W),(by show 1<=Y3;decide),λ e6 d0=>?_⟩
 generalize j6:(((ns.map V.int).length:Nat):Int)=nn;have b4:=Am d0 (.lst [.int nn]);refine ⟨e3,e6,_,_,rfl,rfl,b4 _ _ Ar,Ar,XT (small1000 (by simp only [X9,YG];omega)),λ u J=>⟨u,rfl,⟨_,SqL.of Ar⟩,?_⟩⟩
 have f3:=Am J (.lst (g++[.int nn]));have t3:=W.trans (b4.trans f3);have X:=f.keep (W.trans b4);have f4:u≠q:=X.dr.nd J;have f5:u≠c:=X.dr.nc J;have f6:∀x∈g++[V.int nn],∃z:Int,x=.int z:=λ x h6=>by
  rcases YE.mp h6 with h | h
  ·exact e5 x h
  ·exact ⟨nn,W1.mp h⟩
 have f7:(g++[V.int nn]).length<=13:=by rw [X1];simp only [X9,YG];omega
 have D:upd (upd (upd b3 e3 (.lst g)) e6 (.lst [.int nn])) u (.lst (g++[.int nn])) u=some (.lst (g++[.int nn])):=Ar;have f:=f.keep t3;generalize upd (upd (upd b3 e3 (.lst g)) e6 (.lst [.int nn])) u (.lst (g++[.int nn]))=b5 at D f ⊢;generalize g++[V.int nn]=f8 at f6 D f7 ⊢;clear W b4 f3 t3 X c9 d0 J U e5 e4;refine G6 (K:=K) (a:=u) (xs:=f8) (λ i b6 Y=>∃b7 b8 b9 c0 b0 n,b6=[some (.ref a),some (.ref q),some (.int z),some (.ref o),some (.ref a9),some (.ref lb),b7,b8,b9,c0]/\Lw74 K Y ad.Desk o d9 d a9 lb q c (10000 - 42 * i) b0 n z bs f2/\n<=3+i/\Y u=some (.lst f8)) ⟨_,_,_,_,b0,n,rfl,f,by omega,D⟩ ?_ ?_ ?_
 ·rintro i b6 Y hi ⟨b7,b8,b9,c0,b0,n,rfl,f,e0,B⟩
  exact SqL.of B
 ·rintro i v b6 Y hi ⟨b7,b8,b9,c0,b0,n,rfl,f,e0,B⟩
  have j0:=CT hi;obtain ⟨y,rfl⟩:=f6 v (ZB hi);have j7:=f.m.2;have d1:(0:Int) < (((bs.map V.ref).length:Nat):Int):=by rw [Y2];have:=f.m.1;omega
  refine ⟨_,rfl,_,rfl,lb,_,rfl,.inl (SqL.of f.hl),_,_,rfl,rfl,d1,?_⟩;dsimp only
  obtain ⟨j,h7,c1⟩:∃j:Nat,y % (((bs.map V.ref).length:Nat):Int)=(j:Int)/\j < bs.length:=sI y d1;rw [h7];have d2:DrG Y q c (10000 - 42 * (i+1)+28+7+7):=f.dr.le (by omega)
  refine ⟨_,rfl,q,c,_,false,rfl,d2,λ F b3 f9 Z S g0 b1=>?_⟩
  refine ⟨_,rfl,q,c,_,false,rfl,Z,λ G b5 g1 L e7 g2 b2=>?_⟩
  refine ⟨(by show 2<=Y3;decide),λ I c2=>?_⟩
  have a0:=Am c2 (.lst [F,G]);have e8:upd b5 I (.lst [F,G]) I=some (.lst [F,G]):=Ar;have a1:DVs K (upd b5 I (.lst [F,G])) [F,G] ([f9,g1].map Aj):=.cons ((Fg (Z.t e7) rfl g0).keep a0) (.cons (g2.keep a0) .nil);have M:=L.keep a0;have N:=S.trans (e7.trans (a0.se q c));have g3:I≠q:=L.nd c2;have g4:I≠c:=L.nc c2;generalize upd b5 I (.lst [F,G])=j8 at e8 a1 M N ⊢;refine ⟨_,rfl,q,c,_,rfl,M,λ g5 xs h8 h9 g6 xd j9 g7 a2 j1 d3 d4 d5 a3=>?_⟩
  have O:=f.draw g7 (N.trans a2);have e9:=(N.trans a2) _ _ f4 f5 B;have i0:=a2 _ _ g3 g4 e8;have g8:=Cv (M.t a2) rfl a1;clear a0 e8 a1 M N L Z S e7 g0 g2 c2 B f d2 a2;have e1:∀{j:Nat},j < bs.length->((Wc 4).map λ k=>V.str (called z (k:Nat)))[j]?=some (.str (called z j)):=λ {j} c1=>by
   rw [ZN,List.getElem?_range (by omega)]
   rfl
  have e2:∀{j:Nat} {b:Addr},bs[j]?=some b->(bs.map V.ref)[j]?=some (.ref b):=λ {j b} e=>by rw [ZN,e];rfl
  obtain ⟨b,ps,i1,i2,ok,sx⟩:=O.ps c1;refine ⟨_,rfl,_,rfl,_,rfl,a9,_,_,_,rfl,rfl,SqL.of O.nm,Bh (e1 c1),_,rfl,?_⟩;refine ⟨o,d9,d,[q,c],called z j,b0,n,ps,g5,xs,Box.mk h8 h9 g6 xd,rfl,O.ds,Rz z (by omega) (by omega),sx,ok,d3,d4,d5,a3,λ g9 a4=>⟨_,rfl,BL rfl ?_⟩⟩
  have a5:=O.keep a4;have f0:=a4 _ _ e9;have h0:=i2.keep a4;obtain ⟨k0,k1,a6,a7,rfl,k2,k3,i3,i4⟩:=d4.four;refine ⟨_,rfl,_,rfl,_,rfl,a9,_,_,_,rfl,rfl,SqL.of a5.nm,Bh (e1 c1),_,rfl,_,rfl,lb,_,_,_,rfl,rfl,SqL.of a5.hl,Bh (e2 i1),_,rfl,_,rfl,_,rfl,g5,_,rfl,SqL.of (a4 _ _ d3),λ ls h1=>?_⟩
  rw [wJ];have a8:=Am h1 (.lst [a6,a7]);have h2:upd g9 ls (.lst [a6,a7]) ls=some (.lst [a6,a7]):=Ar;generalize upd g9 ls (.lst [a6,a7])=k4 at a8 h2 ⊢;have R:=a4.trans a8;have C:=a5.keep a8;have l:=a8 _ _ f0;refine ⟨o,d9,d,[q,c],called z j,b0,n,ps,.ref b,I,ls,[F,G],[a6,a7],Lamp.mk f9 g1 g6 xd,rfl,C.ds,C.there,by omega,Rz z (by omega) (by omega),sx,ok,(h0.keep a8).dv,R _ _ i0,g8.keep R,h2,.cons (i3.keep R) (.cons (i4.keep R) .nil),⟨b1,b2,a3.c,a3.d,xi.mpr d5.s⟩,λ i5 h3=>?_,λ j2 i5 sd h4=>?_⟩
  ·exact ⟨_,rfl,BL rfl ⟨_,_,_,_,b0,n,rfl,C.keep h3,by omega,h3 _ _ l⟩⟩
  ·obtain ⟨j3,i6,_,_⟩:=C.ds.d;exact ⟨_,rfl,BL rfl ⟨_,_,_,_,_,n+1,rfl,C.seen sd h4,by omega,sd _ _ (λ e=>by rw [e,i6] at l;cases l) l⟩⟩
 ·rintro b6 i7 ⟨b7,b8,b9,c0,b0,n,rfl,f,e0,B⟩
  exact k i7
theorem vQ {a:Addr}(d:TopFn K mg "law" Li)(b:mg "law"=some (.ref a)):∃fd,Fun K "law" "law" Li a fd/\∀(s:W9) (u:Value),NU s fd ⟨[u],[]⟩ [("_law_script",u)]:=by
 obtain ⟨f,fd,d,e⟩:=d.ex;cases b.symm.trans e
 obtain ⟨j,k,kV,g,m,n,h,ct,i,rfl,l,c⟩:=id d.ex;exact ⟨_,d,λ s u=>.of_eq rfl⟩
end
end K74
namespace K74
open PySem L2 Lib
theorem walk {l:PySem.W.OpenLaw}{q:Yf}{b:List Str}{i:(Str->Option Value)->Heap->Prop}{c:World->Heap->Prop}{d:DefRec}{K:GT->FrG}(j:l.most=some 63)(e:d.params.defaults=[])
  (m:∀(w:World) (h:Heap),c w h->(K w.params).In h)
  (p:∀(w:World) (mg:Str->Option Value) (g:Addr) (h:Heap),(K w.params).In h->h.Ns Zq mg->mg d.name=some (.ref g)->
   ∃fd:UK,(∀(s:W9) (u:Value),NU s fd ⟨[u],[]⟩ [("_law_script",u)])/\∀base:Heap,(K w.params).In base->base.Ns Zq mg->FnOk l.prog w (K w.params) mg base (Hg l.prog w) 20 g fd ["_law_script"] (spLaw (K w.params))):
  PySem.W.WalkO q b i c l.row.toRowW d [] (λ f vs=>PySem.call f vs):=
 L2.walk_of (n:=63) (k:=20) (x:="_law_script") (CX:=λ w=>Hg l.prog w) (sp:=λ w=>spLaw (K w.params)) j (by decide) e ⟨rfl,by decide,by decide⟩ m p (λ _ _ a ns hl _ o=>⟨a,ns,rfl,o,hl,λ _=>rfl⟩) λ _ _ _ _ _ z=>by
  obtain ⟨_,_,_,_,_,_,_,_,_,_,_,_,q⟩:=z;exact q
end K74
end
namespace PySem.W.Fast
def tw18197019340699033037:=()
def tw14921847771456257756:=()
def tw830783099648825566:=()
def tw16715905169992327240:=()
def tw4823264984201064815:=()
def tw11782856478435824792:=()
def tw3513337651830050464:=()
def tw9229716498657056201:=()
def tw15142713475527969891:=()
def tw8527405063334884078:=()
def tw16700094674604415660:=()
def tw5784031974810142329:=()
def tw14972536276416465523:=()
def tw11311657541126075931:=()
def tw10169876373115417855:=()
def tw11960607230139680813:=()
def tw2542899695749268903:=()
def tw15439253695218707641:=()
def tw14332651361994503924:=()
def tw2069114933483620813:=()
def tw3696730379381021573:=()
def tw16217956855386131215:=()
def tw10126181076489611128:=()
def tw6020948559880657744:=()
def tw12160654112028500665:=()
def tw320687133934368348:=()
def tw9115884096832048699:=()
def tw10058982489822972027:=()
def tw13637281106237648918:=()
def tw14659581096994562693:=()
def tw4057054740604962912:=()
def tw14179797313966587906:=()
def tw12686667089829309305:=()
def tw17827597579752888860:=()
def tw4842477154774166318:=()
def tw16354855494099487658:=()
def tw17356402561034684388:=()
def tw9809263694962746431:=()
def tw9792746339103760318:=()
def tw12112388627346448788:=()
def tw15006695804061353140:=()
def tw8740556971159374115:=()
def tw7632804932206445325:=()
def tw9528500740839023229:=()
def tw9361863441726719474:=()
def tw17527470402682615836:=()
def tw6020231684160541611:=()
def tw6900708698545073470:=()
def tw1191438840125279503:=()
def tw18190797273136757525:=()
def tw8035532832501138279:=()
def tw8957586979953610530:=()
def tw15517504910581727553:=()
def tw6525616665375146:=()
def tw11606703797241654433:=()
def tw3449690133669642370:=()
def tw9650492236804098696:=()
def tw1733232168037061045:=()
def tw13386983005325635126:=()
def tw6391458432864261383:=()
def tw10822269425957434480:=()
def tw8092073577418902058:=()
def tw13043233289367262411:=()
def tw110016480121284136:=()
def tw13192972480407712064:=()
def tw4464471180524709360:=()
def tw15981855250963369187:=()
def tw9038371686871815224:=()
def tw13647850782345539904:=()
def tw11046980660121826980:=()
def tw14465866403238678154:=()
def tw18184470382363992853:=()
def tw2312946126654662273:=()
def tw3031115374072751973:=()
def tw8416383394206486887:=()
def tw9741809336198703194:=()
def tw12690075103354763900:=()
def tw10447508787011361436:=()
def tw12913571871269390839:=()
def tw15456318001501802005:=()
def tw4885313937554553822:=()
def tw2204176174508402403:=()
def tw1612854467856433538:=()
def tw13080574912643757416:=()
def tw8050199623148574876:=()
def tw9959027293609866893:=()
def tw1660070775836966429:=()
def tw2171142972008254025:=()
def tw5323927170230742397:=()
def tw14117206591952729976:=()
def tw2189728403929351002:=()
def tw10238794563496102567:=()
def tw16643937544904055362:=()
def tw6047340502105442557:=()
def tw17783119126535948748:=()
def tw7591867510836875763:=()
def tw2586353408408614069:=()
def tw1910127886325115190:=()
def tw12988892894571409315:=()
def tw3660891336374656363:=()
def tw16914754366365431119:=()
def tw12779715478207038194:=()
def tw13500688155944301058:=()
def tw1136141024852923180:=()
def tw505794960326750991:=()
def tw4658410386176242994:=()
def tw11222815586550002834:=()
def tw15100316716088620350:=()
def tw13848899958491562236:=()
def tw13322155044705494190:=()
def tw12521647998217687300:=()
def tw857730516111659903:=()
def tw6770059698643141985:=()
def tw7865087827310799924:=()
def tw14254859154784349442:=()
def tw2935965855937082910:=()
def tw4996567178136056062:=()
def tw9734888958088303330:=()
def tw12906659659166529367:=()
def tw827227361513966651:=()
def tw15073167369746948307:=()
def tw17687942720238329431:=()
def tw14114760233623103853:=()
def tw17518001141937679516:=()
def tw11055582617628139014:=()
def tw5079067607123272629:=()
def tw2989697416643152263:=()
def tw9195369112732301569:=()
def tw12404453158256983870:=()
def tw1470453359276378001:=()
def tw7088068720985165058:=()
def tw1811052225819735336:=()
def tw11456767644985262241:=()
def tw3783774556980162080:=()
def tw4253570157160324663:=()
def tw17149565017823671417:=()
def tw12876822928428613837:=()
def tw6615751119590277327:=()
def tw17587935095325510629:=()
def tw18380273843304730999:=()
def tw13219990115801348200:=()
def tw15659626188900807661:=()
def tw13842662453702491676:=()
def tw16538305875078670658:=()
def tw6000881025824179204:=()
def tw2010077532374017940:=()
def tw6635546112541562876:=()
def tw18233365184363100511:=()
def tw17086003578175496503:=()
def tw1737421329922452103:=()
def tw5449737324849070521:=()
def tw4191032165585082359:=()
def tw4058333158593740447:=()
def tw6813422068369503927:=()
def tw10501365596535973380:=()
def tw7487458253511409744:=()
def tw17387599660010562680:=()
def tw4164785139373832172:=()
def tw4425488828046449949:=()
def tw10518716036552047344:=()
def tw17419374158206077914:=()
def tw3303627668520153747:=()
def tw1763720998157691961:=()
def tw7576480618007481749:=()
def tw968710211900265782:=()
def tw11588557562049690919:=()
def tw10963254446417873841:=()
def tw12049159889097425442:=()
def tw17951113311098911189:=()
def tw14499691315439659153:=()
def tw1148005413201361143:=()
def tw3192118321784308731:=()
def tw9600907235049501390:=()
def tw13667817170034839379:=()
def tw1349818689007042800:=()
def tw13395892384120195716:=()
def tw12726851840614540085:=()
def tw5712591531237519645:=()
def tw17830470141931688698:=()
def tw2495211470739940329:=()
def tw16912151658036836522:=()
def tw10225242747558419098:=()
def tw14021115233549840442:=()
def tw8181349941178559521:=()
def tw16454141384136516475:=()
def tw6393376537043511916:=()
def tw8052235031856444046:=()
def tw345360620780227483:=()
def tw9840874946267026833:=()
def tw4414601872835856869:=()
def tw16003762288184066457:=()
def tw5880005155930454067:=()
def tw12773007638112132712:=()
def tw16400292399326666137:=()
def tw9787590392215864332:=()
def tw9657176438272119281:=()
def tw1790996511726485743:=()
def tw8571812371729872103:=()
def tw10798781032513997441:=()
def tw11869152093333916893:=()
def tw5502108983969504371:=()
def tw10500352771307856003:=()
def tw5069298847320687253:=()
def tw881722077612469737:=()
def tw15578545397274850673:=()
def tw8318525779304214342:=()
def tw4190346424208578975:=()
def tw17871400402317009895:=()
def tw11430183138369018014:=()
def tw1349071835519668444:=()
def tw9179027248131125752:=()
def tw16260341144636739738:=()
def tw5530239079229812144:=()
def tw6347080485097521425:=()
def tw15259567337965980846:=()
def tw13193697768803058139:=()
def tw13902696336057241597:=()
def tw5500592044492512422:=()
def tw2746049695583807196:=()
def tw394987528679192696:=()
def tw10074277383779339931:=()
def tw835576860866245296:=()
def tw2017238541290691782:=()
def tw8843944571179191208:=()
def tw8115807586987637082:=()
def tw14859563534532215096:=()
def tw2983849221741084433:=()
def tw12183216093315314009:=()
def tw7762642047055090495:=()
def tw1704461111858414351:=()
def tw18283147759884078876:=()
def tw17219907267754943774:=()
def tw2886664730023134324:=()
def tw16893705309425745460:=()
def tw13982928235026459885:=()
def tw8729972679735960744:=()
def tw1711561296899719588:=()
def tw33386474656450242:=()
def tw16309641513957224553:=()
def tw9643852529917819862:=()
def tw7192331758202241873:=()
def tw6610857783989883751:=()
def tw4834314395233318145:=()
def tw11860692441770157758:=()
def tw2730337712095218105:=()
def tw851576246601722853:=()
def tw2740125733186740725:=()
def tw2715538041650821552:=()
def tw166925663584569574:=()
def tw591633819245155561:=()
def tw4043549836066949288:=()
def tw5769163509039214951:=()
def tw17034228961394000208:=()
def tw7690142330638466446:=()
def tw6378518082720222869:=()
def tw5673373961298792940:=()
def tw15050610652457058531:=()
def tw15814872727009378962:=()
def tw1926278963726090990:=()
def tw8917724078644577277:=()
def tw12961515565714556104:=()
def tw10389737224664371787:=()
def tw17878922436768164606:=()
def tw8252896000868068491:=()
def tw7409898067849758683:=()
def tw2168128396839585353:=()
def tw15306087285085026207:=()
def tw14892367206837861946:=()
def tw11299330667834937329:=()
def tw3818910629023408529:=()
def tw13907383535327627442:=()
def tw14002223670403675037:=()
def tw10721379607426896086:=()
def tw14873272219427898343:=()
def tw12609434857969466749:=()
def tw3034901852185725865:=()
def tw12923826865148215067:=()
def tw16293071909538626767:=()
def tw2536102400003798591:=()
def tw12918875561730556275:=()
def tw12738243530557852451:=()
def tw15326633494827316523:=()
def tw1536282817953363950:=()
def tw13493369047325778166:=()
def tw9360701730839296841:=()
def tw14191656657180462764:=()
def tw4646343898534872025:=()
def tw12177221708524366737:=()
def tw6662721775917093371:=()
def tw15558116760546326533:=()
def tw4001047768816852974:=()
def tw2573660386612533218:=()
def tw264805505417118461:=()
def tw14781549960531477500:=()
def tw15229613700589892715:=()
def tw10588721109275910902:=()
def tw13914440239622409740:=()
def tw4342155512658315112:=()
def tw11374395120752070062:=()
def tw11983567970400289552:=()
def tw8743932475838428040:=()
def tw3168189611729669774:=()
def tw2857285619286189669:=()
def tw12632949921409855911:=()
def tw10958916687118338610:=()
def tw3672905438854402403:=()
def tw12140579172584917855:=()
def tw9891434517469391755:=()
def tw344649118688396638:=()
def tw16293338947387584935:=()
def tw13854308502878898992:=()
def tw3722767306360922088:=()
def tw11819812762436219383:=()
def tw12396028984149296536:=()
def tw3834824916324097213:=()
def tw17593436799621479:=()
def tw8135890963089491225:=()
def tw7531216401445211611:=()
def tw4982511084835058624:=()
def tw4496076319260136286:=()
def tw10058192377062635718:=()
def tw9341320029589522392:=()
def tw3300276111815970199:=()
def tw7924877948694527485:=()
def tw15895758254261424937:=()
def tw5492630497593932456:=()
def tw14861262133439002620:=()
def tw9413388143140043420:=()
def tw10856111660552596931:=()
def tw9342944780418886548:=()
def tw8504907286553249304:=()
def tw7142854508745920172:=()
def tw6389110952672520722:=()
def tw8558811058197238186:=()
def tw5897257159851019588:=()
def tw12176111525161115544:=()
def tw2994139923069913146:=()
def tw2043983280116493472:=()
def tw10812718958960539792:=()
def tw18390865291803620753:=()
def tw4544860030226315485:=()
def tw3291904895609515896:=()
def tw8105024414298803544:=()
def tw9992332504468578668:=()
def tw8533662432973708919:=()
def tw504010878922824448:=()
def tw14925460632416310848:=()
def tw10999189374064062647:=()
def tw18235718179714247153:=()
def tw15646048341305668541:=()
def tw11979662202759354612:=()
def tw16542281529691822937:=()
def tw7854282684919646603:=()
def tw6949641766309497719:=()
def tw7384441343387414952:=()
def tw10778353700465820018:=()
def tw7217095090015140887:=()
def tw8513416543704871573:=()
def tw3247429086420534437:=()
def tw3468214892533478240:=()
def tw11892889532114308449:=()
def tw10180424656359616525:=()
def tw9140589811686525327:=()
def tw4958073817720154188:=()
def tw7792469509897789223:=()
def tw8369248560692716608:=()
def tw11843310226686932225:=()
def tw6439959419844739249:=()
def tw11824127985010866417:=()
def tw11749673489107607723:=()
def tw5461769760102005702:=()
def tw18339731789477820450:=()
def tw8017509294884439089:=()
def tw215767818893316098:=()
def tw14260985501062986356:=()
def tw12680042579211038119:=()
def tw11344466462083929277:=()
def tw9745797757937675635:=()
def tw11994348014304357849:=()
def tw7108402020749044599:=()
def tw703559494489986915:=()
def tw4076498959565903313:=()
def tw15163884763576900641:=()
def tw15839159531864033252:=()
def tw13754652892560317244:=()
def tw17292930761990095223:=()
def tw5117751897940387387:=()
def tw8269322263454512486:=()
def tw1336027897453169786:=()
def tw7465048847311575788:=()
def tw73271571647986494:=()
def tw3550879880779988712:=()
def tw15800776108513215186:=()
def tw846689571834207450:=()
def tw10118938291653929459:=()
def tw9199517977609548337:=()
def tw2802219154099041648:=()
def tw13117492420784140691:=()
def tw12068455933498417948:=()
def tw487126073790884442:=()
def tw15530959375177507991:=()
def tw16303225929749962929:=()
def tw10163377159700692352:=()
def tw9638902633969162736:=()
def tw3282371966607208752:=()
def tw1333455275935488702:=()
def tw8309392142535766870:=()
def tw55335871225574382:=()
def tw4727879641900417115:=()
def tw8143541044860345853:=()
def tw2360187089797452694:=()
def tw15669299986795788307:=()
def tw7905456695828515759:=()
def tw12026756475577323856:=()
def tw11733811773562826784:=()
def tw1983811408616158747:=()
def tw10741556904920355476:=()
def tw734472151713333146:=()
def tw6936261500376146852:=()
def tw3426684467400629183:=()
def tw14896898178268842213:=()
def tw15203304064597143811:=()
def tw15095746115940823164:=()
def tw18321837862315339095:=()
def tw17964256105251448888:=()
def tw15491158282109339379:=()
def tw8779955729799585111:=()
def tw588010983128467166:=()
def tw3714191816789815288:=()
def tw3047341726738609321:=()
def tw2619262242310063286:=()
def tw17661109909917023653:=()
def tw17176600256537316283:=()
def tw13227944542741286137:=()
def tw716724430776067491:=()
def tw8999819433607573265:=()
def tw6898511654831493745:=()
def tw6148128830707901329:=()
def tw605469835071602217:=()
def tw4954116132919085447:=()
def tw15583163391825752194:=()
def tw14187872624001274518:=()
def tw1416382841320351140:=()
def tw13326452169901659965:=()
def tw1288099795987767703:=()
def tw1158676700942013500:=()
def tw8957304162027378611:=()
def tw13656113032973420994:=()
def tw12135840859352967844:=()
def tw8661594582593086825:=()
def tw9938364352784572147:=()
def tw8825369533398720966:=()
def tw8235502188364932771:=()
def tw7669141981868448506:=()
def tw7651865284533136312:=()
def tw5684110924922764456:=()
def tw15007019458967361644:=()
def tw8873253738151606138:=()
def tw6556937664838864720:=()
def tw357868222170641402:=()
def tw3407643511628042986:=()
def tw2467477661516088396:=()
def tw16990249805114441394:=()
def tw13152422864444529385:=()
def tw1928230045730329094:=()
def tw17875880283788680605:=()
def tw15830023918183127771:=()
def tw12149894454929306449:=()
def tw11823805217409735121:=()
def tw7251229873311657645:=()
def tw7048807810127258203:=()
def tw5408574793612404962:=()
def tw3748136883108848523:=()
def tw3707001337173401355:=()
def tw2410153128295154829:=()
def tw17987478488355098490:=()
def tw15183459581810167215:=()
def tw11144632613370971864:=()
def tw7448156762964148099:=()
def tw5443463779163893381:=()
def tw3962966944505410752:=()
def tw17257135643305412967:=()
def tw15409096549458769430:=()
def tw13259754033523442259:=()
def tw12571591901568248719:=()
def tw10865756774541408541:=()
def tw10792066607937422251:=()
def tw15051589334616970194:=()
def tw5795433623368123905:=()
def tw4576959228321067604:=()
def tw17214088049209529380:=()
def tw8967418678916863742:=()
def tw6987465577590984161:=()
def tw6310231435197845953:=()
def tw563941310969903515:=()
def tw18348511542140727358:=()
def tw11522848342886757820:=()
def tw15057452329799242012:=()
def tw6497305956160440391:=()
def tw2779691102692295665:=()
def tw16492040123557704031:=()
def tw2991729149215442004:=()
def tw14798271424113915650:=()
def tw9234288102311067843:=()
def tw4409427126971439573:=()
def tw18001890616128492154:=()
def tw18295578123410695433:=()
def tw5045836045489396125:=()
def tw4763084134534896082:=()
def tw6280108490982719339:=()
def tw3814610011330028064:=()
def tw12515583867826478666:=()
def tw8280597174059398110:=()
def tw8097809658881791695:=()
def tw5325724408549633027:=()
def tw17020503660500497892:=()
def tw1052332991727220812:=()
def tw10603867757279571881:=()
def tw6185592909686552599:=()
def tw1512748584345266248:=()
def tw11192559392547292295:=()
def tw5079855833268119027:=()
def tw14793737344636459011:=()
def tw884073948553005380:=()
def tw2367323286611321332:=()
def tw15223770976440053664:=()
def tw14959352781351855577:=()
def tw1166935805483551084:=()
def tw8596500346178761473:=()
def tw651303534019350732:=()
def tw10051436218956344074:=()
def tw6782552901176728103:=()
def tw14816417450920557696:=()
def tw14441475268248283921:=()
def tw14125233804525852261:=()
def tw9532185262661034743:=()
def tw8606176362801084001:=()
def tw215120315083279633:=()
def tw730071916802687325:=()
def tw11065949763832431383:=()
def tw16593992209763235040:=()
def tw13468633381622746826:=()
def tw10861843317166153885:=()
def tw4286790963962452232:=()
def tw2432069905716593386:=()
def tw7567717439948176579:=()
def tw7224699319956027522:=()
def tw14762832984928313290:=()
def tw10961423127713464398:=()
def tw2052171459088079958:=()
def tw12911681242049586868:=()
def tw10590023527943533884:=()
def tw17576006815951382546:=()
def tw14767815578550984646:=()
def tw6466608576730506197:=()
def tw17872140783825028208:=()
def tw9939998687516430299:=()
def tw4042692719295369737:=()
def tw4012358987042822944:=()
def tw3496665622338635772:=()
def tw9486301600419674729:=()
def tw5218080404588338885:=()
def tw12783771912517508803:=()
def tw3281642223383874533:=()
def tw10877166461961186548:=()
def tw10839385660045577765:=()
def tw8026511404478951167:=()
def tw2735181750927382572:=()
def tw6209891253119189604:=()
def tw12914628056423512855:=()
def tw5226568198066679289:=()
def tw3620098129584092326:=()
def tw2155600234955785775:=()
def tw13498435737893149895:=()
def tw5024881868634889019:=()
def tw14211155922092615678:=()
def tw14173421026921938832:=()
def tw10712537389207896462:=()
def tw9238225483637799875:=()
def tw5535278242047053172:=()
def tw13487781053406828265:=()
def tw11936748426438896280:=()
def tw9832040812630037194:=()
def tw9321071068025116559:=()
def tw5398193638033304405:=()
def tw5207745658362876703:=()
def tw489419252686285738:=()
def tw4470465206069420857:=()
def tw2527222763444121169:=()
def tw2395966137513968726:=()
def tw16776671241865939262:=()
def tw16659698159657216720:=()
def tw12966403474343457657:=()
def tw12584454891100366336:=()
def tw10940951337027360788:=()
def tw161111897345493090:=()
def tw658620748617661040:=()
def tw5529122768217288440:=()
def tw4764482484642252945:=()
def tw4149917854809480929:=()
def tw11538216410667141511:=()
def tw1031468801294292752:=()
def tw13616824575261714473:=()
def tw392237160656318263:=()
def tw5113802286202480257:=()
def tw7246664723510294911:=()
def tw4261088423457203260:=()
def tw18345332672452872165:=()
def tw16257820054689047352:=()
def tw13954546520374773366:=()
def tw11601757777688482719:=()
def tw9417535479418289146:=()
def tw9019655127813491682:=()
def tw8898233392069056088:=()
def tw4951171642732054978:=()
def tw4214053195783945566:=()
def tw17271418190615669621:=()
def tw11648346081207847631:=()
def tw9967665659658662238:=()
def tw8243026374415951519:=()
def tw5036238596431770495:=()
def tw3322098363888876750:=()
def tw17323186930266795788:=()
def tw12999385410727730830:=()
def tw12975579856515807689:=()
def tw1148336799028059158:=()
def tw11299429196873648466:=()
def tw3947255982981082393:=()
def tw17769357382955814312:=()
def tw10426603026683236098:=()
def tw3898303288554541761:=()
def tw8656267095464350677:=()
def tw11855483266880893495:=()
def tw16892586766184231036:=()
def tw12361187027907960582:=()
def tw6744418899031837884:=()
def tw17711244445945062662:=()
def tw5709277422077308972:=()
def tw620250099313976182:=()
def tw3076815635397786543:=()
def tw18021005507579721804:=()
def tw16681195709855487505:=()
def tw9178436057342916929:=()
def tw5583609063138199982:=()
def tw3959613361898343048:=()
def tw2454804978355128429:=()
def tw16892102863398779638:=()
def tw15841787037199214496:=()
def tw14979692305218629873:=()
def tw12005495495488640959:=()
def tw11072516731540786969:=()
def tw10961784179438084756:=()
def tw12294984337901587109:=()
def tw8053927778457062030:=()
def tw702113303837909084:=()
def tw9348500362075487521:=()
def tw9760439949668840039:=()
def tw17622073542696125002:=()
def tw9261303649764373576:=()
def tw8804938606002277154:=()
def tw8683672592408106475:=()
def tw6843399970617089656:=()
def tw6517503726702360542:=()
def tw5635011386500797153:=()
def tw4788545351206922792:=()
def tw3101788191893587659:=()
def tw2007133084037850376:=()
def tw1818561076761087018:=()
def tw17666068850017455776:=()
def tw16410824481813519741:=()
def tw13555314361977729794:=()
def tw13524256334256915429:=()
def tw9283689303468316209:=()
def tw8329537286974014615:=()
def tw7752635424972159897:=()
def tw5407716636801427964:=()
def tw4962781507350699886:=()
def tw17669769874845345814:=()
def tw1701750535609314468:=()
def tw1508070375233294403:=()
def tw14527544229749703465:=()
def tw13962871842322456136:=()
def tw13847505125632261438:=()
def tw13074241563518193590:=()
def tw10540909182279055815:=()
def tw10046706789963001352:=()
def tw17923285652332452468:=()
def tw9319226628398304667:=()
def tw2071200337551155285:=()
def tw1788722053551237573:=()
def tw8524823597526384078:=()
def tw7872762456631281870:=()
def tw7836400417267193979:=()
def tw7314738160495248123:=()
def tw15205414261147015612:=()
def tw12863220518820837955:=()
def tw10701995297435118324:=()
def tw15678079084511849697:=()
def tw10231109041969643534:=()
def tw17815715130827380510:=()
def tw8664713052220595896:=()
def tw3867896122351856639:=()
def tw2236334499830878115:=()
def tw17850276633216135161:=()
def tw16224901958467290133:=()
def tw15438093984398155911:=()
def tw14436892608837108649:=()
def tw13566954741264390673:=()
def tw12477152640736133844:=()
def tw1043722903172381832:=()
def tw913119301116955427:=()
def tw8162429516751907250:=()
def tw7854032317834775268:=()
def tw7559989196868273433:=()
def tw748441239403609200:=()
def tw6895335817943106123:=()
def tw6197492104078989534:=()
def tw4540633013173249680:=()
def tw3329593523948789346:=()
def tw2284396245174428739:=()
def tw18119961757312108546:=()
def tw15787464328087580769:=()
def tw13528266488392319728:=()
def tw10692402286025353362:=()
def tw9938149159568884665:=()
def tw9927563725223973275:=()
def tw984143606824341790:=()
def tw9746003341391697828:=()
def tw9676342434087783673:=()
def tw9626095258663463244:=()
def tw9511618379060923528:=()
def tw9508772078442806641:=()
def tw929542526926509510:=()
def tw9188508043183764326:=()
def tw8969786442705754977:=()
def tw8967033680160950565:=()
def tw8832333543709933764:=()
def tw8786019707774310145:=()
def tw8724076620605688158:=()
def tw8710371264839849410:=()
def tw8478537496380680940:=()
def tw8039458022115469522:=()
def tw7964411981653140482:=()
def tw7890630388962115178:=()
def tw7819729658320797026:=()
def tw7811264381112425926:=()
def tw7757517307451127386:=()
def tw7740962719886666649:=()
def tw7589618814060112438:=()
def tw7582287523562031598:=()
def tw7484466620575366599:=()
def tw7372052610022912018:=()
def tw7331934183217664643:=()
def tw7301955749309460736:=()
def tw7286685168907046495:=()
def tw7265548498400962821:=()
def tw7239568664436087155:=()
def tw7234737185402186515:=()
def tw7182655855782811247:=()
def tw7157070441100332821:=()
def tw7137320330156281018:=()
def tw7100240017960417794:=()
def tw7092457554917494690:=()
def tw7060528553563613167:=()
def tw6973896402077490128:=()
def tw6948941002487861990:=()
def tw6936970911459915555:=()
def tw6866557987643484469:=()
def tw6853964279865631502:=()
def tw6845890780250555192:=()
def tw6724452178430246892:=()
def tw6716932478233082278:=()
def tw6642123885441294296:=()
def tw6615589004876121416:=()
def tw6581715659650442005:=()
def tw6578016186661095597:=()
def tw6567073246963505055:=()
def tw6388887549087421020:=()
def tw6379233717502676971:=()
def tw6342163017907172773:=()
def tw6329506376593724391:=()
def tw6324391421509943561:=()
def tw627770986833171206:=()
def tw6242033482574174580:=()
def tw6185809594725743032:=()
def tw6119797118959040389:=()
def tw6079180397089045567:=()
def tw598386983997634212:=()
def tw5909099517467527305:=()
def tw5870865114075036640:=()
def tw577991165289652762:=()
def tw569584389534451654:=()
def tw5621648631943660813:=()
def tw5572702215638790620:=()
def tw55590967132760819:=()
def tw5486960232273819997:=()
def tw5398047202021507464:=()
def tw5331484161504552905:=()
def tw524223914821267749:=()
def tw4901461616506936317:=()
def tw4891204915176360011:=()
def tw4814491172479375600:=()
def tw4680839145977824891:=()
def tw4675880533496651516:=()
def tw4562024454651657830:=()
def tw4387428436780667984:=()
def tw4380761078393831566:=()
def tw4299139872281141640:=()
def tw4175004134571123279:=()
def tw4093534272510981991:=()
def tw393004062356321142:=()
def tw3924669543209938806:=()
def tw3857342015715132337:=()
def tw3855621350113954615:=()
def tw3794338175935064747:=()
def tw3758553041530383971:=()
def tw3643041689782585338:=()
def tw3438840453918705710:=()
def tw3427973232359955704:=()
def tw339173068182700608:=()
def tw3331846291077027132:=()
def tw3283387886114888111:=()
def tw3276906258617677582:=()
def tw3249601678421070819:=()
def tw3178246802753498874:=()
def tw2990421303396693853:=()
def tw2986505180713551865:=()
def tw2979354920488407096:=()
def tw2948505938316841991:=()
def tw2899726661967939931:=()
def tw2749931357966649677:=()
def tw2551407869120720219:=()
def tw2539801699080338973:=()
def tw2379465303697944115:=()
def tw2313680736252326604:=()
def tw230186783721950497:=()
def tw2127338273065477110:=()
def tw2070574050656209306:=()
def tw2060330905738020735:=()
def tw189114842298569284:=()
def tw1847184518426059153:=()
def tw18389589920720463423:=()
def tw18277356593331089384:=()
def tw18100386108676507625:=()
def tw18099804131641968224:=()
def tw18016330658728370705:=()
def tw1798614902285807109:=()
def tw1784140398240236834:=()
def tw17817502885146905244:=()
def tw17715800017809034632:=()
def tw17639536375638931262:=()
def tw17591289520369408366:=()
def tw17375811525634297882:=()
def tw17320165257745235542:=()
def tw17299985054570520507:=()
def tw17284789698135807232:=()
def tw17201157904367069623:=()
def tw17194718366015301127:=()
def tw17188291046148075999:=()
def tw17140659626991957079:=()
def tw17079909310151227622:=()
def tw16876587927474054100:=()
def tw16705720573711034622:=()
def tw16670764457840477250:=()
def tw16662165979962030986:=()
def tw16626446548446764186:=()
def tw16603235156577017576:=()
def tw16599756659763694270:=()
def tw16579324303463244788:=()
def tw16564794681964247812:=()
def tw16511029912825207945:=()
def tw16448496066352168186:=()
def tw16274938046503807425:=()
def tw16240934381240784035:=()
def tw16110889019048696807:=()
def tw16055412385358532558:=()
def tw1602813327634343544:=()
def tw15922021260175665118:=()
def tw15920857168754393557:=()
def tw15865287123370580913:=()
def tw15859635034600133878:=()
def tw1581070143392956219:=()
def tw15789509792696592018:=()
def tw15736930118853081903:=()
def tw15682563262192087621:=()
def tw1558119348260853376:=()
def tw1554463056962921386:=()
def tw15437366075666669822:=()
def tw15399044352977070942:=()
def tw15319957230257554030:=()
def tw15089688239674438927:=()
def tw15081581425231087455:=()
def tw15064548113548169913:=()
def tw1505624261728746408:=()
def tw15006494799670225743:=()
def tw1496954812124920812:=()
def tw14952557378488573156:=()
def tw14868789804483162283:=()
def tw14806639748252990290:=()
def tw14719547074167930797:=()
def tw14654309981044993293:=()
def tw14633391447274700415:=()
def tw14589536072810323612:=()
def tw14496830839687739792:=()
def tw14481249490601481521:=()
def tw14473871672773691760:=()
def tw14409007055607628442:=()
def tw14396339335886012594:=()
def tw14350639837388719413:=()
def tw1431975264570929634:=()
def tw14296181217730747247:=()
def tw14211550669012965372:=()
def tw14131919435544136963:=()
def tw14079156233299072005:=()
def tw13986145130547657684:=()
def tw13564753580244266487:=()
def tw13529148172141623593:=()
def tw13508589263821059421:=()
def tw13479156486905212357:=()
def tw13333819175945509690:=()
def tw13255066502166567953:=()
def tw13211061107708222073:=()
def tw1318839852889891139:=()
def tw13142117756818256487:=()
def tw13127807327681862223:=()
def tw13048199968597551164:=()
end PySem.W.Fast
open PySem PySem.W PyProof.Rows
set_option maxRecDepth 100000 in
set_option maxHeartbeats 0 in
theorem PySem.Challenge.cw_grindbench_k74_whole_seen_at_the_desk_holds : PySem.Challenge.rw_grindbench_k74_whole_seen_at_the_desk.Holds := by
 w_on;o_law;k_head;(case hw=>w_witness2)
 k_fill
 refine K74.walk (l:=PySem.Challenge.rw_grindbench_k74_whole_seen_at_the_desk) rfl rfl (λ w h Y=>PySem.W.kIn_of Y) ?F
 case F=>
  intro w mg fa h KX G hmg;have Xy:L2.TopFn (L2.KOf KX) mg "is_whole" K74.Xl:=by dsimp only [L2.KOf];refine' L2.BJ KX G ?a ?l ?c ?k;case a|l|c|k=>k_is
  have Rf:L2.TopFn (L2.KOf KX) mg "common_divisor" K74.Tz:=by dsimp only [L2.KOf];refine' L2.BJ KX G ?a ?l ?c ?k;case a|l|c|k=>k_is
  have VD:L2.TopFn (L2.KOf KX) mg "is_ratio" K74.U0:=by dsimp only [L2.KOf];refine' L2.BJ KX G ?a ?l ?c ?k;case a|l|c|k=>k_is
  have Ym:L2.TopFn (L2.KOf KX) mg "ratio_of" K74.Yx:=by dsimp only [L2.KOf];refine' L2.BJ KX G ?a ?l ?c ?k;case a|l|c|k=>k_is
  have W6:L2.TopFn (L2.KOf KX) mg "sum_of" K74.RV:=by dsimp only [L2.KOf];refine' L2.BJ KX G ?a ?l ?c ?k;case a|l|c|k=>k_is
  have S7:L2.TopFn (L2.KOf KX) mg "less_by" K74.YF:=by dsimp only [L2.KOf];refine' L2.BJ KX G ?a ?l ?c ?k;case a|l|c|k=>k_is
  have Wd:L2.TopFn (L2.KOf KX) mg "product_of" K74.VF:=by dsimp only [L2.KOf];refine' L2.BJ KX G ?a ?l ?c ?k;case a|l|c|k=>k_is
  have V0:L2.TopFn (L2.KOf KX) mg "quotient_of" K74.Wu:=by dsimp only [L2.KOf];refine' L2.BJ KX G ?a ?l ?c ?k;case a|l|c|k=>k_is
  have YT:L2.TopFn (L2.KOf KX) mg "is_less" K74.Rp:=by dsimp only [L2.KOf];refine' L2.BJ KX G ?a ?l ?c ?k;case a|l|c|k=>k_is
  have Um:L2.TopFn (L2.KOf KX) mg "is_piece" K74.LR:=by dsimp only [L2.KOf];refine' L2.BJ KX G ?a ?l ?c ?k;case a|l|c|k=>k_is
  have Z4:L2.TopFn (L2.KOf KX) mg "piece_of" K74.Yz:=by dsimp only [L2.KOf];refine' L2.BJ KX G ?a ?l ?c ?k;case a|l|c|k=>k_is
  have aA:L2.TopFn (L2.KOf KX) mg "look_at" K74.Ub:=by dsimp only [L2.KOf];refine' L2.BJ KX G ?a ?l ?c ?k;case a|l|c|k=>k_is
  have Yv:L2.TopFn (L2.KOf KX) mg "is_table" K74.Zy:=by dsimp only [L2.KOf];refine' L2.BJ KX G ?a ?l ?c ?k;case a|l|c|k=>k_is
  have UJ:L2.TopFn (L2.KOf KX) mg "look_at_table" K74.RT:=by dsimp only [L2.KOf];refine' L2.BJ KX G ?a ?l ?c ?k;case a|l|c|k=>k_is
  have Ud:L2.TopFn (L2.KOf KX) mg "table_of_rays" K74.UW:=by dsimp only [L2.KOf];refine' L2.BJ KX G ?a ?l ?c ?k;case a|l|c|k=>k_is
  have RZ:L2.TopFn (L2.KOf KX) mg "table_of" K74.TV:=by dsimp only [L2.KOf];refine' L2.BJ KX G ?a ?l ?c ?k;case a|l|c|k=>k_is
  have Wl:L2.TopFn (L2.KOf KX) mg "made_by" K74.Te:=by dsimp only [L2.KOf];refine' L2.BJ KX G ?a ?l ?c ?k;case a|l|c|k=>k_is
  have oH:L2.TopFn (L2.KOf KX) mg "joined" K74.iU:=by dsimp only [L2.KOf];refine' L2.BJ KX G ?a ?l ?c ?k;case a|l|c|k=>k_is
  have iV:L2.TopFn (L2.KOf KX) mg "less" K74.j8:=by dsimp only [L2.KOf];refine' L2.BJ KX G ?a ?l ?c ?k;case a|l|c|k=>k_is
  have m6:L2.TopFn (L2.KOf KX) mg "part_short_of_one" K74.jN:=by dsimp only [L2.KOf];refine' L2.BJ KX G ?a ?l ?c ?k;case a|l|c|k=>k_is
  have fG:L2.TopFn (L2.KOf KX) mg "glass_gap_glass" K74.lY:=by dsimp only [L2.KOf];refine' L2.BJ KX G ?a ?l ?c ?k;case a|l|c|k=>k_is
  have aW:L2.TopFn (L2.KOf KX) mg "gap_glass_gap" K74.ak:=by dsimp only [L2.KOf];refine' L2.BJ KX G ?a ?l ?c ?k;case a|l|c|k=>k_is
  have pU:L2.TopFn (L2.KOf KX) mg "taken_apart" K74.qx:=by dsimp only [L2.KOf];refine' L2.BJ KX G ?a ?l ?c ?k;case a|l|c|k=>k_is
  have Xr:L2.TopFn (L2.KOf KX) mg "is_stretch" K74.YL:=by dsimp only [L2.KOf];refine' L2.BJ KX G ?a ?l ?c ?k;case a|l|c|k=>k_is
  have ZJ:L2.TopFn (L2.KOf KX) mg "look_at_stretch" K74.Xw:=by dsimp only [L2.KOf];refine' L2.BJ KX G ?a ?l ?c ?k;case a|l|c|k=>k_is
  have W2:L2.TopFn (L2.KOf KX) mg "is_box" K74.Wf:=by dsimp only [L2.KOf];refine' L2.BJ KX G ?a ?l ?c ?k;case a|l|c|k=>k_is
  have UV:L2.TopFn (L2.KOf KX) mg "look_at_box" K74.YK:=by dsimp only [L2.KOf];refine' L2.BJ KX G ?a ?l ?c ?k;case a|l|c|k=>k_is
  have Vc:L2.TopFn (L2.KOf KX) mg "limits_of" K74.Wv:=by dsimp only [L2.KOf];refine' L2.BJ KX G ?a ?l ?c ?k;case a|l|c|k=>k_is
  have U5:L2.TopFn (L2.KOf KX) mg "is_before" K74.YQ:=by dsimp only [L2.KOf];refine' L2.BJ KX G ?a ?l ?c ?k;case a|l|c|k=>k_is
  have U7:L2.TopFn (L2.KOf KX) mg "corners_of" K74.Y8:=by dsimp only [L2.KOf];refine' L2.BJ KX G ?a ?l ?c ?k;case a|l|c|k=>k_is
  have Xz:L2.TopFn (L2.KOf KX) mg "edges_of" K74.We:=by dsimp only [L2.KOf];refine' L2.BJ KX G ?a ?l ?c ?k;case a|l|c|k=>k_is
  have U3:L2.TopFn (L2.KOf KX) mg "room_at" K74.T6:=by dsimp only [L2.KOf];refine' L2.BJ KX G ?a ?l ?c ?k;case a|l|c|k=>k_is
  have T4:L2.TopFn (L2.KOf KX) mg "crossing_of" K74.Zi:=by dsimp only [L2.KOf];refine' L2.BJ KX G ?a ?l ?c ?k;case a|l|c|k=>k_is
  have Yr:L2.TopFn (L2.KOf KX) mg "cut_by" K74.R8:=by dsimp only [L2.KOf];refine' L2.BJ KX G ?a ?l ?c ?k;case a|l|c|k=>k_is
  have aG:L2.TopFn (L2.KOf KX) mg "from_the_least" K74.S8:=by dsimp only [L2.KOf];refine' L2.BJ KX G ?a ?l ?c ?k;case a|l|c|k=>k_is
  have Vz:L2.TopFn (L2.KOf KX) mg "field_of" K74.Vf:=by dsimp only [L2.KOf];refine' L2.BJ KX G ?a ?l ?c ?k;case a|l|c|k=>k_is
  have Yk:L2.TopFn (L2.KOf KX) mg "show_ratio" K74.S6:=by dsimp only [L2.KOf];refine' L2.BJ KX G ?a ?l ?c ?k;case a|l|c|k=>k_is
  have Vm:L2.TopFnA (L2.KOf KX) mg "read_part_figures" "read_part" K74.Uo:=by dsimp only [L2.KOf];refine' L2.Ob KX G ?a ?l ?c ?k;case a|l|c|k=>k_is
  have Vu:L2.TopFn (L2.KOf KX) mg "read_ratio" K74.Ly:=by dsimp only [L2.KOf];refine' L2.BJ KX G ?a ?l ?c ?k;case a|l|c|k=>k_is
  have X6:L2.TopFn (L2.KOf KX) mg "spread_of" K74.Yu:=by dsimp only [L2.KOf];refine' L2.BJ KX G ?a ?l ?c ?k;case a|l|c|k=>k_is
  have XD:L2.TopFn (L2.KOf KX) mg "image_of" K74.ZQ:=by dsimp only [L2.KOf];refine' L2.BJ KX G ?a ?l ?c ?k;case a|l|c|k=>k_is
  have Z7:L2.TopFn (L2.KOf KX) mg "growth_of" K74.VM:=by dsimp only [L2.KOf];refine' L2.BJ KX G ?a ?l ?c ?k;case a|l|c|k=>k_is
  have Ro:L2.TopFn (L2.KOf KX) mg "in_order" K74.ZD:=by dsimp only [L2.KOf];refine' L2.BJ KX G ?a ?l ?c ?k;case a|l|c|k=>k_is
  have V9:L2.TopFn (L2.KOf KX) mg "lesser_of" K74.Y5:=by dsimp only [L2.KOf];refine' L2.BJ KX G ?a ?l ?c ?k;case a|l|c|k=>k_is
  have ZZ:L2.TopFn (L2.KOf KX) mg "greater_of" K74.WQ:=by dsimp only [L2.KOf];refine' L2.BJ KX G ?a ?l ?c ?k;case a|l|c|k=>k_is
  have SJ:L2.TopFn (L2.KOf KX) mg "slants_by" K74.Vv:=by dsimp only [L2.KOf];refine' L2.BJ KX G ?a ?l ?c ?k;case a|l|c|k=>k_is
  have Ri:L2.TopFn (L2.KOf KX) mg "slants_of" K74.Tc:=by dsimp only [L2.KOf];refine' L2.BJ KX G ?a ?l ?c ?k;case a|l|c|k=>k_is
  have Yp:L2.TopFn (L2.KOf KX) mg "height_at" K74.Vp:=by dsimp only [L2.KOf];refine' L2.BJ KX G ?a ?l ?c ?k;case a|l|c|k=>k_is
  have Rq:L2.TopFn (L2.KOf KX) mg "spots_of" K74.Rw:=by dsimp only [L2.KOf];refine' L2.BJ KX G ?a ?l ?c ?k;case a|l|c|k=>k_is
  have Rm:L2.TopFn (L2.KOf KX) mg "blur_of" K74.W4:=by dsimp only [L2.KOf];refine' L2.BJ KX G ?a ?l ?c ?k;case a|l|c|k=>k_is
  have Z0:L2.TopFn (L2.KOf KX) mg "is_name" K74.ZW:=by dsimp only [L2.KOf];refine' L2.BJ KX G ?a ?l ?c ?k;case a|l|c|k=>k_is
  have X7:L2.TopFn (L2.KOf KX) mg "walk_of" K74.Uj:=by dsimp only [L2.KOf];refine' L2.BJ KX G ?a ?l ?c ?k;case a|l|c|k=>k_is
  have cW:L2.TopFn (L2.KOf KX) mg "rounds_of" K74.qF:=by dsimp only [L2.KOf];refine' L2.BJ KX G ?a ?l ?c ?k;case a|l|c|k=>k_is
  have WM:L2.TopFn (L2.KOf KX) mg "sharp_places" K74.V1:=by dsimp only [L2.KOf];refine' L2.BJ KX G ?a ?l ?c ?k;case a|l|c|k=>k_is
  have aD:L2.TopFn (L2.KOf KX) mg "words_of" K74.Yh:=by dsimp only [L2.KOf];refine' L2.BJ KX G ?a ?l ?c ?k;case a|l|c|k=>k_is
  have VB:L2.TopFnA (L2.KOf KX) mg "read_number_texts" "read_number" K74.Xc:=by dsimp only [L2.KOf];refine' L2.Ob KX G ?a ?l ?c ?k;case a|l|c|k=>k_is
  have gP:L2.TopFn (L2.KOf KX) mg "read_times" K74.pA:=by dsimp only [L2.KOf];refine' L2.BJ KX G ?a ?l ?c ?k;case a|l|c|k=>k_is
  have Zj:L2.TopFn (L2.KOf KX) mg "read_round" K74.Ws:=by dsimp only [L2.KOf];refine' L2.BJ KX G ?a ?l ?c ?k;case a|l|c|k=>k_is
  have Wy:L2.TopFnA (L2.KOf KX) mg "read_part_texts" "read_part" K74.Ys:=by dsimp only [L2.KOf];refine' L2.Ob KX G ?a ?l ?c ?k;case a|l|c|k=>k_is
  have XJ:L2.TopFn (L2.KOf KX) mg "read_parts" K74.RN:=by dsimp only [L2.KOf];refine' L2.BJ KX G ?a ?l ?c ?k;case a|l|c|k=>k_is
  have Oo:L2.TopFn (L2.KOf KX) mg "count_of" K74.Vj:=by dsimp only [L2.KOf];refine' L2.BJ KX G ?a ?l ?c ?k;case a|l|c|k=>k_is
  have Qd:L2.TopFn (L2.KOf KX) mg "told_out" K74.Yc:=by dsimp only [L2.KOf];refine' L2.BJ KX G ?a ?l ?c ?k;case a|l|c|k=>k_is
  have U6:L2.TopFn (L2.KOf KX) mg "read_bench" K74.XH:=by dsimp only [L2.KOf];refine' L2.BJ KX G ?a ?l ?c ?k;case a|l|c|k=>k_is
  have bB:L2.TopFn (L2.KOf KX) mg "show_piece" K74.gB:=by dsimp only [L2.KOf];refine' L2.BJ KX G ?a ?l ?c ?k;case a|l|c|k=>k_is
  have kZ:L2.TopFn (L2.KOf KX) mg "show_bench" K74.lA:=by dsimp only [L2.KOf];refine' L2.BJ KX G ?a ?l ?c ?k;case a|l|c|k=>k_is
  have VJ:L2.TopFn (L2.KOf KX) mg "turned_bench" K74.YC:=by dsimp only [L2.KOf];refine' L2.BJ KX G ?a ?l ?c ?k;case a|l|c|k=>k_is
  have Z2:L2.TopFn (L2.KOf KX) mg "shown" K74.Rr:=by dsimp only [L2.KOf];refine' L2.BJ KX G ?a ?l ?c ?k;case a|l|c|k=>k_is
  have ig:L2.TopFn (L2.KOf KX) mg "show_answer" K74.jf:=by dsimp only [L2.KOf];refine' L2.BJ KX G ?a ?l ?c ?k;case a|l|c|k=>k_is
  have Xj:L2.TopFn (L2.KOf KX) mg "walk_answer" K74.YZ:=by dsimp only [L2.KOf];refine' L2.BJ KX G ?a ?l ?c ?k;case a|l|c|k=>k_is
  have mH:L2.TopFn (L2.KOf KX) mg "table_answer" K74.bO:=by dsimp only [L2.KOf];refine' L2.BJ KX G ?a ?l ?c ?k;case a|l|c|k=>k_is
  have je:L2.TopFn (L2.KOf KX) mg "apart_answer" K74.nA:=by dsimp only [L2.KOf];refine' L2.BJ KX G ?a ?l ?c ?k;case a|l|c|k=>k_is
  have Vl:L2.TopFn (L2.KOf KX) mg "image_answer" K74.Vt:=by dsimp only [L2.KOf];refine' L2.BJ KX G ?a ?l ?c ?k;case a|l|c|k=>k_is
  have WL:L2.TopFn (L2.KOf KX) mg "field_answer" K74.XR:=by dsimp only [L2.KOf];refine' L2.BJ KX G ?a ?l ?c ?k;case a|l|c|k=>k_is
  have Uq:L2.TopFn (L2.KOf KX) mg "sharp_answer" K74.TQ:=by dsimp only [L2.KOf];refine' L2.BJ KX G ?a ?l ?c ?k;case a|l|c|k=>k_is
  have jb:L2.TopFn (L2.KOf KX) mg "rounds_answer" K74.bH:=by dsimp only [L2.KOf];refine' L2.BJ KX G ?a ?l ?c ?k;case a|l|c|k=>k_is
  have YM:L2.TopFn (L2.KOf KX) mg "look_at_name" K74.RL:=by dsimp only [L2.KOf];refine' L2.BJ KX G ?a ?l ?c ?k;case a|l|c|k=>k_is
  have Wg:L2.TopFnA (L2.KOf KX) mg "read_number_desk" "read_number" K74.UL:=by dsimp only [L2.KOf];refine' L2.Ob KX G ?a ?l ?c ?k;case a|l|c|k=>k_is
  have YH:L2.TopFn (L2.KOf KX) mg "read_row" K74.Wa:=by dsimp only [L2.KOf];refine' L2.BJ KX G ?a ?l ?c ?k;case a|l|c|k=>k_is
  have Zx:L2.TopFn (L2.KOf KX) mg "_law_cell_at" K74.Ui:=by dsimp only [L2.KOf];refine' L2.BJ KX G ?a ?l ?c ?k;case a|l|c|k=>k_is
  have UG:L2.TopFn (L2.KOf KX) mg "_law_drawn" K74.Ur:=by dsimp only [L2.KOf];refine' L2.BJ KX G ?a ?l ?c ?k;case a|l|c|k=>k_is
  have Zu:L2.TopFn (L2.KOf KX) mg "_law_draw" K74.Vw:=by dsimp only [L2.KOf];refine' L2.BJ KX G ?a ?l ?c ?k;case a|l|c|k=>k_is
  have Sv:L2.TopFn (L2.KOf KX) mg "_law_low" K74.Va:=by dsimp only [L2.KOf];refine' L2.BJ KX G ?a ?l ?c ?k;case a|l|c|k=>k_is
  have Ra:L2.TopFn (L2.KOf KX) mg "_law_under" K74.ZS:=by dsimp only [L2.KOf];refine' L2.BJ KX G ?a ?l ?c ?k;case a|l|c|k=>k_is
  have Wb:L2.TopFn (L2.KOf KX) mg "_law_part" K74.Nb:=by dsimp only [L2.KOf];refine' L2.BJ KX G ?a ?l ?c ?k;case a|l|c|k=>k_is
  have Th:L2.TopFn (L2.KOf KX) mg "_law_piece" K74.WT:=by dsimp only [L2.KOf];refine' L2.BJ KX G ?a ?l ?c ?k;case a|l|c|k=>k_is
  have WD:L2.TopFn (L2.KOf KX) mg "_law_plus" K74.YS:=by dsimp only [L2.KOf];refine' L2.BJ KX G ?a ?l ?c ?k;case a|l|c|k=>k_is
  have W3:L2.TopFn (L2.KOf KX) mg "_law_times" K74.Yd:=by dsimp only [L2.KOf];refine' L2.BJ KX G ?a ?l ?c ?k;case a|l|c|k=>k_is
  have YJ:L2.TopFn (L2.KOf KX) mg "_law_less" K74.Us:=by dsimp only [L2.KOf];refine' L2.BJ KX G ?a ?l ?c ?k;case a|l|c|k=>k_is
  have Uu:L2.TopFn (L2.KOf KX) mg "_law_written" K74.Xa:=by dsimp only [L2.KOf];refine' L2.BJ KX G ?a ?l ?c ?k;case a|l|c|k=>k_is
  have ZX:L2.TopFn (L2.KOf KX) mg "_law_shown" K74.Zw:=by dsimp only [L2.KOf];refine' L2.BJ KX G ?a ?l ?c ?k;case a|l|c|k=>k_is
  have XS:L2.TopFn (L2.KOf KX) mg "_law_piece_text" K74.WW:=by dsimp only [L2.KOf];refine' L2.BJ KX G ?a ?l ?c ?k;case a|l|c|k=>k_is
  have Xu:L2.TopFn (L2.KOf KX) mg "_law_text" K74.ZP:=by dsimp only [L2.KOf];refine' L2.BJ KX G ?a ?l ?c ?k;case a|l|c|k=>k_is
  have Vy:L2.TopFn (L2.KOf KX) mg "_law_called" K74.Ww:=by dsimp only [L2.KOf];refine' L2.BJ KX G ?a ?l ?c ?k;case a|l|c|k=>k_is
  have Ry:L2.TopFn (L2.KOf KX) mg "_law_benches" K74.ZM:=by dsimp only [L2.KOf];refine' L2.BJ KX G ?a ?l ?c ?k;case a|l|c|k=>k_is
  have W8:L2.TopFn (L2.KOf KX) mg "_law_laid" K74.Nk:=by dsimp only [L2.KOf];refine' L2.BJ KX G ?a ?l ?c ?k;case a|l|c|k=>k_is
  have SM:L2.TopFn (L2.KOf KX) mg "_law_read" K74.Zg:=by dsimp only [L2.KOf];refine' L2.BJ KX G ?a ?l ?c ?k;case a|l|c|k=>k_is
  have Vk:L2.TopFn (L2.KOf KX) mg "_law_read_all" K74.U9:=by dsimp only [L2.KOf];refine' L2.BJ KX G ?a ?l ?c ?k;case a|l|c|k=>k_is
  have Uh:L2.TopFn (L2.KOf KX) mg "_law_row" K74.T3:=by dsimp only [L2.KOf];refine' L2.BJ KX G ?a ?l ?c ?k;case a|l|c|k=>k_is
  have Tu:L2.TopFn (L2.KOf KX) mg "_law_is_short" K74.Su:=by dsimp only [L2.KOf];refine' L2.BJ KX G ?a ?l ?c ?k;case a|l|c|k=>k_is
  have Xd:L2.TopFn (L2.KOf KX) mg "_law_box" K74.PB:=by dsimp only [L2.KOf];refine' L2.BJ KX G ?a ?l ?c ?k;case a|l|c|k=>k_is
  have RJ:L2.TopFn (L2.KOf KX) mg "_law_comes_by" K74.T8:=by dsimp only [L2.KOf];refine' L2.BJ KX G ?a ?l ?c ?k;case a|l|c|k=>k_is
  have ZV:L2.TopFn (L2.KOf KX) mg "_law_field" K74.Oq:=by dsimp only [L2.KOf];refine' L2.BJ KX G ?a ?l ?c ?k;case a|l|c|k=>k_is
  have Vx:L2.TopFn (L2.KOf KX) mg "_law_lamp" K74.S9:=by dsimp only [L2.KOf];refine' L2.BJ KX G ?a ?l ?c ?k;case a|l|c|k=>k_is
  have Ag2:L2.TopFn (L2.KOf KX) mg "law" K74.Li:=by dsimp only [L2.KOf];refine' L2.BJ KX G ?a ?l ?c ?k;case a|l|c|k=>k_is
  have Ae7:mg "abs"=none:=by refine' PySem.W.mg_none_of KX G ?a;case a=>k_is
  have w5:mg "all"=none:=by refine' PySem.W.mg_none_of KX G ?a;case a=>k_is
  have wO:mg "bool"=none:=by refine' PySem.W.mg_none_of KX G ?a;case a=>k_is
  have Af9:mg "enumerate"=none:=by refine' PySem.W.mg_none_of KX G ?a;case a=>k_is
  have AN6:mg "int"=none:=by refine' PySem.W.mg_none_of KX G ?a;case a=>k_is
  have uG:mg "isinstance"=none:=by refine' PySem.W.mg_none_of KX G ?a;case a=>k_is
  have yg:mg "len"=none:=by refine' PySem.W.mg_none_of KX G ?a;case a=>k_is
  have xK:mg "list"=none:=by refine' PySem.W.mg_none_of KX G ?a;case a=>k_is
  have zV:mg "max"=none:=by refine' PySem.W.mg_none_of KX G ?a;case a=>k_is
  have AS1:mg "range"=none:=by refine' PySem.W.mg_none_of KX G ?a;case a=>k_is
  have AV2:mg "reversed"=none:=by refine' PySem.W.mg_none_of KX G ?a;case a=>k_is
  have AI6:mg "str"=none:=by refine' PySem.W.mg_none_of KX G ?a;case a=>k_is
  have wH:mg "tuple"=none:=by refine' PySem.W.mg_none_of KX G ?a;case a=>k_is
  have X0:∃ad,K74.Exc (L2.KOf KX) mg ad/\w.params=ad.pr:=by
   dsimp only [L2.KOf]
   refine' ⟨_,K74.AV4 w.params KX G ?za0 ?za1 ?za2 ?za3 ?za4 ?za5 ?za6 ?za7 ?za8 ?za9 ?zb0 ?zb1 ?zb2 ?zb3 ?zb4 ?zb5 ?zb6 ?zb7 ?zb8 ?zb9 ?zc0 ?zc1 ?zc2 ?zc3 ?zc4 ?zc5 ?zc6 ?zc7 ?zc8 ?zc9 ?zd0 ?zd1 ?zd2 ?zd3 ?zd4 ?zd5 ?zd6 ?zd7 ?zd8 ?zd9 ?ze0 ?ze1 ?ze2 ?ze3 ?ze4 ?ze5 ?ze6 ?ze7 ?ze8 ?ze9 ?zf0 ?zf1 ?zf2 ?zf3 ?zf4 ?zf5 ?zf6 ?zf7 ?zf8 ?zf9 ?zg0 ?zg1 ?zg2 ?zg3 ?zg4 ?zg5 ?zg6 ?zg7 ?zg8 ?zg9 ?zh0 ?zh1 ?zh2 ?zh3 ?zh4 ?zh5 ?zh6 ?zh7 ?zh8 ?zh9 ?zi0 ?zi1 ?zi2 ?zi3 ?zi4 ?zi5 ?zi6 ?zi7 ?zi8 ?zi9 ?zj0 ?zj1 ?zj2 ?zj3 ?zj4 ?zj5 ?zj6 ?zj7 ?zj8 ?zj9 ?zk0 ?zk1 ?zk2 ?zk3 ?zk4 ?zk5 ?zk6 ?zk7 ?zk8 ?zk9 ?zl0 ?zl1 ?zl2 ?zl3 ?zl4 ?zl5 ?zl6 ?zl7 ?zl8 ?zl9 ?zm0 ?zm1 ?zm2 ?zm3 ?zm4 ?zm5 ?zm6 ?zm7 ?zm8 ?zm9 ?zn0 ?zn1 ?zn2 ?zn3 ?zn4 ?zn5 ?zn6 ?zn7 ?zn8 ?zn9 ?zo0 ?zo1 ?zo2 ?zo3 ?zo4 ?zo5 ?zo6 ?zo7 ?zo8 ?zo9 ?zp0 ?zp1 ?zp2 ?zp3 ?zp4 ?zp5 ?zp6 ?zp7 ?zp8 ?zp9 ?zq0 ?zq1 ?zq2 ?zq3 ?zq4 ?zq5 ?zq6 ?zq7 ?zq8 ?zq9 ?zr0 ?zr1 ?zr2 ?zr3 ?zr4 ?zr5 ?zr6 ?zr7 ?zr8 ?zr9 ?zs0 ?zs1 ?zs2 ?zs3 ?zs4 ?zs5 ?zs6 ?zs7 ?zs8 ?zs9 ?zt0 ?zt1 ?zt2 ?zt3 ?zt4 ?zt5 ?zt6 ?zt7 ?zt8 ?zt9 ?zu0 ?zu1 ?zu2 ?zu3 ?zu4 ?zu5 ?zu6 ?zu7 ?zu8 ?zu9 ?zv0,rfl⟩
   case za0|za1|za2|za3|za4|za5|za6|za7|za8|za9|zb0|zb1|zb2|zb3|zb4|zb5|zb6|zb7|zb8|zb9|zc0|zc1|zc2|zc3|zc4|zc5|zc6|zc7|zc8|zc9|zd0|zd1|zd2|zd3|zd4|zd5|zd6|zd7|zd8|zd9|ze0|ze1|ze2|ze3|ze4|ze5|ze6|ze7|ze8|ze9|zf0|zf1|zf2|zf3|zf4|zf5|zf6|zf7|zf8|zf9|zg0|zg1|zg2|zg3|zg4|zg5|zg6|zg7|zg8|zg9|zh0|zh1|zh2|zh3|zh4|zh5|zh6|zh7|zh8|zh9|zi0|zi1|zi2|zi3|zi4|zi5|zi6|zi7|zi8|zi9|zj0|zj1|zj2|zj3|zj4|zj5|zj6|zj7|zj8|zj9|zk0|zk1|zk2|zk3|zk4|zk5|zk6|zk7|zk8|zk9|zl0|zl1|zl2|zl3|zl4|zl5|zl6|zl7|zl8|zl9|zm0|zm1|zm2|zm3|zm4|zm5|zm6|zm7|zm8|zm9|zn0|zn1|zn2|zn3|zn4|zn5|zn6|zn7|zn8|zn9|zo0|zo1|zo2|zo3|zo4|zo5|zo6|zo7|zo8|zo9|zp0|zp1|zp2|zp3|zp4|zp5|zp6|zp7|zp8|zp9|zq0|zq1|zq2|zq3|zq4|zq5|zq6|zq7|zq8|zq9|zr0=>k_is
   case zr1|zr2|zr3|zr4|zr5|zr6|zr7|zr8|zr9|zs0=>rfl
   case zs1=>decide
   case zs2|zs3|zs4|zs5|zs6|zs7|zs8|zs9|zt0|zt1|zt2|zt3|zt4|zt5|zt6|zt7|zt8|zt9|zu0|zu1=>k_is
   case zu2|zu3|zu4|zu5|zu6|zu7|zu8|zu9=>rfl
   case zv0=>decide
  obtain ⟨ad,X0,hw⟩:=X0;obtain ⟨fd,FL,bL⟩:=K74.vQ Ag2 hmg;exact ⟨fd,bL,λ base _ _=>L2.FnB.ok (K74.wR ⟨X0,Ae7,w5,wO,Af9,AN6,uG,yg,xK,zV,AS1,AV2,AI6,wH,Xy,Rf,VD,Ym,W6,S7,Wd,V0,YT,Um,Z4,aA,Yv,UJ,Ud,RZ,Wl,oH,iV,m6,fG,aW,pU,Xr,ZJ,W2,UV,Vc,U5,U7,Xz,U3,T4,Yr,aG,Vz,Yk,Vm,Vu,X6,XD,Z7,Ro,V9,ZZ,SJ,Ri,Yp,Rq,Rm,Z0,X7,cW,WM,aD,VB,gP,Zj,Wy,XJ,Oo,Qd,U6,bB,kZ,VJ,Z2,ig,Xj,mH,je,Vl,WL,Uq,jb,YM,Wg,YH,Zx,UG,Zu,Sv,Ra,Wb,Th,WD,W3,YJ,Uu,ZX,XS,Xu,Vy,Ry,W8,SM,Vk,Uh,Tu,Xd,RJ,ZV,Vx⟩ hw FL)⟩
#print axioms PySem.Challenge.cw_grindbench_k74_whole_seen_at_the_desk_holds
