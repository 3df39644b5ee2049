import PyProof.Rows.All
import KE.KIntText
import KE.KFromBytes
import KE.KIsAll
import KE.KItem
import KE.KRevIter
import KE.KTryMore
import KE.RegKTryMore
import KE.RegKIsAll
import PyProof.StrReplace2
import PyProof.StrCalls6
import PyProof.MeetsStr3
import PyProof.ToksMono
import OpenK.KLine
import OpenK.KWalk
import Wide.FinOn
import PyProof.EqAt
import PyProof.EqKinds
import PyProof.TupleCall
import Lean
import PySem.Challenge.RW_grindbench_k70_rows_that_are_none
set_option Elab.async false
set_option linter.all false
set_option maxRecDepth 100000
set_option maxHeartbeats 1000000
abbrev FrG:=PySem.W.Frag
open Array renaming eq_empty_of_size_eq_zero→xB,getElem?_eq_some_iff→UR,getElem?_ofFn→GW,getElem?_setIfInBounds_ne→UM,length_toList→Jq,mem_toList_iff→yx,toList_push→wQ
open Bool renaming and_eq_true→zy,and_eq_true_iff→XY,and_false→Gc,eq_false_iff→wN,eq_iff_iff→xO,false_and→zW,false_eq_true→QA,false_ne_true→ZE,false_or→ua,or_eq_true_iff→WV,true_and→xF,true_or→qo
open Classical renaming choose_spec→qV
open False renaming elim→UQ
open ForInStep renaming yield→UH
open Int renaming emod_lt_of_pos→Jl,emod_nonneg→Qy,eq_of_mul_eq_mul_left→wI,lt_trichotomy→wO,natAbs_mul→xq,natAbs_natCast→ze,natCast_emod→ja,sign_eq_neg_one_of_neg→wA,sign_eq_one_of_pos→qk,toNat_natCast→Qb,zero_add→FM,zero_sub→FI
open List renaming Nodup→zh,all_cons→wY,all_eq_true→zX,all_map→FG,any_cons→yM,any_eq_true→zY,append_assoc→US,append_cancel_left→uv,append_nil→UB,dropLast_concat→GG,drop_zero→wE,eq_nil_or_concat→qR,filterMap_cons→QY,filterMap_map→wt,find?_cons→zE,flatten_cons→zI,forIn_cons→zb,forIn_nil→wB,getD_eq_getElem?_getD→wy,getElem?_append_left→zd,getElem?_append_right→yz,getElem?_eq_getElem→XU,getElem?_eq_some_iff→UE,getElem?_map→YA,getElem?_set_ne→xJ,getElem?_set_self→xk,getLast?_concat→GE,isEmpty_iff→uT,length→Qf,length_append→ZA,length_cons→U1,length_drop→zx,length_map→Y6,length_nil→WA,length_replicate→qE,length_take→Uf,lookup→yZ,map→yh,map_append→YP,map_congr_left→xY,map_cons→YV,map_drop→Fk,map_map→xr,map_nil→xo,map_take→Fh,mem_append→XA,mem_append_left→UX,mem_append_right→ZB,mem_cons→ZT,mem_cons_of_mem→Ya,mem_cons_self→ZU,mem_filterMap→yd,mem_map→Jb,mem_of_getElem?→Xb,mem_of_mem_drop→GA,mem_of_mem_take→GB,mem_singleton→Zu,nil_append→xR,nodup_cons→yf,not_mem_nil→WE,of_mem_zip→xQ,range→UP,range_succ_eq_map→qf,replicate→WC,replicate_succ→zS,size_toArray→YY,sum_cons→yN,take_add_one→JE,take_length→QI,take_of_length_le→JU,take_zero→wD,toList_toArray→zT
open List.Pairwise renaming nil→FF
open List.cons renaming inj→zi
open Nat renaming add_comm→wc,add_le_add_right→yB,digitChar→Fc,gcd→we,gcd_comm→FH,le_add_left→YU,le_add_right→yF,le_of_eq→wb,le_of_lt→JA,le_refl→YE,le_succ→xa,le_trans→U2,lt_irrefl→zu,lt_of_le_of_lt→yU,lt_of_lt_of_le→W1,lt_succ_of_lt→wP,lt_succ_self→zw,lt_trans→zt,min_eq_left→yg,mod_lt→FB,mul_le_mul→QO,mul_le_mul_right→QE,ne_of_gt→WB,ne_of_lt→YO,not_lt→wC,pow_le_pow_right→xK,pow_succ→FK,succ_le_succ→uS,succ_mul→jS,toDigits→qh,toDigits_of_lt_base→uu,zero_le→JI
open Ne renaming symm→WU
open Option renaming isSome_iff_exists→zN,isSome_none→wq,map_eq_some_iff→UK,map_some→xT,none→Go
open Option.some renaming inj→UN
open PyProof.Rows renaming AllBare→yG,assignInOrder_cons→wF,callWith_type1→zr,envOfC→yC,joinOk_of_weight→zj,part_short→uX,signs→zf,slot_tuple_getitem→zR
open PySem renaming Around→XE,BindsTo→qq,Builtin→Xy,DictEntry→xg,ExceptHandler→ui,FuncData→JN,IsPair→yt,Keyword→GS,NameKind→Qv,NoneBooked→xE,Operator→GI,Paired→yK,Params→ub,PassesOwn→QZ,Program→Yg,PyData→WH,Shared→X1,Str→Y2,Within→jw,assign→yL,assignEach→JM,assignInOrder→yQ,attributeBase→yn,backTo→QK,backToKw→wG,behindInMarks→yP,binaryOp→zJ,bindArgs→yR,bootBuiltins→Jn,callWith→GN,call_meets→zQ,callerA→GT,cellsFrom→zn,codeAny→zK,codeAny_compStart_list→xz,codeAny_mono→xw,codeAny_with_toks→xv,compEnvC→zk,compPost→xy,compareOp→zm,comprehension→xG,foldedSetIterable→UW,getItem→wW,getMethod→jo,holding→wh,isTrue→GH,keywordEach→yD,letOwnedTupleGo→zc,limitOf→wj,mainGlobals→ZY,mem_of_lookup→Jy,newEnv→GM,noteFrame→yo,numbered_texts→xx,pyNext→yV,rawInt→zC,recursionLimit→GL,relabel→zV,setFlight→jp,sizeLine→X2,sliceBounds→xh,slot_listiter_next→yX,standAt→GP,starEach→YM,strValues→xi,subscripted→wV,swapsWith→xf,sysModules→zp,tupleKind→GO,tupleKind_room_in1→wH,typeIs_str→zz,unpackItems→GJ,valueAt→qr,wpAny_Call_Name_kw→JO,wpAny_Return_some→wT,wpAny_Try_except→js,wpAny_assign_Name→wU,wpAny_attempt→ug,wpAny_bind→Y3,wpAny_callSpecial?_slot→QJ,wpAny_call_entry→ya,wpAny_comprehension_free→yS,wpAny_execs_cons→zZ,wpAny_execs_nil→yi,wpAny_field→XZ,wpAny_getItem_str_slice→yb,wpAny_holding→WO,wpAny_list_append_plain→xj,wpAny_loadName_local→xL,wpAny_mono→XW,wpAny_newFunctionEnv→xM,wpAny_newObj_type→UU,wpAny_passesOwn→zF,wpAny_pure→ZH,wpAny_pyIter_list→yu,wpAny_rule→xD,wpAny_seqItems→zA,wpAny_setField→QU,wpAny_setField_rec→ye,wpAny_specialOf→qB,wpAny_standAt→Qu,wpAny_truthy_bool→QR,wpAny_with_toks→zq
open PySem.Around renaming under→FD
open PySem.Builtin.Int renaming intBits→GU
open PySem.Builtin.List renaming listTooLong→zP
open PySem.Builtin.Slice renaming sliceAdjust→yH,sliceApplied→wr,slicePlaces→zB
open PySem.Builtin.SmallTypes renaming nextOf→UY,ownedTupleHandOut→yJ,ownedTupleIsFree→Qk,stopIteration→xt
open PySem.Builtin.Str renaming occurrences→Xt,partsBetween→zL,strKind→WG,strSliceIndices→xV,strSub→yW,tooLong→wa
open PySem.Builtin.Tuple renaming tupleExact→zO
open PySem.Calls renaming Constant_str→wm,Name_function_global→yw,callWith_builtin→xn,evalArgs_plain→yy,loadGlobal_global→uk,spliced_cons→wo,spliced_nil→wM
open PySem.Code renaming isFrame→FE,quiet_builtin→wu
open PySem.EntryCells renaming newEntry→GV
open PySem.F renaming args_str_split_2→wx,args_str_split_3→yO,entry_str_split→xb,excAttr_ValueError→wv,plainAttrs_list→WJ,plainAttrs_str→Yf,slot_dict_get→qU,slot_dict_getitem→wJ,slot_list_append→WX,slot_str_join→yq,slot_str_replace→Ql,slot_str_split→XO,slot_str_startswith→wf,slot_tuple_iterator_next→xu,slot_zip_next→xU,type_list_append→WZ,type_str_join→yr,type_str_replace→Qr,type_str_split→Wp,type_str_startswith→wg
open PySem.Heap renaming ExtBut→zv,IsList→wS,SameBut→JT,get?_none_of_le→zH,get?_push_of_some→X9,get?_push_size→YL,get?_update_other→XG,get?_update_self→XB,lt_size→ZI,size_push→UC
open PySem.Heap.IsList renaming push→up
open PySem.Heap.SameBut renaming refl→wR,update→xZ
open PySem.NameKind renaming cell→wX,free→ym
open PySem.NumText renaming AllDigits→zG,digitsVal→JY
open PySem.Obj renaming data_mapFields→XV,isFreed_of_fields→UD,mapFields→Xd,mapSeq→jI
open PySem.Paired renaming length→GY
open PySem.PassesOwn renaming never→UI
open PySem.SeqAt renaming EqAt→UZ,canLay_of_shaped→qa
open PySem.SeqAt.EqAt renaming int_str→Fm,str_int→Fn
open PySem.Str renaming append→Fs,empty→xS,join→XI,mk→QN,ofString→Y1
open PySem.StrLaws renaming glued_eq_join→qS,join_length_le→qn,occBody→qv,occ_length_le→xA
open PySem.Txt renaming endswith→ql,join→ww,mul→zU,replace→XT,slice→UA,slice_le→xp,split→Xs,startswith→yA,upper→zg
open PySem.Value renaming bool→yT,builtin→wZ,float→FP,int→yY,none→WR,ref→YI,str→uj,type→yv
open PySem.W renaming Looks→yj,callWith_K→JJ,callWith_K0→xX,cellsFrom_some→xm,clsIn→Fa,codeIn→XP,codeRec_of→FA,emptyDict→JZ,excIn→yl,exmOne→QP,findIn→ZO,fnOf→YR,funFrames_hide→qc,hasDictIn→QM,hideAll→UF,hideAll_get→yI,hideAll_none→xI,instObj→zo,isFn→WI,keepIn→YN,kia_one→UO,kitOne→ZJ,kitx_dict→FC,kitx_list→wL,kitx_tuple→Fu,lookIn→wn,makesIn→zD,methodCall_KW→yp,methodObj→wK,mg_of→ZN,mroIn→yk,nsIn→Yv,of_hideAll→JG,plainGet→QB,plainGet_of→xW,plainOver→zl,specialIn→xl,takerIn→qA,takesIn→xP
open PySem.W.Looks renaming ld→ul
open Rat renaming divInt→WS
open Sum renaming inl→jv,inr→yc
open Sum.inr renaming inj→FO
open True renaming intro→zM
local macro_rules | `(tactic| walk_at "s")=>`(tactic| exact ⟨rfl,rfl,rfl,by decide+kernel,rfl,by decide+kernel,by decide+kernel⟩)
local macro_rules | `(tactic| walk_at "o")=>`(tactic| first | exact Or.inl rfl | exact Or.inr rfl)
namespace L2
open PySem PySem.Spec PyProof.Rows
abbrev Key:=Sum Int Str
def keyIs:Key->Value->Bool
 | .inl k,v=>Value.isInt k v
 | .inr x,v=>Value.isStrOf x v
def keyH (w:World):Key->Int
 | .inl k=>hashInt k
 | .inr x=>hashStr w x
theorem Eu:∀{k:Key} {v:Value},keyIs k v=true->(∃i t,k=jv i/\v=yY i t)\/(∃x t,k=yc x/\v=uj x t)
 | .inl i,v,h=>by
  obtain ⟨t,e⟩:=Value.isInt_shape (k:=i) (v:=v) h;exact .inl ⟨i,t,rfl,e⟩
 | .inr x,v,h=>by
  obtain ⟨t,e⟩:=Value.isStrOf_shape (x:=x) (v:=v) h;exact .inr ⟨x,t,rfl,e⟩
theorem bu (i:Int)(t:Tok):keyIs (.inl i) (.int i t)=true:=by simp [keyIs,Value.isInt]
theorem qi (x:Str)(t:Tok):keyIs (.inr x) (.str x t)=true:=by simp [keyIs,Value.isStrOf]
theorem uV (a b:Int):decide ((jv a:Key)=jv b)=(a == b):=by
 by_cases e:a=b
 ·subst e;simp
 ·have h:¬ (jv a:Key)=jv b:=λ q=>e (jv.inj q)
  rw [decide_eq_false h];exact (beq_eq_false_iff_ne.mpr e).symm
theorem dh (a b:Str):decide ((yc a:Key)=yc b)=decide (a=b):=by
 by_cases e:a=b
 ·subst e;simp
 ·have h:¬ (yc a:Key)=yc b:=λ q=>e (FO q)
  rw [decide_eq_false h,decide_eq_false e]
theorem lF (a:Int)(b:Str):decide ((jv a:Key)=yc b)=false:=decide_eq_false (λ q=>nomatch q)
theorem iW (a:Str)(b:Int):decide ((yc a:Key)=jv b)=false:=decide_eq_false (λ q=>nomatch q)
def mixKind (prog:Yg)(w:World):PySem.KeyKind prog w Key where
 is:=keyIs
 hash:=keyH w
 inj:=λ v a b ha hb=>by
  rcases Eu ha with ⟨i,t,rfl,rfl⟩ | ⟨x,t,rfl,rfl⟩
  ·rcases Eu hb with ⟨j,u,rfl,e⟩ | ⟨c,u,rfl,e⟩
   ·injection e with e1 _;rw [e1]
   ·exact nomatch e
  ·rcases Eu hb with ⟨j,u,rfl,e⟩ | ⟨c,u,rfl,e⟩
   ·exact nomatch e
   ·injection e with e1 _;rw [e1]
 byValue:=λ k v h=>by
  rcases Eu h with ⟨i,t,rfl,rfl⟩ | ⟨x,t,rfl,rfl⟩<;>rfl
 pyHash:=λ hv h=>by
  rcases Eu hv with ⟨i,t,rfl,rfl⟩ | ⟨x,t,rfl,rfl⟩
  ·exact wpAny_pyHash_int h
  ·exact wpAny_pyHash_str h
 eqBool:=λ d hv h=>by
  rcases Eu d with ⟨i,t,rfl,rfl⟩ | ⟨x,t,rfl,rfl⟩
  ·rcases Eu hv with ⟨j,u,rfl,rfl⟩ | ⟨c,u,rfl,rfl⟩
   ·rw [uV] at h;exact wpAny_eqBool_int h
   ·rw [lF] at h;exact Fm i t c u _ _ _ _ h
  ·rcases Eu hv with ⟨j,u,rfl,rfl⟩ | ⟨c,u,rfl,rfl⟩
   ·rw [iW] at h;exact Fn x t j u _ _ _ _ h
   ·rw [dh] at h;exact wpAny_eqBool_str h
 «strs»:=λ k x t v h=>by
  rcases Eu h with ⟨i,u,rfl,e⟩ | ⟨c,u,rfl,e⟩
  ·exact nomatch e
  ·injection e with e1 _
   subst e1;cases v<;>rfl
theorem dR (prog:Yg)(w:World)(i:Int)(t:Tok):(mixKind prog w).is (.inl i) (.int i t)=true:=bu i t
theorem Tp (prog:Yg)(w:World)(x:Str)(t:Tok):(mixKind prog w).is (.inr x) (.str x t)=true:=qi x t
abbrev NZ:={t:Tok // t≠0}
inductive V where
 | non | bl (b:Bool) | int (i:Int) | str (x:Str) | byt (b:Array UInt8) | flt (b:UInt64) | ref (a:Addr) | ty (n:String)
 deriving DecidableEq
def RelV:V->Value->Prop
 | .non,u=>u=WR
 | .bl b,u=>u=yT b
 | .int i,u=>∃t,u=yY i t
 | .str x,u=>∃t:NZ,u=uj x t.1
 | .byt b,u=>∃t,u=Value.bytes b t
 | .flt b,u=>∃t,u=FP b t
 | .ref a,u=>u=YI a
 | .ty n,u=>u=yv n
abbrev Vals:List V->List Value->Prop:=yK RelV
theorem Vals.length {xs:List V}{us:List Value}(r:Vals xs us):xs.length=us.length:=GY r
theorem Vals.get:∀{xs:List V} {us:List Value} {i:Nat} {x:V},Vals xs us->xs[i]?=some x->∃u,us[i]?=some u/\RelV x u
 | _,_,_,_,.nil,e=>by simp at e
 | _,_,0,_,.cons r _,e=>by simp at e;subst e;exact ⟨_,rfl,r⟩
 | _,_,i+1,x,.cons _ t,e=>by
  obtain ⟨u,a,b⟩:=Vals.get (i:=i) (x:=x) t (by simpa using e)
  exact ⟨u,by simpa using a,b⟩
theorem Vals.set {x:V}{u:Value}(r:RelV x u):∀{xs:List V} {us:List Value} (i:Nat),Vals xs us->Vals (xs.set i x) (us.set i u)
 | _,_,_,.nil=>.nil
 | _,_,0,.cons _ t=>.cons r t
 | _,_,i+1,.cons q t=>.cons q (Vals.set r i t)
theorem Vals.append:∀{xs a:List V} {us b:List Value},Vals xs us->Vals a b->Vals (xs++a) (us++b)
 | _,_,_,_,.nil,s=>s
 | _,_,_,_,.cons r t,s=>.cons r (Vals.append t s)
theorem Vals.take:∀{xs:List V} {us:List Value} (n:Nat),Vals xs us->Vals (xs.take n) (us.take n)
 | _,_,0,_=>.nil
 | _,_,_+1,.nil=>.nil
 | _,_,n+1,.cons r t=>.cons r (Vals.take n t)
theorem Vals.drop:∀{xs:List V} {us:List Value} (n:Nat),Vals xs us->Vals (xs.drop n) (us.drop n)
 | _,_,0,r=>r
 | _,_,_+1,.nil=>.nil
 | _,_,n+1,.cons _ t=>Vals.drop n t
def RelO:Option V->Option Value->Prop
 | some v,some u=>RelV v u
 | none,none=>True
 | _,_=>False
def KV {a:Type}:List (a×V)->List (a×Value)->Prop:=yK λ (p:a×V) (q:a×Value)=>p.1=q.1/\RelV p.2 q.2
def kV:Key->V
 | .inl i=>.int i
 | .inr x=>.str x
inductive HO where
 | lst (xs:List V)
 | tup (xs:List V)
 | dK (kvs:List (Key×V)) | dT (kvs:List (List Key×V))
 | set (S:Int->Bool) (n:Nat)
 | ins (C dx:Addr) (fs:List (Str×V))
 | own (x:Addr)
 | xd (fs:List (Str×V))
 | met (f x:Addr)
 | rng (lo hi:Int)
 | frz (o:Obj) (u:HO)
 | tbl (ps:Array Value)
 | ext (φ:Heap->Prop)
abbrev Hp:=Addr->Option HO
def upd (H:Hp)(a:Addr)(o:HO):Hp:=λ b=>if b=a then some o else H b
theorem Aj {H:Hp}{a:Addr}{o:HO}:upd H a o a=some o:=by unfold upd;rw [if_pos rfl]
theorem Ax {H:Hp}{a b:Addr}{o:HO}(h:b≠a):upd H a o b=H b:=by unfold upd;rw [if_neg h]
theorem pD {H:Hp}{a:Addr}{o u:HO}:upd (upd H a o) a u=upd H a u:=by
 funext b;unfold upd;split<;>rfl
theorem cW {H:Hp}{a b:Addr}{o u:HO}(h:H a=some o)(h':H b=some u)(d:o≠u):a≠b:=by
 intro e;subst e;rw [h] at h';exact d (UN h')
theorem BZ {H:Hp}{a b:Addr}{o:HO}(h:H a=some o)(h':H b=none):a≠b:=by
 intro e;subst e;rw [h] at h';cases h'
section
variable (P:Yg)(w:World)
def ObjOk (H:Hp)(h:Heap)(a:Addr):HO->Prop
 | .lst xs=>xs.length<=X2/\∃(its:List Value) (n:Nat),Vals xs its/\h.get? a=some { cls:=.type "list",data:=.seq its.toArray n }
 | .tup xs=>xs.length<=X2/\∃its:List Value,Vals xs its/\IsTup h a its.toArray
 | .dK b=>b.length<=X2/\(a == zp)=false/\∃vs,KV b vs/\h.DictOf (mixKind P w) a vs
 | .dT b=>b.length<=X2/\(a == zp)=false/\∃xs:List (List Key×Addr×Value),
   yK (λ (p:List Key×V) (q:List Key×Addr×Value)=>p.1=q.1/\H q.2.1=some (.tup (p.1.map kV))/\RelV p.2 q.2.2) b xs/\
   ∃o e j,h.get? a=some o/\o.ExactDict/\o.data=.dict e j/\e.toList=xs.map (entryOfKey (GO (mixKind P w)))/\(xs.map (·.1)).Nodup
 | .set l n=>h.SetOf (intKind P w) a l n
 | .ins C dx fs=>H dx=some (.own a)/\fs.length<=1000/\dx≠a/\h.get? a=some (zo C dx)/\
   ∃c,h.Ns1 dx c/\(∀f,RelO (fs.lookup f) (c f))/\jw c (fs.map (·.1))
 | .own _=>∃o,h.get? a=some o
 | .xd fs=>∃c,h.Ns1 a c/\∀f,RelO (fs.lookup f) (c f)
 | .rng lo k=>∃t u v,h.get? a=some { cls:=.type "range",data:=.fields #[.int lo t,.int k u,.int 1 v] }
 | .frz o u=>h.get? a=some o/\ObjOk H h a u
 | .tbl ps=>h.get? a=some { cls:=.none,data:=.fields ps }
 | .met f x=>h.get? a=some (wK (.ref f) (.ref x))
 | .ext d=>d h/\(∃o,h.get? a=some o)/\∀g i:Heap,d g->(∀o,g.get? a=some o->i.get? a=some o)->d i
def HOk (H:Hp)(h:Heap):Prop:=∀a o,H a=some o->ObjOk P w H h a o
end
section
variable {P:Yg}{w:World}{H H':Hp}{h h':Heap}{a:Addr}{o:HO}
theorem ObjOk.lt (x:ObjOk P w H h a o):a < h.objs.size:=by
 cases o with
 | lst xs=>obtain ⟨_,_,_,_,e⟩:=x;exact ZI e
 | tup xs=>obtain ⟨_,_,_,p⟩:=x;exact p.lt
 | dK b=>obtain ⟨_,_,_,_,o,_,_,e,_⟩:=x;exact ZI e
 | dT b=>obtain ⟨_,_,_,_,o,_,_,e,_⟩:=x;exact ZI e
 | set i n=>obtain ⟨o,_,_,_,e,_⟩:=x;exact ZI e
 | ins C dx fs=>obtain ⟨_,_,_,e,_⟩:=x;exact ZI e
 | own c=>obtain ⟨_,e⟩:=x;exact ZI e
 | xd fs=>obtain ⟨_,⟨_,_,_,e,_⟩,_⟩:=x;exact ZI e
 | rng lo d=>obtain ⟨_,_,_,e⟩:=x;exact ZI e
 | frz ob u=>obtain ⟨e,_⟩:=x;exact ZI e
 | tbl ps=>exact ZI (show h.get? a=some _ from x)
 | met f c=>exact ZI (show h.get? a=some _ from x)
 | ext g=>obtain ⟨_,⟨_,e⟩,_⟩:=x;exact ZI e
theorem yK.mapP {e g:Type}{i j:e->g->Prop}:∀{c:List e} {d:List g},yK i c d->(∀a b,i a b->j a b)->yK j c d
 | _,_,.nil,_=>.nil
 | _,_,.cons r t,f=>.cons (f _ _ r) (yK.mapP t f)
theorem ObjOk.stay (x:ObjOk P w H h a o)(k:∀b u,(b=a\/H b=some (.own a))->h.get? b=some u->h'.get? b=some u)
  (z:∀b,H b=some (.own a)->H' b=some (.own a)) (ht:∀b xs,H b=some (.tup xs)->H' b=some (.tup xs)):ObjOk P w H' h' a o:=by
 induction o with
 | lst xs=>obtain ⟨j,its,n,r,e⟩:=x;exact ⟨j,its,n,r,k _ _ (.inl rfl) e⟩
 | tup xs=>obtain ⟨j,its,r,ob,e,c⟩:=x;exact ⟨j,its,r,ob,k _ _ (.inl rfl) e,c⟩
 | dK y=>obtain ⟨j,l,vs,r,ob,g,i,e,c⟩:=x;exact ⟨j,l,vs,r,ob,g,i,k _ _ (.inl rfl) e,c⟩
 | dT y=>
  obtain ⟨j,l,xs,r,ob,g,i,e,c⟩:=x;exact ⟨j,l,xs,yK.mapP r λ p q j=>⟨j.1,ht _ _ j.2.1,j.2.2⟩,ob,g,i,k _ _ (.inl rfl) e,c⟩
 | set E n=>obtain ⟨ob,g,i,t,e,c⟩:=x;exact ⟨ob,g,i,t,k _ _ (.inl rfl) e,c⟩
 | ins C dx fs=>
  obtain ⟨d,j,ne,e,m,⟨s,g,i,e2,c⟩,r⟩:=x;exact ⟨z _ d,j,ne,k _ _ (.inl rfl) e,m,⟨s,g,i,k _ _ (.inr d) e2,c⟩,r⟩
 | own l=>obtain ⟨ob,e⟩:=x;exact ⟨ob,k _ _ (.inl rfl) e⟩
 | xd fs=>obtain ⟨m,⟨s,g,i,e,c⟩,r⟩:=x;exact ⟨m,⟨s,g,i,k _ _ (.inl rfl) e,c⟩,r⟩
 | rng lo B=>obtain ⟨t,u,v,e⟩:=x;exact ⟨t,u,v,k _ _ (.inl rfl) e⟩
 | frz ob u A=>obtain ⟨e,q⟩:=x;exact ⟨k _ _ (.inl rfl) e,A q⟩
 | tbl ps=>
  have e:h.get? a=some { cls:=.none,data:=.fields ps }:=x;show h'.get? a=some { cls:=.none,data:=.fields ps };exact k a _ (.inl rfl) e
 | met f l=>
  have e:h.get? a=some (wK (.ref f) (.ref l)):=x;show h'.get? a=some (wK (.ref f) (.ref l));exact k a _ (.inl rfl) e
 | ext D=>obtain ⟨p,⟨o,e⟩,st⟩:=x;exact ⟨st _ _ p λ o q=>k _ _ (.inl rfl) q,⟨o,k _ _ (.inl rfl) e⟩,st⟩
theorem HOk.lt (x:HOk P w H h)(e:H a=some o):a < h.objs.size:=(x a o e).lt
theorem HOk.fresh (x:HOk P w H h)(e:h.objs.size<=a):H a=none:=by
 cases q:H a with
 | none=>rfl
 | some u=>exact absurd (W1 (x.lt q) e) (zu _)
theorem HOk.kept (x:HOk P w H h)(k:∀b u,h.get? b=some u->h'.get? b=some u):HOk P w H h':=λ a o e=>
 (x a o e).stay (λ b u _ q=>k b u q) (λ _ q=>q) λ _ _ q=>q
theorem HOk.laid (x:HOk P w H h)(k:∀b u,h.get? b=some u->h'.get? b=some u)(f:h.objs.size<=a)(d:ObjOk P w (upd H a o) h' a o):HOk P w (upd H a o) h':=λ b u e=>by
 have hn:=x.fresh f;by_cases hb:b=a
 ·subst hb;rw [Aj] at e;cases e;exact d
 ·rw [Ax hb] at e;exact (x b u e).stay (λ c v _ q=>k c v q) (λ c q=>by rw [Ax (BZ q hn)];exact q) λ c xs q=>by rw [Ax (BZ q hn)];exact q
end
def Rd (H:Hp)(a:Addr)(u:HO):Prop:=H a=some u\/∃o,H a=some (.frz o u)
theorem Rd.ok {P:Yg}{w:World}{H:Hp}{h:Heap}{a:Addr}{u:HO}(r:Rd H a u)(x:HOk P w H h):ObjOk P w H h a u:=by
 rcases r with r | ⟨o,r⟩
 ·exact x a u r
 ·obtain ⟨_,q⟩:=x a _ r;exact q
def Mut:Option HO->Prop
 | some (.lst _)=>True
 | some (.dK _)=>True
 | some (.dT _)=>True
 | some (.set _ _)=>True
 | some (.ins _ _ _)=>True
 | some (.ext _)=>True
 | _=>False
section
variable {P:Yg}{w:World}{H:Hp}{h h':Heap}{x e:Addr}{o':HO}
theorem HOk.write (ok:HOk P w H h)(g:Mut (H x))(l:e=x\/H e=some (.own x))(k:∀b u,b≠e->h.get? b=some u->h'.get? b=some u)(m:∃u,h'.get? e=some u)
  (n:ObjOk P w (upd H x o') h' x o'):HOk P w (upd H x o') h':=λ b u q=>by
 have f:∀c p,H c=some (.own p)->c≠x:=λ c p r d=>by subst d;rw [r] at g;exact g
 have j:∀c xs,H c=some (.tup xs)->c≠x:=λ c xs r d=>by subst d;rw [r] at g;exact g
 by_cases hb:b=x
 ·subst hb;rw [Aj] at q;cases q;exact n
 ·rw [Ax hb] at q;by_cases a:b=e
  ·have o:H b=some (.own x):=by
    rcases l with d | d
    ·exact absurd (a.trans d) hb
    ·rw [a];exact d
   rw [q] at o;cases o;obtain ⟨v,hv⟩:=m;exact ⟨v,by rw [a];exact hv⟩
  ·refine (ok b u q).stay (λ c v i r=>k c v ?_ r) (λ c r=>by rw [Ax (f c b r)];exact r) λ c xs r=>by rw [Ax (j c xs r)];exact r
   rcases i with rfl | i
   ·exact a
   ·rintro rfl
    rcases l with d | d
    ·exact f c b i d
    ·rw [i] at d;cases d;exact hb rfl
end
structure Un (fs ex:List Addr)(H H':Hp)(h h':Heap):Prop where
 keep:∀b o,h.get? b=some o->H b=none->b∉fs->b∉ex->h'.get? b=some o
 slot:∀b o,h.get? b=some o->H b=none->b∈fs->b∉ex->∃sl,h'.get? b=some { o with slots:=sl }
 free:∀b o,h.get? b=some o->H b=none->b∉ex->H' b=none
 there:∀b o,h.get? b=some o->b∉ex->∃o',h'.get? b=some o'
 tups:∀b xs,H b=some (.tup xs)->H' b=some (.tup xs)
 frzs:∀b o u,H b=some (.frz o u)->H' b=some (.frz o u)
 tbls:∀b ps,H b=some (.tbl ps)->∃more,H' b=some (.tbl (ps++more))
section
variable {fs fs' ex ex':List Addr}{H H1 H2:Hp}{h h1 h2 h':Heap}{a x e:Addr}{o:HO}
theorem Un.any (u:Un fs ex H H1 h h1){b:Addr}{ob:Obj}(q:h.get? b=some ob)(n:H b=none)(c:b∉ex):∃d,h1.get? b=some { ob with slots:=d }:=by
 by_cases hb:b∈fs
 ·exact u.slot b ob q n hb c
 ·exact ⟨ob.slots,u.keep b ob q n hb c⟩
theorem Un.trans (a:Un fs ex H H1 h h1)(b:Un fs ex H1 H2 h1 h2):Un fs ex H H2 h h2 where
 keep:=λ c ob q n f d=>b.keep c ob (a.keep c ob q n f d) (a.free c ob q n d) f d
 slot:=λ c ob q n f d=>by
  obtain ⟨l,e1⟩:=a.slot c ob q n f d;obtain ⟨i,e2⟩:=b.slot c _ e1 (a.free c ob q n d) f d;exact ⟨i,e2⟩
 free:=λ c ob q n d=>by
  obtain ⟨g,e1⟩:=a.there c ob q d;exact b.free c g e1 (a.free c ob q n d) d
 there:=λ c ob q d=>by
  obtain ⟨g,e1⟩:=a.there c ob q d;exact b.there c g e1 d
 tups:=λ c xs q=>b.tups c xs (a.tups c xs q)
 frzs:=λ c ob xs q=>b.frzs c ob xs (a.frzs c ob xs q)
 tbls:=λ c ps q=>by
  obtain ⟨j,e1⟩:=a.tbls c ps q;obtain ⟨k,e2⟩:=b.tbls c _ e1;exact ⟨j++k,by rw [e2,Array.append_assoc]⟩
theorem Un.kept (k:∀b u,h.get? b=some u->h'.get? b=some u):Un fs ex H H h h':=
 ⟨λ b ob q _ _ _=>k b ob q,λ b ob q _ _ _=>⟨ob.slots,k b ob q⟩,λ _ _ _ n _=>n,λ b ob q _=>⟨ob,k b ob q⟩,λ _ _ q=>q,λ _ _ _ q=>q,λ _ ps q=>⟨#[],by rw [q];simp⟩⟩
theorem Un.refl:Un fs ex H H h h:=Un.kept λ _ _ q=>q
theorem Un.laid (k:∀b u,h.get? b=some u->h'.get? b=some u)(c:h.objs.size<=a)(hn:H a=none):Un fs ex H (upd H a o) h h' where
 keep:=λ b u q _ _ _=>k b u q
 slot:=λ b u q _ _ _=>⟨u.slots,k b u q⟩
 free:=λ b u q n _=>by rw [Ax (YO (W1 (ZI q) c))];exact n
 there:=λ b u q _=>⟨u,k b u q⟩
 tups:=λ b xs q=>by rw [Ax (BZ q hn)];exact q
 frzs:=λ b u xs q=>by rw [Ax (BZ q hn)];exact q
 tbls:=λ b ps q=>⟨#[],by rw [Ax (BZ q hn),q];simp⟩
theorem Un.write (d:Mut (H x))(j:e=x\/H e=some (.own x))(k:∀b u,b≠e->h.get? b=some u->h'.get? b=some u)(g:∃u,h'.get? e=some u):Un fs ex H (upd H x o) h h':=by
 have i:∀b,H b=none->b≠x:=λ b n c=>by subst c;rw [n] at d;exact d
 have hb:∀b,H b=none->b≠e:=λ b n c=>by
  subst c;rcases j with r | r
  ·exact i b n r
  ·rw [n] at r;cases r
 have hm:∀b u,H b=some u->¬ Mut (some u)->b≠x:=λ b u q nm c=>by subst c;rw [q] at d;exact nm d
 refine ⟨λ b u q n _ _=>k b u (hb b n) q,λ b u q n _ _=>⟨u.slots,k b u (hb b n) q⟩,λ b u q n _=>by rw [Ax (i b n)];exact n,λ b u q _=>?_,
  λ b xs q=>by rw [Ax (hm b _ q λ c=>c)];exact q,λ b u xs q=>by rw [Ax (hm b _ q λ c=>c)];exact q,λ b ps q=>⟨#[],by rw [Ax (hm b _ q λ c=>c),q];simp⟩⟩
 by_cases f:b=e
 ·subst f;exact g
 ·exact ⟨u,k b u f q⟩
theorem Un.mono (u:Un fs ex H H1 h h1)(g:∀b∈fs,b∈fs')(d:∀b∈ex,b∈ex'):Un fs' ex' H H1 h h1:=
 ⟨λ b ob q n hb c=>u.keep b ob q n (λ f=>hb (g b f)) λ f=>c (d b f),λ _ _ q n _ c=>u.any q n λ f=>c (d _ f),λ b ob q n c=>u.free b ob q n λ f=>c (d b f),λ b ob q c=>u.there b ob q λ f=>c (d b f),u.tups,u.frzs,u.tbls⟩
end
def trk (h:Heap)(H:Hp):List Addr:=(UP h.objs.size).filter λ a=>(H a).isSome
def hidT (h:Heap)(H:Hp):Heap:=UF h (trk h H)
theorem cF (h:Heap)(H:Hp):(hidT h H).objs.size=h.objs.size:=PySem.W.hideAll_size _ _
theorem uU {h:Heap}{H:Hp}{b:Addr}{o:Obj}(e:h.get? b=some o)(n:H b=none):(hidT h H).get? b=some o:=
 yI _ e λ hm=>by
  have q:(H b).isSome=true:=(List.mem_filter.mp hm).2;rw [n] at q;simp at q
theorem uG {h:Heap}{H:Hp}{b:Addr}{o:Obj}(e:(hidT h H).get? b=some o):h.get? b=some o/\H b=none:=by
 have a:h.get? b=some o:=JG (trk h H) e;refine ⟨a,?_⟩;cases q:H b with
 | none=>rfl
 | some x=>
  have hm:b∈trk h H:=List.mem_filter.mpr ⟨List.mem_range.mpr (ZI a),by simp [q]⟩
  have c:(hidT h H).get? b=none:=xI (trk h H) hm;rw [c] at e;cases e
structure Mod (K:FrG)(mg:Str->Option Value)(base:Heap):Prop where
 kin:K.In base
 glob:base.Ns ZY mg
 blt:∃mb,base.Ns builtinsNs mb/\∀x:Str,x≠"__name__"->mb x=Jn x
 nolimit:base.NoLimit
structure Cx where
 prog:Yg
 w:World
 K:FrG
 mg:Str->Option Value
 base:Heap
 A:XE
 N:List Str
 s₀:X1
 H₀:Hp
 env:Env
 outer:List Env
 stack:List Env
 ex:List Addr
 fn:Str->Bool
 calm:Bool
 pn:List (Addr×Obj)
 xe:Value->X1->Prop
def frs (l:List Env):List Addr:=l.filterMap (·.frame)
abbrev Cx.fs (X:Cx):List Addr:=frs X.outer
def Vis (a:Scope)(x:Str):Prop:=a.names.lookup x=some .local\/a.names.lookup x=some .cell\/a.names.lookup x=some .free
def Loc (a:Scope)(x:Str):Prop:=a.names.lookup x=some .local\/a.names.lookup x=some .cell
def Look (env:Env)(h:Heap)(m:Str->Option Value)(x:Str)(u:Value):Prop:=
 (env.kindOf x=some .local/\m x=some u)\/((env.kindOf x=some .cell\/env.kindOf x=some .free)/\∃c,env.cells.lookup x=some c/\h.IsCell c (some u))
structure Cx.Ok (X:Cx):Prop where
 mod:Mod X.K X.mg X.base
 kind:X.env.scope.kind=.function
 glob:X.env.globals=ZY
 blt:X.env.builtins=builtinsNs
 above:X.s₀.heap.objs.size<=X.env.locals
 inj:∀x y c,X.env.cells.lookup x=some c->X.env.cells.lookup y=some c->x=y
 has:∀x,(X.env.kindOf x=some .cell\/X.env.kindOf x=some .free)->∃c,X.env.cells.lookup x=some c
 cab:∀x c,X.fn x=true->X.env.cells.lookup x=some c->X.s₀.heap.objs.size<=c
 hd:X.calm=true->X.A.handled=none
 frames:X.A.frames=some X.stack
 stk:X.stack=X.outer\/(X.stack=X.env::X.outer/\X.env.frame=some X.env.locals)
 exf:∀b∈X.ex,b≠X.env.locals/\∀x c,X.env.cells.lookup x=some c->c≠b
 bs:∀b o,X.base.get? b=some o->X.s₀.heap.get? b=some o/\X.H₀ b=none
 bsz:X.base.objs.size<=X.s₀.heap.objs.size
 noex:∀b o,X.base.get? b=some o->b∉X.ex
 exfs:∀b∈X.ex,b∉X.fs
 funs:X.s₀.heap.FunFrames X.base X.outer
 frf:∀b∈X.fs,X.H₀ b=none
structure Inv (X:Cx)(pins:List (Addr×Obj))(σ:List (Option V))(H:Hp)(s:X1):Prop where
 ok:X.Ok
 os:s.os=X.s₀.os
 bare:yG s.gens
 base:Un X.fs X.ex X.H₀ H X.s₀.heap s.heap
 loc:∃m,s.heap.Ns X.env.locals m/\∀(i:Nat) (x:Str) (v:V),X.N[i]?=some x->σ[i]?=some (some v)->Vis X.env.scope x->∃u,RelV v u/\Look X.env s.heap m x u
 cell:∀x c,X.env.cells.lookup x=some c->∃v,s.heap.IsCell c v
 free:H X.env.locals=none
 freeC:∀x c,X.env.cells.lookup x=some c->H c=none
 pin:∀p∈X.pn++pins,s.heap.get? p.1=some p.2/\H p.1=none/\p.1≠X.env.locals/\p.1∉X.fs/\∀v,p.2.data≠.cell v
 hok:HOk X.prog X.w H s.heap
 len:σ.length=X.N.length
 tk:1<=s.toks
section
variable {X:Cx}{pins:List (Addr×Obj)}{σ:List (Option V)}{H H':Hp}{s:X1}{h':Heap}
theorem Cx.Ok.nofr (ok:X.Ok){b:Addr}{o:Obj}(e:X.base.get? b=some o):b∉X.fs:=λ hb=>by
 have:=(ok.funs.mem hb).1;rw [e] at this;cases this
theorem Inv.bs (a:Inv X pins σ H s):∀b o,X.base.get? b=some o->s.heap.get? b=some o/\H b=none:=λ b o e=>
 ⟨a.base.keep b o (a.ok.bs b o e).1 (a.ok.bs b o e).2 (a.ok.nofr e) (a.ok.noex b o e),a.base.free b o (a.ok.bs b o e).1 (a.ok.bs b o e).2 (a.ok.noex b o e)⟩
theorem Inv.bk (a:Inv X pins σ H s):∀b o,X.base.get? b=some o->s.heap.get? b=some o:=λ b o e=>(a.bs b o e).1
theorem Inv.mod (a:Inv X pins σ H s):Mod X.K X.mg X.base:=a.ok.mod
theorem Inv.kIn (a:Inv X pins σ H s):X.K.In s.heap:=a.ok.mod.kin.keeps a.bk
theorem Inv.lt (a:Inv X pins σ H s):X.env.locals < s.heap.objs.size:=let ⟨_,hn,_⟩:=a.loc;hn.lt
theorem Inv.sz (a:Inv X pins σ H s):X.s₀.heap.objs.size<=s.heap.objs.size:=U2 a.ok.above (JA a.lt)
theorem Inv.nofs (c:Inv X pins σ H s){a:Addr}(h:s.heap.objs.size<=a):a∉X.fs:=λ hb=>by
 obtain ⟨_,o,b,_⟩:=c.ok.funs.mem hb;exact absurd (W1 (ZI b) (U2 c.sz h)) (zu _)
theorem Inv.cne (f:Inv X pins σ H s):∀x c,X.env.cells.lookup x=some c->c≠X.env.locals:=λ x c e g=>by
 obtain ⟨v,o,a,hd⟩:=f.cell x c e;obtain ⟨m,⟨h,i,j,b,d,_⟩,_⟩:=f.loc;rw [g,b] at a;cases a;rw [d] at hd;cases hd
theorem Inv.funs (f:Inv X pins σ H s):s.heap.FunFrames X.base X.outer:=by
 have all:∀(l:List Env),(∀b∈frs l,b∈X.fs)->X.s₀.heap.FunFrames X.base l->s.heap.FunFrames X.base l:=by
  intro l
  induction l with
  | nil=>intro _ _;trivial
  | cons env r g=>
   intro d hl;obtain ⟨h,⟨c,o,hf,hn,i,hd⟩,j⟩:=hl;have a:c∈X.fs:=d c (by unfold frs;rw [QY,hf];exact ZU)
   obtain ⟨k,e⟩:=f.base.slot c o i (f.ok.frf c a) a λ m=>f.ok.exfs c m a
   exact ⟨h,⟨c,_,hf,hn,e,hd⟩,g (λ b hb=>d b (by unfold frs;rw [QY,hf];exact Ya _ hb)) j⟩
 exact all X.outer (λ _ hb=>hb) f.ok.funs
theorem Inv.stack (a:Inv X pins σ H s):s.heap.FunFrames X.base X.stack:=by
 rcases a.ok.stk with e | ⟨e,hf⟩
 ·rw [e];exact a.funs
 ·rw [e];obtain ⟨m,hn,_⟩:=a.loc;refine .cons (by rw [a.ok.kind];decide) hf hn ?_ a.funs
  exact zH (U2 a.ok.bsz a.ok.above)
theorem Inv.stkSub (a:Inv X pins σ H s):∀b∈frs X.stack,b∈X.env.locals::X.fs:=λ b hb=>by
 rcases a.ok.stk with e | ⟨e,hf⟩
 ·rw [e] at hb;exact Ya _ hb
 ·rw [e] at hb;unfold frs at hb;rw [QY,hf] at hb;exact hb
theorem Inv.stkFree (a:Inv X pins σ H s):∀b∈frs X.stack,H b=none:=λ b hb=>by
 rcases ZT.mp (a.stkSub b hb) with e | hb
 ·rw [e];exact a.free
 ·obtain ⟨_,o,c,_⟩:=a.ok.funs.mem hb;exact a.base.free b o c (a.ok.frf b hb) λ d=>a.ok.exfs b d hb
theorem Inv.step {g':Array GenState}{t':Nat}{d':Drawn}{ch:List Addr}(f:Inv X pins σ H s)
  (g:∀b∈ch,(b∈X.ex\/X.s₀.heap.objs.size<=b)/\b≠X.env.locals/\(∀x c,X.env.cells.lookup x=some c->c≠b)/\∀p∈X.pn++pins,p.1≠b)
  (keep:∀b o,b≠X.env.locals->b∉X.fs->b∉ch->s.heap.get? b=some o->H b=none->h'.get? b=some o)
  (slot:∀b o,b≠X.env.locals->b∈X.fs->b∉ch->s.heap.get? b=some o->H b=none->∃C,h'.get? b=some { o with slots:=C }) (free:∀b o,b∉ch->s.heap.get? b=some o->H b=none->H' b=none)
  (there:∀b o,b∉ch->s.heap.get? b=some o->∃A,h'.get? b=some A)
  (tups:∀b xs,H b=some (.tup xs)->H' b=some (.tup xs)) (frzs:∀b o u,H b=some (.frz o u)->H' b=some (.frz o u)) (tbls:∀b ps,H b=some (.tbl ps)->∃more,H' b=some (.tbl (ps++more)))
  (ns:∀m,s.heap.Ns X.env.locals m->h'.Ns X.env.locals m) (hok:HOk X.prog X.w H' h') (I:yG g') (ht:1<=t':=by first | assumption | exact Inv.tk (by assumption) | exact YU _ _ | omega):
  Inv X pins σ H' { s with heap:=h',gens:=g',drawn:=d',toks:=t' }:=by
 have B:∀b o,X.s₀.heap.get? b=some o->b≠X.env.locals:=λ b o e=>YO (W1 (ZI e) f.ok.above)
 have t:∀b o,X.s₀.heap.get? b=some o->b∉X.ex->b∉ch:=λ b o e a hb=>by
  rcases (g b hb).1 with j | j
  ·exact a j
  ·exact absurd (W1 (ZI e) j) (zu _)
 have y:∀x c,X.env.cells.lookup x=some c->∀v,s.heap.IsCell c v->h'.IsCell c v:=λ x c e v ⟨o,z,hd⟩=>by
  have h:c∉ch:=λ j=>(g c j).2.2.1 x c e rfl
  by_cases D:c∈X.fs
  ·obtain ⟨C,q⟩:=slot c o (f.cne x c e) D h z (f.freeC x c e);exact ⟨_,q,hd⟩
  ·exact ⟨o,keep c o (f.cne x c e) D h z (f.freeC x c e),hd⟩
 refine ⟨f.ok,f.os,I,⟨λ b o e n hb a=>?_,λ b o e n hb a=>?_,λ b o e n a=>?_,λ b o e a=>?_,λ b xs e=>tups b xs (f.base.tups b xs e),λ b o xs e=>frzs b o xs (f.base.frzs b o xs e),λ b ps e=>?_⟩,?_,λ x c e=>?_,?_,λ x c e=>?_,λ p E=>?_,hok,f.len,ht⟩
 ·exact keep b o (B b o e) hb (t b o e a) (f.base.keep b o e n hb a) (f.base.free b o e n a)
 ·obtain ⟨C,e1⟩:=f.base.slot b o e n hb a;obtain ⟨F,e2⟩:=slot b _ (B b o e) hb (t b o e a) e1 (f.base.free b o e n a);exact ⟨F,e2⟩
 ·obtain ⟨A,e1⟩:=f.base.there b o e a;exact free b A (t b o e a) e1 (f.base.free b o e n a)
 ·obtain ⟨A,e1⟩:=f.base.there b o e a;exact there b A (t b o e a) e1
 ·obtain ⟨J,e1⟩:=f.base.tbls b ps e;obtain ⟨K,e2⟩:=tbls b _ e1;exact ⟨J++K,by rw [e2,Array.append_assoc]⟩
 ·obtain ⟨m,hn,hl⟩:=f.loc;refine ⟨m,ns m hn,λ i x v e1 e2 L=>?_⟩
  obtain ⟨u,r,l⟩:=hl i x v e1 e2 L;refine ⟨u,r,?_⟩;rcases l with l | ⟨k,c,e,j⟩
  ·exact .inl l
  ·exact .inr ⟨k,c,e,y x c e _ j⟩
 ·obtain ⟨v,j⟩:=f.cell x c e;exact ⟨v,y x c e v j⟩
 ·obtain ⟨m,⟨o,_,_,z,_⟩,_⟩:=f.loc;exact free _ o (λ j=>(g _ j).2.1 rfl) z f.free
 ·obtain ⟨v,o,z,hd⟩:=f.cell x c e;exact free c o (λ j=>(g c j).2.2.1 x c e rfl) z (f.freeC x c e)
 ·obtain ⟨e,n,ne,G,d⟩:=f.pin p E;have h:p.1∉ch:=λ j=>(g p.1 j).2.2.2 p E rfl
  exact ⟨keep p.1 p.2 ne G h e n,free p.1 p.2 h e n,ne,G,d⟩
theorem Inv.un {t':Nat}(g:Inv X pins σ H s)(u:Un X.fs [] H H' s.heap h')(hok:HOk X.prog X.w H' h')(ht:1<=t':=by first | assumption | exact Inv.tk (by assumption) | exact YU _ _ | omega):Inv X pins σ H' { s with heap:=h',toks:=t' }:=by
 obtain ⟨m,⟨o,j,k,c,r⟩,_⟩:=id g.loc;obtain ⟨l,h⟩:=u.any c g.free (by simp)
 exact g.step (g':=s.gens) (d':=s.drawn) (ch:=[]) (λ _ p=>nomatch p) (λ b o _ hb _ e n=>u.keep b o e n hb (by simp)) (λ b o _ hb _ e n=>u.slot b o e n hb (by simp)) (λ b o _ e n=>u.free b o e n (by simp)) (λ b o _ e=>u.there b o e (by simp)) u.tups u.frzs u.tbls (λ q hm=>by
  obtain ⟨t,d,f,a,i⟩:=hm;rw [c] at a;cases a;exact ⟨_,d,f,h,i⟩) hok g.bare
theorem Inv.call {g':Array GenState}{t':Nat}{d':Drawn}{ch:List Addr}(k:Inv X pins σ H s)(u:Un (frs X.stack) ch H H' s.heap h')(hok:HOk X.prog X.w H' h')(l:yG g')
  (d:∀b∈ch,(b∈X.ex\/X.s₀.heap.objs.size<=b)/\b≠X.env.locals/\(∀x c,X.env.cells.lookup x=some c->c≠b)/\∀p∈X.pn++pins,p.1≠b) (ht:1<=t':=by first | assumption | exact Inv.tk (by assumption) | exact YU _ _ | omega):
  Inv X pins σ H' { s with heap:=h',gens:=g',drawn:=d',toks:=t' }:=by
 obtain ⟨m,⟨o,v,y,h,r⟩,_⟩:=id k.loc;obtain ⟨z,g⟩:=u.any h k.free λ q=>(d _ q).2.1 rfl
 exact k.step (ch:=ch) d (λ b o g hb a e n=>u.keep b o e n (λ q=>(ZT.mp (k.stkSub b q)).elim g hb) a) (λ b o _ _ a e n=>u.any e n a) (λ b o a e n=>u.free b o e n a) (λ b o a e=>u.there b o e a) u.tups u.frzs u.tbls (λ A hm=>by
  obtain ⟨B,i,j,f,t⟩:=hm;rw [h] at f;cases f;exact ⟨_,i,j,g,t⟩) hok l
theorem Inv.turned {t':Nat}{it:Addr}(h:Inv X pins σ H s)(k:∀b o,b≠it->s.heap.get? b=some o->h'.get? b=some o)(hn:H it=none)(g:it≠X.env.locals)
  (i:it∈X.ex\/X.s₀.heap.objs.size<=it) (j:∀x c,X.env.cells.lookup x=some c->c≠it) (l:∀p∈X.pn++pins,p.1≠it) (ht:1<=t':=by first | assumption | exact Inv.tk (by assumption) | exact YU _ _ | omega):Inv X pins σ H { s with heap:=h',toks:=t' }:=by
 have f:∀b u,H b=some u->b≠it:=λ b u e d=>by rw [d,hn] at e;cases e
 refine h.step (g':=s.gens) (d':=s.drawn) (ch:=[it]) (λ b hb=>?_) (λ b o _ _ a e _=>k b o (λ d=>a (by simp [d])) e) (λ b o _ _ a e _=>⟨o.slots,k b o (λ d=>a (by simp [d])) e⟩) (λ _ _ _ _ n=>n)
  (λ b o a e=>⟨o,k b o (λ d=>a (by simp [d])) e⟩) (λ _ _ e=>e) (λ _ _ _ e=>e) (λ b ps e=>⟨#[],by rw [e];simp⟩) (λ m hm=>?_) (λ b u e=>?_) h.bare
 ·have e:b=it:=by simpa using hb
  subst e;exact ⟨i,g,j,l⟩
 ·obtain ⟨o,t,w,y,r⟩:=hm;exact ⟨o,t,w,k _ o (WU g) y,r⟩
 ·refine (h.hok b u e).stay (λ c v a q=>k c v ?_ q) (λ _ q=>q) λ _ _ q=>q
  rcases a with d | d
  ·rw [d];exact f b u e
  ·exact f c _ d
theorem Inv.tok (a:Inv X pins σ H s)(t:Nat)(ht:1<=t:=by first | assumption | exact Inv.tk (by assumption) | exact YU _ _ | omega):Inv X pins σ H { s with toks:=t }:=a.un (h':=s.heap) (t':=t) Un.refl a.hok
theorem Inv.kept {t':Nat}(a:Inv X pins σ H s)(k:∀b u,s.heap.get? b=some u->h'.get? b=some u)(ht:1<=t':=by first | assumption | exact Inv.tk (by assumption) | exact YU _ _ | omega):Inv X pins σ H { s with heap:=h',toks:=t' }:=a.un (Un.kept k) (a.hok.kept k)
theorem Inv.laid {a:Addr}{o:HO}{t':Nat}(e:Inv X pins σ H s)(k:∀b u,s.heap.get? b=some u->h'.get? b=some u)(c:s.heap.objs.size<=a)(d:ObjOk X.prog X.w (upd H a o) h' a o)(ht:1<=t':=by first | assumption | exact Inv.tk (by assumption) | exact YU _ _ | omega):
  Inv X pins σ (upd H a o) { s with heap:=h',toks:=t' }:=e.un (Un.laid k c (e.hok.fresh c)) (e.hok.laid k c d)
theorem Inv.write {x e:Addr}{o:HO}{t':Nat}(g:Inv X pins σ H s)(c:Mut (H x))(d:e=x\/H e=some (.own x))(k:∀b u,b≠e->s.heap.get? b=some u->h'.get? b=some u)(a:∃u,h'.get? e=some u)
  (f:ObjOk X.prog X.w (upd H x o) h' x o) (ht:1<=t':=by first | assumption | exact Inv.tk (by assumption) | exact YU _ _ | omega):Inv X pins σ (upd H x o) { s with heap:=h',toks:=t' }:=g.un (Un.write c d k a) (g.hok.write c d k a f)
theorem Inv.pins_of {a:List (Addr×Obj)}(b:Inv X pins σ H s)(h:∀p∈a,s.heap.get? p.1=some p.2/\H p.1=none/\p.1≠X.env.locals/\p.1∉X.fs/\∀v,p.2.data≠.cell v):Inv X a σ H s:=
 ⟨b.ok,b.os,b.bare,b.base,b.loc,b.cell,b.free,b.freeC,λ p c=>(XA.mp c).elim (λ d=>b.pin p (UX _ d)) (h p),b.hok,b.len,b.tk⟩
theorem Sh {N:List Str}(c:N.Nodup){i j:Nat}{x:Str}(a:N[i]?=some x)(b:N[j]?=some x):i=j:=by
 obtain ⟨d,e1⟩:=UE.mp a;obtain ⟨e,e2⟩:=UE.mp b;exact (List.getElem_inj c).mp (e1.trans e2.symm)
theorem cO {M:Model}{A:XE}{E:Value->X1->Prop}{i:Nat}{x:Str}{v:V}{u:Value}{Q:Unit->X1->Prop}(f:Inv X pins σ H s)(a4:X.N.Nodup)(D:X.N[i]?=some x)(t:Loc X.env.scope x)(r:RelV v u)
  (h:∀s',Inv X pins (σ.set i (some v)) H s'->(∃a,JT a s.heap s'.heap/\(a=X.env.locals\/X.env.cells.lookup x=some a))->Q () s') (hf:X.fn x=true\/X.env.scope.names.lookup x=some .local:=by first | exact .inl rfl | exact .inr rfl | assumption):wpAny M A (storeName X.env x u) Q E s:=by
 obtain ⟨m,hn,hl⟩:=id f.loc;have S:(X.env.scope.kind == .class || (X.env.scope.kind == .module && X.env.locals != X.env.globals))=false:=by rw [f.ok.kind];rfl
 have F:i < σ.length:=by rw [f.len];exact (UE.mp D).1
 have cne:=f.cne;have y:∀{a:Addr} {h':Heap},(∃o,s.heap.get? a=some o/\H a=none)->JT a s.heap h'->HOk X.prog X.w H h':=λ {a h'} ha g b ob e=>by
  obtain ⟨_,_,C⟩:=ha;refine (f.hok b ob e).stay (λ c K l q=>(g.2 c ?_).trans q) (λ _ q=>q) λ _ _ q=>q
  rintro rfl
  rcases l with rfl | l
  ·rw [C] at e;cases e
  ·rw [C] at l;cases l
 rcases t with z | z
 ·refine wpAny_storeName_local z hn (λ h' a5 g=>?_) S
  obtain ⟨a8,_,_,a6,_⟩:=id hn;refine h _ ⟨f.ok,f.os,f.bare,⟨λ b o e n hb t=>?_,λ b o e n hb t=>?_,f.base.free,λ b o e t=>?_,f.base.tups,f.base.frzs,f.base.tbls⟩,⟨_,a5,λ j I T e1 e2 U=>?_⟩,λ I c e=>?_,f.free,f.freeC,λ p W=>?_,y ⟨a8,a6,f.free⟩ g,by simpa using f.len,YU _ _⟩ ⟨_,g,.inl rfl⟩
  ·exact (g.2 b (YO (W1 (ZI e) f.ok.above))).trans (f.base.keep b o e n hb t)
  ·obtain ⟨Y,e1⟩:=f.base.slot b o e n hb t;exact ⟨Y,(g.2 b (YO (W1 (ZI e) f.ok.above))).trans e1⟩
  ·obtain ⟨Z,e1⟩:=f.base.there b o e t;exact ⟨Z,(g.2 b (YO (W1 (ZI e) f.ok.above))).trans e1⟩
  ·by_cases B:j=i
   ·subst B;rw [D] at e1;cases e1;rw [xk F] at e2;cases e2
    exact ⟨u,r,.inl ⟨z,by simp⟩⟩
   ·rw [xJ (WU B)] at e2;obtain ⟨a0,a1,q⟩:=hl j I T e1 e2 U;refine ⟨a0,a1,?_⟩;rcases q with ⟨k,e⟩ | ⟨k,c,e,J⟩
    ·refine .inl ⟨k,?_⟩;have:I≠x:=λ e=>B (Sh a4 e1 (e▸D))
     simp [this,e]
    ·exact .inr ⟨k,c,e,J.sameBut g (cne I c e)⟩
  ·obtain ⟨K,J⟩:=f.cell I c e;exact ⟨K,J.sameBut g (cne I c e)⟩
  ·obtain ⟨e,n,ne,a2,d⟩:=f.pin p W;exact ⟨(g.2 p.1 ne).trans e,n,ne,a2,d⟩
 ·have G:X.fn x=true:=by
   rcases hf with J | J
   ·exact J
   ·rw [J] at z;cases z
  obtain ⟨c,l⟩:=f.ok.has x (.inl z);obtain ⟨K,J⟩:=f.cell x c l;refine wpAny_storeName_cell f.ok.kind z l J (λ h' O g=>?_)
  obtain ⟨a7,P,a3⟩:=id J;refine h { s with heap:=h' } ⟨f.ok,f.os,f.bare,⟨λ b o e n hb t=>?_,λ b o e n hb t=>?_,f.base.free,λ b o e t=>?_,f.base.tups,f.base.frzs,f.base.tbls⟩,⟨m,hn.sameBut g (WU (cne x c l)),λ j I T e1 e2 U=>?_⟩,λ I L e=>?_,f.free,f.freeC,λ p W=>?_,y ⟨a7,P,f.freeC x c l⟩ g,by simpa using f.len,f.tk⟩ ⟨c,g,.inr l⟩
  ·exact (g.2 b (YO (W1 (ZI e) (f.ok.cab x c G l)))).trans (f.base.keep b o e n hb t)
  ·obtain ⟨Y,e1⟩:=f.base.slot b o e n hb t;exact ⟨Y,(g.2 b (YO (W1 (ZI e) (f.ok.cab x c G l)))).trans e1⟩
  ·obtain ⟨Z,e1⟩:=f.base.there b o e t;exact ⟨Z,(g.2 b (YO (W1 (ZI e) (f.ok.cab x c G l)))).trans e1⟩
  ·by_cases B:j=i
   ·subst B;rw [D] at e1;cases e1;rw [xk F] at e2;cases e2
    exact ⟨u,r,.inr ⟨.inl z,c,l,O⟩⟩
   ·rw [xJ (WU B)] at e2;obtain ⟨a0,a1,q⟩:=hl j I T e1 e2 U;refine ⟨a0,a1,?_⟩;rcases q with q | ⟨k,L,e,a9⟩
    ·exact .inl q
    ·refine .inr ⟨k,L,e,a9.sameBut g ?_⟩;rintro rfl
     exact B (Sh a4 e1 (f.ok.inj _ _ _ e l▸D))
  ·by_cases R:L=c
   ·subst R;exact ⟨_,O⟩
   ·obtain ⟨b0,b1⟩:=f.cell I L e;exact ⟨b0,b1.sameBut g R⟩
  ·obtain ⟨e,n,ne,a2,d⟩:=f.pin p W;refine ⟨(g.2 p.1 ?_).trans e,n,ne,a2,d⟩;intro q;rw [q,P] at e;have b2:a7=p.2:=UN e;exact d K (by rw [<- b2];exact a3)
theorem Fo {M:Model}{A:XE}{E:Value->X1->Prop}{i:Nat}{x:Str}{v:V}{u:Value}{Q:Unit->X1->Prop}(e:Inv X pins σ H s)(a:X.N.Nodup)(b:X.N[i]?=some x)(c:Loc X.env.scope x)(r:RelV v u)
  (h:∀s',Inv X pins (σ.set i (some v)) H s'->Q () s') (hf:X.fn x=true\/X.env.scope.names.lookup x=some .local:=by first | exact .inl rfl | exact .inr rfl | assumption):wpAny M A (storeName X.env x u) Q E s:=
 cO e a b c r (λ s' d _=>h s' d) hf
theorem Inv.call' {s':X1}{ch:List Addr}(h:Inv X pins σ H s)(d:s'.os=s.os)(u:Un (frs X.stack) ch H H' s.heap s'.heap)(hok:HOk X.prog X.w H' s'.heap)(f:yG s'.gens)
  (a:∀b∈ch,(b∈X.ex\/X.s₀.heap.objs.size<=b)/\b≠X.env.locals/\(∀x c,X.env.cells.lookup x=some c->c≠b)/\∀p∈X.pn++pins,p.1≠b) (ht:1<=s'.toks:=by first | assumption | exact Inv.tk (by assumption) | exact YU _ _ | omega):Inv X pins σ H' s':=by
 obtain ⟨h',g',d',t',g⟩:=s';have e:g=s.os:=d;subst e;exact h.call (g':=g') (t':=t') (d':=d') u hok f a
end
abbrev XK:=Value->Option Addr->Hp->Prop
abbrev St:=List (Option V)
abbrev VK:=V->Hp->Prop
abbrev TE:=St->Hp->VK->Prop
abbrev TT:=St->Hp->(Bool->Hp->Prop)->Prop
abbrev TA:=St->Hp->(List V->Hp->Prop)->Prop
structure Ends where
 nx:St->Hp->Prop
 rt:VK
 bk:St->Hp->Prop:=λ _ _=>False
 ct:St->Hp->Prop:=λ _ _=>False
abbrev TS:=Ends->St->Hp->Prop
def EP (X:Cx)(a:List (Addr×Obj))(c:St)(Q:VK)(u:Value)(s':X1):Prop:=∃v b,Inv X a c b s'/\RelV v u/\Q v b
def TP (X:Cx)(a:List (Addr×Obj))(d:St)(Q:Bool->Hp->Prop)(b:Bool)(s':X1):Prop:=∃c,Inv X a d c s'/\Q b c
def AP (X:Cx)(a:List (Addr×Obj))(c:St)(Q:List V->Hp->Prop)(us:List Value)(s':X1):Prop:=∃vs b,Inv X a c b s'/\Vals vs us/\Q vs b
def SP (X:Cx)(c:List (Addr×Obj))(d:Ends)(f:Flow)(s':X1):Prop:=
 match f with
 | .next=>∃a b,Inv X c a b s'/\d.nx a b
 | .brk=>∃a b,Inv X c a b s'/\d.bk a b
 | .cont=>∃a b,Inv X c a b s'/\d.ct a b
 | .ret u=>∃v a b,Inv X c a b s'/\RelV v u/\d.rt v b
def PE (X:Cx)(e:Expr)(t:TE):Prop:=
 ∀(a:List (Addr×Obj)) (s:X1) (b:St) (H:Hp) (Q:VK),Inv X a b H s->t b H Q->wpAny (model X.prog X.w) X.A (eval e X.env) (EP X a b Q) X.xe s
def PT (X:Cx)(e:Expr)(t:TT):Prop:=
 ∀(a:List (Addr×Obj)) (s:X1) (b:St) (H:Hp) (Q:Bool->Hp->Prop),Inv X a b H s->t b H Q->wpAny (model X.prog X.w) X.A (GH e X.env (eval e X.env)) (TP X a b Q) X.xe s
def PW (X:Cx)(e:Expr)(t:TT):Prop:=
 ∀(b:Sem Value) (a:List (Addr×Obj)) (s:X1) (c:St) (H:Hp) (Q:Bool->Hp->Prop),Inv X a c H s->t c H Q->wpAny (model X.prog X.w) X.A (GH e X.env b) (TP X a c Q) X.xe s
theorem PW.pt {X:Cx}{e:Expr}{t:TT}(h:PW X e t):PT X e t:=h _
def PA (X:Cx)(c:List Expr)(t:TA):Prop:=
 ∀(pos:Pos) (a:List (Addr×Obj)) (s:X1) (b:St) (H:Hp) (Q:List V->Hp->Prop),Inv X a b H s->t b H Q->wpAny (model X.prog X.w) X.A (spliced (QK pos (YM c X.env))) (AP X a b Q) X.xe s
def PS (X:Cx)(st:Stmt)(t:TS):Prop:=
 ∀(a:List (Addr×Obj)) (s:X1) (b:St) (H:Hp) (c:Ends),Inv X a b H s->t c b H->wpAny (model X.prog X.w) X.A (exec st X.env) (SP X a c) X.xe s
def PSs (X:Cx)(st:List Stmt)(t:TS):Prop:=
 ∀(a:List (Addr×Obj)) (s:X1) (b:St) (H:Hp) (c:Ends),Inv X a b H s->t c b H->wpAny (model X.prog X.w) X.A (execs st X.env) (SP X a c) X.xe s
theorem thn {b:Type}{t:Sem b}{Q c:b->X1->Prop}{M:Model}{A:XE}{E:Value->X1->Prop}{s:X1}(h:wpAny M A t Q E s)(d:∀a s,Q a s->c a s):wpAny M A t c E s:=XW h d λ _ _ x=>x
section
variable {X:Cx}
def tVar (i:Nat):TE:=λ a H Q=>∃v,a[i]?=some (some v)/\Q v H
def tC (v:V):TE:=λ _ H Q=>Q v H
theorem jf {i:Nat}{x:Str}{pos:Pos}(k:X.N[i]?=some x)(hv:Vis X.env.scope x)(hd:(x == ("__debug__":Str))=false:=by decide)(f:(x == ("__classdict__":Str))=false:=by decide):PE X (.Name x pos) (tVar i):=by
 intro d s n H Q g h;obtain ⟨v,e,h⟩:=h;obtain ⟨m,hn,hl⟩:=g.loc;obtain ⟨u,r,l⟩:=hl i x v k e hv;have b:EP X d n Q u s:=⟨v,H,g,r,h⟩;rcases l with ⟨a,hm⟩ | ⟨a,c,j,hcell⟩
 ·exact wpAny_Name (xL g.ok.kind a hn hm b) hd
 ·rcases a with a | a
  ·exact wpAny_Name (wpAny_loadName_cell g.ok.kind a j hcell b) hd
  ·exact wpAny_Name (wpAny_loadName_free g.ok.kind a j hcell b f) hd
theorem Ab {i j pos}:PE X (.Constant (.int i) j pos) (tC (.int i)):=λ _ _ _ H _ a h=>wpAny_Constant_int ⟨.int i,H,a.tok _,⟨_,rfl⟩,h⟩
theorem Dd {b j pos}:PE X (.Constant (.bool b) j pos) (tC (.bl b)):=λ _ _ _ H _ a h=>Constant_bool ⟨.bl b,H,a,rfl,h⟩
theorem Hh {j pos}:PE X (.Constant .none j pos) (tC .non):=λ _ _ _ H _ a h=>Constant_none ⟨.non,H,a,rfl,h⟩
theorem Af {x j pos}:PE X (.Constant (.str x) j pos) (tC (.str x)):=λ _ _ _ H _ a h=>wm ⟨.str x,H,a.tok _,⟨⟨_,WB a.tk⟩,rfl⟩,h⟩
def Gl (X:Cx)(x:Str):Prop:=X.env.kindOf x=some .globalImplicit
theorem EY {E:Value->X1->Prop}{a:List (Addr×Obj)}{s:X1}{c:St}{H:Hp}{x:Str}{u:Value}{pos:Pos}{Q:Value->X1->Prop}(b:Inv X a c H s)(d:Gl X x)(hm:X.mg x=some u)(h:Q u s)
  (hd:(x == ("__debug__":Str))=false:=by decide):wpAny (model X.prog X.w) X.A (eval (.Name x pos) X.env) Q E s:=
 yw b.ok.kind d (uk (by rw [b.ok.glob];exact b.mod.glob.keeps b.bk) hm h) hd
theorem HR {E:Value->X1->Prop}{a:List (Addr×Obj)}{s:X1}{c:St}{H:Hp}{x:Str}{u:Value}{pos:Pos}{Q:Value->X1->Prop}(b:Inv X a c H s)(d:Gl X x)(hm:X.mg x=none)(hv:Jn x=some u)(h:Q u s)
  (hn:x≠"__name__":=by decide) (hd:(x == ("__debug__":Str))=false:=by decide):wpAny (model X.prog X.w) X.A (eval (.Name x pos) X.env) Q E s:=by
 obtain ⟨g,e,f⟩:=b.mod.blt;exact yw b.ok.kind d (Calls.loadGlobal_builtin (by rw [b.ok.glob];exact b.mod.glob.keeps b.bk) hm (by rw [b.ok.blt];exact e.keeps b.bk) ((f x hn).trans hv) h) hd
theorem Bm {x:Str}{v:V}{u:Value}{pos:Pos}(a:Gl X x)(hm:X.mg x=some u)(r:RelV v u)(hd:(x == ("__debug__":Str))=false:=by decide):PE X (.Name x pos) (tC v):=
 λ _ _ _ H _ b h=>EY b a hm ⟨v,H,b,r,h⟩ hd
theorem Df {x:Str}{v:V}{u:Value}{pos:Pos}(a:Gl X x)(hm:X.mg x=none)(hv:Jn x=some u)(r:RelV v u)(hn:x≠"__name__":=by decide)(hd:(x == ("__debug__":Str))=false:=by decide):PE X (.Name x pos) (tC v):=
 λ _ _ _ H _ b h=>HR b a hm hv ⟨v,H,b,r,h⟩ hn hd
variable {a b:Expr}{ta tb:TE}{pos:Pos}
def PC (X:Cx)(g:CmpOp)(a b:Expr)(t:TE):Prop:=
 ∀(c:List (Addr×Obj)) (s:X1) (d:St) (H:Hp) (Q:VK),Inv X c d H s->t d H Q->
  wpAny (model X.prog X.w) X.A (eval a X.env) (λ v e=>wpAny (model X.prog X.w) X.A (eval b X.env) (λ u f=>wpAny (model X.prog X.w) X.A (zm g v u) (EP X c d Q) X.xe f) X.xe e) X.xe s
def tB (t:TE):TT:=λ d H Q=>t d H λ x e=>∃c,x=.bl c/\Q c e
theorem Vx {e:CmpOp}{t:TE}(h:PC X e a b t)(f:yP e b=false:=by first | exact nobehind _ (by decide) (by decide) | rfl):PT X (.Compare a [e] [b] pos) (tB t):=by
 intro g s i H Q p j;refine wpAny_isTrue_Compare1 (thn (h g s i H _ p j) λ v r f=>thn f λ u w k=>thn k λ c y ⟨x,l,m,n,o⟩=>?_) f
 obtain ⟨d,rfl,q⟩:=o;cases n
 exact QR ⟨l,m,q⟩
theorem Bf {e:Expr}{t:TE}(h:PE X e t)(g:∀c,GH e X.env c=(do let v <- c;GP e.pos;wh [v] (truthy v)):=by intro _;rfl):PT X e (tB t):=by
 intro f s i H Q o j;refine isTrue_plain (thn (h f s i H _ o j) λ v p ⟨x,k,l,m,n⟩=>?_) (g _)
 obtain ⟨d,rfl,q⟩:=n;cases m
 exact QR ⟨k,l,q⟩
variable {tA tB':TT}{rest:List Expr}
def tAnd (t u:TT):TT:=λ d H Q=>t d H λ c e=>if c=true then u d e Q else Q false e
def tOr (t u:TT):TT:=λ d H Q=>t d H λ c e=>if c=true then Q true e else u d e Q
def tNot (t:TT):TT:=λ d H Q=>t d H λ c e=>Q (!c) e
theorem pw_and1 (ha:PT X a tA):PW X (.BoolOp .And [a] pos) tA:=by
 intro g d s f H Q i h;refine isTrue_and (thn (ha d s f H Q i h) λ c j e=>?_)
 cases c with
 | true=>exact isTrue_and_nil e
 | false=>exact e
theorem pw_or1 (ha:PT X a tA):PW X (.BoolOp .Or [a] pos) tA:=by
 intro g d s f H Q i h;refine isTrue_or (thn (ha d s f H Q i h) λ c j e=>?_)
 cases c with
 | false=>exact isTrue_or_nil e
 | true=>exact e
theorem pw_and (ha:PT X a tA)(hb:PW X (.BoolOp .And (b::rest) pos) tB'):PW X (.BoolOp .And (a::b::rest) pos) (tAnd tA tB'):=by
 intro j d s e H Q l h;refine isTrue_and (thn (ha d s e H _ l h) λ c k ⟨f,g,i⟩=>?_)
 cases c with
 | true=>exact hb j d k e f Q g i
 | false=>exact ⟨f,g,i⟩
theorem pw_or (ha:PT X a tA)(hb:PW X (.BoolOp .Or (b::rest) pos) tB'):PW X (.BoolOp .Or (a::b::rest) pos) (tOr tA tB'):=by
 intro j d s e H Q l h;refine isTrue_or (thn (ha d s e H _ l h) λ c k ⟨f,g,i⟩=>?_)
 cases c with
 | true=>exact ⟨f,g,i⟩
 | false=>exact hb j d k e f Q g i
theorem Bt (ha:PT X a tA):PT X (.UnaryOp .Not a pos) (tNot tA):=by
 intro d s e H Q g h;exact isTrue_not (ha d s e H (λ c f=>Q (!c) f) g h)
def tAndV (ta tb:TE):TE:=λ d H Q=>ta d H λ x e=>∃c,x=.bl c/\if c=true then tb d e Q else Q (.bl false) e
def tNotV (ta:TE):TE:=λ d H Q=>ta d H λ x e=>∃c,x=.bl c/\Q (.bl (!c)) e
theorem Hy {op}{t:TE}(h:PE X a t):PE X (.BoolOp op [a] pos) t:=λ c s d H Q f e=>BoolOp_one (h c s d H Q f e)
theorem IW (ha:PE X a ta)(hb:PE X (.BoolOp .And (b::rest) pos) tb):PE X (.BoolOp .And (a::b::rest) pos) (tAndV ta tb):=by
 intro d s f H Q l h;refine BoolOp_and (thn (ha d s f H _ l h) λ v j ⟨x,g,i,k,e⟩=>?_)
 obtain ⟨c,rfl,e⟩:=e;cases k
 refine QR ?_;cases c with
 | true=>exact hb d j f g Q i e
 | false=>exact ⟨.bl false,g,i,rfl,e⟩
theorem W6 (ha:PE X a ta):PE X (.UnaryOp .Not a pos) (tNotV ta):=by
 intro d s f H Q k h;refine UnaryOp_ (thn (ha d s f H _ k h) λ v l ⟨x,g,i,j,e⟩=>?_)
 obtain ⟨c,rfl,e⟩:=e;cases j
 exact not_of (QR ⟨.bl (!c),g,i,rfl,e⟩)
def tIf (t:TT)(ta tb:TE):TE:=λ d H Q=>t d H λ c e=>if c=true then ta d e Q else tb d e Q
theorem Gg {c:Expr}(l:PT X c tA)(ha:PE X a ta)(hb:PE X b tb):PE X (.IfExp c a b pos) (tIf tA ta tb):=by
 intro e s f H Q m h;refine wpAny_IfExp (thn (l e s f H _ m h) λ d g ⟨i,j,k⟩=>?_)
 cases d with
 | true=>exact ha e g f i Q j k
 | false=>exact hb e g f i Q j k
end
def SqL (K:FrG)(H:Hp)(a:Addr)(xs:List V):Prop:=
 Rd H a (.lst xs)\/
  ∃(o:Obj) (its:Array Value) (n:Nat),K.lookup a=some o/\o.cls=.type "list"/\o.dict=none/\o.data=.seq its n/\its.size<=X2/\Vals xs its.toList
def SqT (K:FrG)(H:Hp)(a:Addr)(xs:List V):Prop:=
 Rd H a (.tup xs)\/
  ∃(o:Obj) (its:Array Value) (n:Nat),K.lookup a=some o/\o.cls=.type "tuple"/\o.data=.seq its n/\its.size<=X2/\Vals xs its.toList
def absV:Value->Option V
 | .none=>some .non
 | .bool b=>some (.bl b)
 | .int i _=>some (.int i)
 | .str x _=>some (.str x)
 | .bytes b _=>some (.byt b)
 | .float b _=>some (.flt b)
 | .ref a=>some (.ref a)
 | .type n=>some (.ty n)
 | _=>none
theorem RelV.abs {x:V}{u:Value}(r:RelV x u):absV u=some x:=by
 cases x with
 | non=>cases r;rfl
 | bl _=>cases r;rfl
 | int _=>obtain ⟨t,rfl⟩:=r;rfl
 | str _=>obtain ⟨t,rfl⟩:=r;rfl
 | byt _=>obtain ⟨t,rfl⟩:=r;rfl
 | flt _=>obtain ⟨t,rfl⟩:=r;rfl
 | ref _=>cases r;rfl
 | ty _=>cases r;rfl
theorem RelV.inj {x a:V}{u:Value}(r:RelV x u)(q:RelV a u):x=a:=UN (r.abs.symm.trans q.abs)
theorem Vals.inj:∀{xs a:List V} {us:List Value},Vals xs us->Vals a us->xs=a
 | _,_,_,.nil,.nil=>rfl
 | _,_,_,.cons r t,.cons b t'=>by rw [r.inj b,Vals.inj t t']
section
variable {X:Cx}{pins:List (Addr×Obj)}{σ:St}{H:Hp}{s:X1}{a:Addr}{xs ys:List V}
theorem SqL.of {K:FrG}(h:H a=some (.lst xs)):SqL K H a xs:=.inl (.inl h)
theorem SqT.of {K:FrG}(h:H a=some (.tup xs)):SqT K H a xs:=.inl (.inl h)
theorem Inv.list (f:Inv X pins σ H s)(h:SqL X.K H a xs):∃its:List Value,Vals xs its/\PlainL s.heap a its.toArray/\xs.length<=X2:=by
 rcases h with h | ⟨o,its,n,b,c,hd,d,g,r⟩
 ·obtain ⟨i,its,n,r,e⟩:=h.ok f.hok;exact ⟨its,r,⟨_,n,e,rfl,rfl,rfl⟩,i⟩
 ·refine ⟨its.toList,r,⟨o,n,f.kIn a o b,c,hd,by simpa using d⟩,?_⟩
  have e:=r.length;simp only [Jq] at e;omega
theorem Inv.tuple (f:Inv X pins σ H s)(h:SqT X.K H a xs):∃its:List Value,Vals xs its/\IsTup s.heap a its.toArray/\xs.length<=X2:=by
 rcases h with h | ⟨o,its,n,b,c,d,g,r⟩
 ·obtain ⟨i,its,r,p⟩:=h.ok f.hok;exact ⟨its,r,p,i⟩
 ·refine ⟨its.toList,r,⟨o,f.kIn a o b,c,n,by simpa using d⟩,?_⟩
  have e:=r.length;simp only [Jq] at e;omega
theorem Inv.list_inj (g:Inv X pins σ H s)(h:SqL X.K H a xs)(h':SqL X.K H a ys):xs=ys:=by
 obtain ⟨its,r,⟨o,n,e,_,_,d⟩,_⟩:=g.list h;obtain ⟨its',c,⟨i,j,b,_,_,d'⟩,_⟩:=g.list h';rw [e] at b;cases b;rw [d] at d'
 injection d' with f _
 have:its=its':=by simpa using congrArg Array.toList f
 subst this;exact r.inj c
theorem Inv.tuple_inj (g:Inv X pins σ H s)(h:SqT X.K H a xs)(h':SqT X.K H a ys):xs=ys:=by
 obtain ⟨its,r,⟨o,e,_,n,d⟩,_⟩:=g.tuple h;obtain ⟨its',c,⟨i,b,_,j,d'⟩,_⟩:=g.tuple h';rw [e] at b;cases b;rw [d] at d'
 injection d' with f _
 have:its=its':=by simpa using congrArg Array.toList f
 subst this;exact r.inj c
end
abbrev Cx.wish (X:Cx)(E:Value->X1->Prop):Cx:={ X with xe:=E }
abbrev Cx.nox (X:Cx):Cx:=X.wish λ _ _=>False
theorem Cx.Ok.wish {X:Cx}(ok:X.Ok)(E:Value->X1->Prop):(X.wish E).Ok:=
 ⟨ok.mod,ok.kind,ok.glob,ok.blt,ok.above,ok.inj,ok.has,ok.cab,ok.hd,ok.frames,ok.stk,ok.exf,ok.bs,ok.bsz,ok.noex,ok.exfs,ok.funs,ok.frf⟩
theorem Cx.Ok.unwish {X:Cx}{E:Value->X1->Prop}(ok:(X.wish E).Ok):X.Ok:=
 ⟨ok.mod,ok.kind,ok.glob,ok.blt,ok.above,ok.inj,ok.has,ok.cab,ok.hd,ok.frames,ok.stk,ok.exf,ok.bs,ok.bsz,ok.noex,ok.exfs,ok.funs,ok.frf⟩
section
variable {X:Cx}{pins:List (Addr×Obj)}{σ:St}{H:Hp}{s:X1}{E:Value->X1->Prop}
theorem Inv.wish (a:Inv X pins σ H s)(E:Value->X1->Prop):Inv (X.wish E) pins σ H s:=⟨a.ok.wish E,a.os,a.bare,a.base,a.loc,a.cell,a.free,a.freeC,a.pin,a.hok,a.len,a.tk⟩
theorem Inv.unwish (a:Inv (X.wish E) pins σ H s):Inv X pins σ H s:=⟨a.ok.unwish,a.os,a.bare,a.base,a.loc,a.cell,a.free,a.freeC,a.pin,a.hok,a.len,a.tk⟩
theorem SP.unwish {d:Ends}{f:Flow}{s':X1}(h:SP (X.wish E) pins d f s'):SP X pins d f s':=by
 cases f with
 | next=>obtain ⟨a,b,c,q⟩:=h;exact ⟨a,b,c.unwish,q⟩
 | brk=>obtain ⟨a,b,c,q⟩:=h;exact ⟨a,b,c.unwish,q⟩
 | cont=>obtain ⟨a,b,c,q⟩:=h;exact ⟨a,b,c.unwish,q⟩
 | ret u=>obtain ⟨v,a,b,c,r,q⟩:=h;exact ⟨v,a,b,c.unwish,r,q⟩
theorem PSs.nox {st:List Stmt}{t:TS}(h:PSs X.nox st t):PSs X st t:=λ pins s σ H b c a=>
 XW (h pins s σ H b (c.wish _) a) (λ _ _ q=>q.unwish) λ _ _ d=>UQ d
end
section
variable {X:Cx}{st:Stmt}{rest:List Stmt}{t u:TS}{e:Expr}{te:TE}{pos:Pos}
def tNext:TS:=λ b a H=>b.nx a H
def tSeq (t u:TS):TS:=λ b a H=>t { b with nx:=u b } a H
theorem BJ:PSs X [] tNext:=λ _ _ a H _ b h=>yi ⟨a,H,b,h⟩
theorem Ae (c:PS X st t)(d:PSs X rest u):PSs X (st::rest) (tSeq t u):=by
 intro a s g H i m h;refine zZ (thn (c a s g H { i with nx:=u i } m h) λ f j q=>?_)
 cases f with
 | next=>
  obtain ⟨b,k,l,q⟩:=q;exact d a j b k i l q
 | ret v=>exact q
 | brk=>exact q
 | cont=>exact q
theorem Ah (b:PS X st t):PSs X [st] t:=by
 intro a s c H d g h;refine zZ (thn (b a s c H d g h) λ f i q=>?_)
 cases f with
 | next=>exact yi q
 | ret v=>exact q
 | brk=>exact q
 | cont=>exact q
theorem Inv.quiet {a:List (Addr×Obj)}{b:St}{H:Hp}{s:X1}(c:Inv X a b H s):interactive X.env=false:=by simp [interactive,c.ok.kind]
def tDrop (te:TE):TS:=λ c a H=>te a H λ _ b=>c.nx a b
theorem DP (c:PE X e te)(d:xf e none pos.line X.env=pure false:=by rfl):PS X (.Expr e pos) (tDrop te):=by
 intro a s b H m j h;exact wpAny_Expr_any (thn (c a s b H _ j h) λ v k ⟨x,f,g,l,i⟩=>⟨b,f,g,i⟩) j.quiet d
def tRet (te:TE):TS:=λ b a H=>te a H b.rt
theorem Av (c:PE X e te):PS X (.Return (some e) pos) (tRet te):=by
 intro a s b H l j h;exact wT (thn (c a s b H _ j h) λ v k ⟨x,d,f,g,i⟩=>⟨x,b,d,f,g,i⟩)
def tIfS (c:TT)(t u:TS):TS:=λ f a H=>c a H λ b d=>if b=true then t f a d else u f a d
theorem Az {c:Expr}{a b:List Stmt}{i:TT}(n:PT X c i)(ha:PSs X a t)(hb:PSs X b u):PS X (.If c a b pos) (tIfS i t u):=by
 intro f s g H o p h;refine wpAny_If (thn (n f s g H _ p h) λ d j ⟨k,l,m⟩=>?_)
 cases d with
 | true=>exact ha f j g k o l m
 | false=>exact hb f j g k o l m
def tNever:TS:=λ _ _ _=>False
theorem Cw:PS X st tNever:=λ _ _ _ _ _ _ h=>h.elim
theorem cG {a:List Stmt}:PSs X a tNever:=λ _ _ _ _ _ _ h=>h.elim
end
abbrev TG:=V->St->Hp->(St->Hp->Prop)->Prop
abbrev TGs:=List V->St->Hp->(St->Hp->Prop)->Prop
def PG (X:Cx)(a:Expr)(t:TG):Prop:=
 ∀(b:List (Addr×Obj)) (s:X1) (d:St) (H:Hp) (v:V) (u:Value) (Q:St->Hp->Prop),Inv X b d H s->RelV v u->t v d H Q->
  wpAny (model X.prog X.w) X.A (yL a X.env u) (λ _ s'=>∃c e,Inv X b c e s'/\Q c e) X.xe s
def PGs (X:Cx)(e:List Expr)(t:TGs):Prop:=
 ∀(a:List (Addr×Obj)) (s:X1) (c:St) (H:Hp) (vs:List V) (us:List Value) (Q:St->Hp->Prop),Inv X a c H s->Vals vs us->t vs c H Q->
  wpAny (model X.prog X.w) X.A (yQ ((JM e X.env).map (·.2)) us) (λ _ s'=>∃b d,Inv X a b d s'/\Q b d) X.xe s
abbrev TSet:=V->V->V->Hp->(Hp->Prop)->Prop
def PSet (X:Cx)(t:TSet):Prop:=
 ∀(a:List (Addr×Obj)) (s:X1) (b:St) (H:Hp) (o i v:V) (c d u:Value) (Q:Hp->Prop),Inv X a b H s->RelV o c->RelV i d->RelV v u->t o i v H Q->
  wpAny (model X.prog X.w) X.A (setItem c d u) (λ _ s'=>∃e,Inv X a b e s'/\Q e) X.xe s
abbrev TIp:=V->V->Hp->VK->Prop
def PIp (X:Cx)(c:GI)(t:TIp):Prop:=
 ∀(a:List (Addr×Obj)) (s:X1) (b:St) (H:Hp) (x d:V) (v u:Value) (Q:VK),Inv X a b H s->RelV x v->RelV d u->t x d H Q->
  wpAny (model X.prog X.w) X.A (inplaceOp c v u) (EP X a b Q) X.xe s
section
variable {X:Cx}{pos:Pos}
def gName (i:Nat):TG:=λ v a H Q=>Q (a.set i (some v)) H
theorem CG {i:Nat}{x:Str}(a:X.N.Nodup)(b:X.N[i]?=some x:=by rfl)(c:Loc X.env.scope x:=by first | exact Or.inl rfl | exact Or.inr rfl)(hf:X.fn x=true\/X.env.scope.names.lookup x=some .local:=by first | exact .inl rfl | exact .inr rfl | assumption):PG X (.Name x pos) (gName i):=by
 intro d s f H v u Q g r h;exact wU (Fo g a b c r (λ s' e=>⟨_,H,e,h⟩) hf)
def gNil:TGs:=λ vs a H Q=>vs=[]/\Q a H
def gCons (t:TG)(u:TGs):TGs:=λ vs b H Q=>∃v r,vs=v::r/\t v b H λ a c=>u r a c Q
theorem Pa:PGs X [] gNil:=by
 intro a s b H vs us Q c r h;obtain ⟨e,h⟩:=h;subst e;cases r
 exact assignInOrder_nil ⟨b,H,c,h⟩
theorem GQ {e:Expr}{b:List Expr}{t:TG}{u:TGs}(d:PG X e t)(f:PGs X b u)
  (g:(JM (e::b) X.env).map (·.2)=yL e X.env::(JM b X.env).map (·.2):=by rfl):PGs X (e::b) (gCons t u):=by
 intro a s i H vs us Q o r h;obtain ⟨v,p,e1,h⟩:=h;subst e1;cases r with
 | cons r j=>
  rw [g];refine wF (thn (d a s i H _ _ _ o r h) λ _ k ⟨c,l,m,n⟩=>?_)
  exact f a k c l _ _ Q m j n
def gTup (K:FrG)(n:Nat)(t:TGs):TG:=λ v b H Q=>∃a xs,v=.ref a/\SqT K H a xs/\xs.length=n/\t xs b H Q
theorem qW {d:List Expr}{k:Nat}{t:TGs}{n:Nat}(l:X.calm=true)(h:PGs X d t)
  (hn:(JM d X.env).length=n:=by rfl) (g:(JM d X.env).findIdx? (·.1)=none:=by rfl):PG X (.Tuple d k pos) (gTup X.K n t):=by
 intro c s i H v u Q m r f;obtain ⟨a,xs,e1,p,hl,f⟩:=f;subst e1;cases r
 obtain ⟨its,j,ht,x⟩:=m.tuple p;refine assign_Tuple_tuple (m.ok.hd l) ht (by simp [hn,<- hl,j.length]) g λ h' q=>?_
 have w:Inv X c i H { s with heap:=h' }:=m.kept (t':=s.toks) λ b o e=>q b o (YO (ZI e)) e
 exact h c _ i H xs _ Q w (by simpa using j) f
def gSub (b c:TE)(t:TSet):TG:=λ v a H Q=>b a H λ o d=>c a d λ i e=>t o i v e λ f=>Q a f
theorem Xw {o i:Expr}{e f:TE}{t:TSet}(g:PE X o e)(j:PE X i f)(k:PSet X t)
  (ha:∀v,yL (.Subscript o i pos) X.env v=(do
   let b <- wh [v] (eval o X.env)
   let c <- wh [v,b] (eval i X.env)
   GP pos
   wh [v,b,c] (setItem b c v)
   release [v,b,c] []):=by intro _;rfl):PG X (.Subscript o i pos) (gSub e f t):=by
 intro a s d H v u Q F r h;rw [ha];refine Y3 (WO (thn (g a s d H _ F h) λ b l ⟨x,m,n,p,q⟩=>?_))
 refine Y3 (WO (thn (j a l d m _ n q) λ c w ⟨G,y,z,A,B⟩=>?_))
 refine Y3 (Qu (Y3 (WO (thn (k a w d y x G v b c u _ z p A r B) λ _ I ⟨C,D,E⟩=>?_))))
 exact wpAny_release ⟨d,C,D,E⟩
def tAsg (b:TE)(d:TG):TS:=λ e a H=>b a H λ x c=>d x a c e.nx
theorem RV {tg e:Expr}{b:TE}{p:TG}(d:PE X e b)(f:PG X tg p)(g:swapsWithSole [tg] e pos.line X.env=pure false:=by rfl)(i:swappedStores [tg] e X.env=pure none:=by rfl)
  (j:(JM [tg] X.env).map (·.2)=[yL tg X.env]:=by rfl):PS X (.Assign [tg] e pos) (tAsg b p):=by
 intro a s c H u r h;refine wpAny_Assign_stores (thn (d a s c H _ r h) λ v k ⟨x,l,m,n,o⟩=>?_) g i
 rw [j];exact thn (f a k c l x v _ m n o) λ _ t q=>q
theorem Aq {i:Nat}{x:Str}{e:Expr}{c:TE}{a:Pos}(d:X.N.Nodup)(f:PE X e c)(g:X.N[i]?=some x:=by rfl)(j:Loc X.env.scope x:=by first | exact Or.inl rfl | exact Or.inr rfl)(k:xf e (some (.Name x a)) pos.line X.env=pure false:=by rfl)(hf:X.fn x=true\/X.env.scope.names.lookup x=some .local:=by first | exact .inl rfl | exact .inr rfl | assumption):
  PS X (.Assign [.Name x a] e pos) (tAsg c (gName i)):=by
 intro b s l H w r h;refine wpAny_Assign_Name (thn (f b s l H _ r h) λ v t ⟨y,m,n,o,p⟩=>?_) k
 exact Fo n d g j o (λ u q=>⟨_,m,q,p⟩) hf
def tPar (i j:Nat)(b:TA):TS:=λ d a H=>b a H λ vs c=>∃v w,vs=[v,w]/\d.nx ((a.set i (some v)).set j (some w)) c
theorem Uz {i j:Nat}{x k:Str}{a b:Expr}{r:TA}{l m pt:Pos}{kt k2 pt2}(G:X.calm=true)(t:X.N.Nodup)(I:X.N[i]?=some x)(J:X.N[j]?=some k)(u:i≠j)
  (y:X.env.scope.names.lookup x=some .local) (z:X.env.scope.names.lookup k=some .local) (ha:PA X [a,b] r)
  (K:swappedStores [.Tuple [.Name x l,.Name k m] kt pt] (.Tuple [a,b] k2 pt2) X.env=pure (some [x,k]))
  (L:swapsWithSole [.Tuple [.Name x l,.Name k m] kt pt] (.Tuple [a,b] k2 pt2) pos.line X.env=pure false:=by rfl):
  PS X (.Assign [.Tuple [.Name x l,.Name k m] kt pt] (.Tuple [a,b] k2 pt2) pos) (tPar i j r):=by
 intro g s B H Z V h;rw [exec_Assign_arm];refine Y3 (Qu ?_);rw [L];refine Y3 (ZH ?_);rw [if_neg (by decide)]
 refine Y3 (Tuple_ (thn (ha _ g s B H _ V h) λ us c ⟨vs,C,M,O,n⟩=>?_))
 obtain ⟨v,w,e1,n⟩:=n;subst e1;obtain ⟨d,f,rfl,P,D⟩:∃d f,us=[d,f]/\RelV v d/\RelV w f:=by
  cases O with
  | cons p q=>
   cases q with
   | cons Q R=>
    cases R
    exact ⟨_,_,rfl,p,Q⟩
 refine UU ?_ (by show 2<=X2;decide)
 have S:Inv X g B C { c with heap:=c.heap.push { cls:=.type "tuple",data:=.seq [d,f].toArray } }:=M.kept (t':=c.toks) λ b o e=>X9 _ e
 rw [K];refine Y3 (ZH ?_);show wpAny (model X.prog X.w) X.A (do rule "assign.swapped-stores";let items <- GJ (.ref c.heap.objs.size) 2 none;yQ [λ v=>bindName X.env k v,λ v=>bindName X.env x v] items.reverse;pure Flow.next) _ _ _
 refine Y3 (xD (Y3 (unpackItems_tuple (items:=#[d,f]) (V.ok.hd G) (IsTup.new c.heap _) λ h' E=>?_)))
 have T:=S.kept (h':=h') (t':=c.toks) λ b o e=>E b o (YO (ZI e)) e
 show wpAny _ _ (yQ [λ v=>bindName X.env k v,λ v=>bindName X.env x v] [f,d] >>= λ _=>pure Flow.next) _ _ _
 refine Y3 (wF (wpAny_bindName (Fo T t J (.inl z) D (λ W U=>?_) (.inr z))))
 refine wF (wpAny_bindName (Fo U t I (.inl y) P (λ Y F=>assignInOrder_nil (ZH ?_)) (.inr y)))
 rw [List.set_comm _ _ (WU u)] at F;exact ⟨_,C,F,n⟩
def tAug (i:Nat)(b:TE)(c:TIp):TS:=λ f a H=>∃x,a[i]?=some (some x)/\b a H λ g d=>c x g d λ h e=>f.nx (a.set i (some h)) e
theorem oR {i:Nat}{x:Str}{e:Expr}{o:TE}{d:GI}{p:TIp}{f:Pos}(B:X.N.Nodup)(q:X.N[i]?=some x)(g:Loc X.env.scope x)(C:PE X e o)(D:PIp X d p)(hf:X.fn x=true\/X.env.scope.names.lookup x=some .local:=by first | exact .inl rfl | exact .inr rfl | assumption):
  PS X (.AugAssign (.Name x f) d e pos) (tAug i o p):=by
 intro b s t H R z h;obtain ⟨v,e1,h⟩:=h;obtain ⟨m,hn,hl⟩:=z.loc;have y:Vis X.env.scope x:=by rcases g with k | k;exact .inl k;exact .inr (.inl k)
 obtain ⟨u,r,l⟩:=hl i x v q e1 y;refine wpAny_AugAssign_Name ?_;have go:wpAny (model X.prog X.w) X.A (eval e X.env) (λ w j=>wpAny (model X.prog X.w) X.A (inplaceOp d u w) (λ r n=>wpAny (model X.prog X.w) X.A (storeName X.env x r) (λ _=>SP X b R .next) X.xe n) X.xe j) X.xe s:=by
  refine thn (C b s t H _ z h) λ w E ⟨S,F,G,I,J⟩=>?_
  refine thn (D b E t F v S u w _ G r I J) λ W T ⟨U,K,L,M,O⟩=>?_
  exact Fo L B q g M (λ V P=>⟨_,K,P,O⟩) hf
 rcases l with ⟨a,hm⟩ | ⟨a,c,Q,hcell⟩
 ·exact xL z.ok.kind a hn hm go
 ·rcases a with a | a
  ·exact wpAny_loadName_cell z.ok.kind a Q hcell go
  ·rcases g with k | k
   ·have:X.env.scope.names.lookup x=some .free:=a;rw [k] at this;cases this
   ·have:X.env.scope.names.lookup x=some .free:=a;rw [k] at this;cases this
def ipI (f:Int->Int->Int):TIp:=λ x a H Q=>∃i j,x=.int i/\a=.int j/\Q (.int (f i j)) H
theorem mQ:PIp X .Add (ipI λ i j=>i+j):=by
 intro a s d H x f v u Q e b c h;obtain ⟨i,j,e1,e2,q⟩:=h;subst e1;subst e2;obtain ⟨t,rfl⟩:=b;obtain ⟨t',rfl⟩:=c;exact iadd_int ⟨.int _,H,e.tok _,⟨_,rfl⟩,q⟩
end
section
variable {X:Cx}{pos:Pos}
def tWhile (c:TT)(h:TS):TS:=λ i a H=>∃j:Nat->St->Hp->Prop,(∃m,j m a H)/\∀m a H,j m a H->
 c a H λ b e=>if b=true then ∃N:St->Hp->Prop,(∀d f,N d f->∃g,g < m/\j g d f)/\h { i with nx:=N,ct:=N,bk:=i.nx } a e else i.nx a e
theorem Lb {c:Expr}{g:List Stmt}{r:TT}{t:TS}(u:QZ (model X.prog X.w) X.A X.env X.xe)(D:PT X c r)(hb:PSs X g t):PS X (.While c g [] pos) (tWhile r t):=by
 intro d s E H Q M h;obtain ⟨O,⟨F,G⟩,turn⟩:=h;refine wpAny_While (codeAny_whileLoop (λ n s'=>∃l x,Inv X d l x s'/\O n l x) ?_ F ⟨E,H,M,G⟩)
 rintro n I ⟨e,y,J,K⟩
 refine zF u (thn (D d I e y _ J (turn n e y K)) λ b L ⟨z,B,j⟩=>?_)
 cases b with
 | true=>
  obtain ⟨N,C,j⟩:=j;rw [if_pos rfl];refine zF u (thn (hb d L e z _ B j) λ f P k=>?_)
  cases f with
  | next=>
   obtain ⟨a,i,m,o⟩:=k;obtain ⟨p,hm,q⟩:=C a i o;exact ⟨p,hm,a,i,m,q⟩
  | cont=>
   obtain ⟨a,i,m,o⟩:=k;obtain ⟨p,hm,q⟩:=C a i o;exact ⟨p,hm,a,i,m,q⟩
  | brk=>exact k
  | ret v=>exact k
 | false=>
  rw [if_neg ZE];exact yi ⟨e,z,B,j⟩
end
structure It where
 go:Nat->Hp->Prop
 yld:Nat->Hp->V->Hp->Prop
 stop:Nat->Hp->Prop
def FpOk (X:Cx)(a:List (Addr×Obj))(H:Hp)(b:Addr):Prop:=
 H b=none/\b≠X.env.locals/\b∉X.fs/\(b∈X.ex\/X.s₀.heap.objs.size<=b)/\(∀x c,X.env.cells.lookup x=some c->c≠b)/\∀p∈X.pn++a,p.1≠b
theorem Inv.fpOk {X:Cx}{a:List (Addr×Obj)}{g:St}{H d:Hp}{s:X1}{b:Addr}(f:Inv X a g H s)(hb:s.heap.objs.size<=b)(hn:d b=none):FpOk X a d b:=by
 refine ⟨hn,WB (W1 f.lt hb),f.nofs hb,.inr (U2 f.sz hb),λ x c e h=>?_,λ p i h=>?_⟩
 ·obtain ⟨v,q⟩:=f.cell x c e;exact absurd (W1 q.lt (by rw [h];exact hb)) (zu _)
 ·exact absurd (W1 (ZI (f.pin p i).1) (by rw [h];exact hb)) (zu _)
structure Turn (P:Yg)(w:World)(K:FrG)(tg:Expr)(J:It)(fp:List Addr)(it:Addr)(tn:Nat->Heap->Prop):Prop where
 mem:it∈fp
 obj:∀i h,tn i h->∀b∈fp,∃o,h.get? b=some o/\∀v,o.data≠.cell v
 keep:∀i h h',tn i h->(∀b∈fp,∀o,h.get? b=some o->h'.get? b=some o)->tn i h'
 item:∀(X:Cx),X.prog=P->X.w=w->X.K=K->X.calm=true->∀(i:Nat) (pins:List (Addr×Obj)) (s:X1) (σ:St) (H:Hp) (E:Value->X1->Prop),Inv X pins σ H s->(∀b∈fp,FpOk X pins H b)->tn i s.heap->J.go i H->
  wpAny (model P w) X.A (yV (.ref it)) (λ r s1=>∃u,r=some u/\
   wpAny (model P w) X.A (zc tg (.ref it) u) (λ _ s2=>∃x H',Inv X pins σ H' s2/\RelV x u/\J.yld i H x H'/\tn (i+1) s2.heap/\∀b∈fp,H' b=none) E s1) E s
 done:∀(X:Cx),X.prog=P->X.w=w->X.K=K->X.calm=true->∀(i:Nat) (pins:List (Addr×Obj)) (s:X1) (σ:St) (H:Hp) (E:Value->X1->Prop),Inv X pins σ H s->(∀b∈fp,FpOk X pins H b)->tn i s.heap->J.stop i H->
  wpAny (model P w) X.A (yV (.ref it)) (λ r s1=>r=none/\Inv X pins σ H s1) E s
 self:∀(A:XE) (i:Nat) (s:X1) (Q:Value->X1->Prop) (E:Value->X1->Prop),tn i s.heap->Q (.ref it) s->wpAny (model P w) A (pyIter (.ref it)) Q E s
abbrev TI:=St->Hp->(It->Hp->Prop)->Prop
def PIE (X:Cx)(a:List (Addr×Obj))(h:St)(tg:Expr)(j:It->Hp->Prop)(d:Value)(e:X1):Prop:=
 ∃(it:Addr) (f:List Addr) (g:Nat->Heap->Prop) (i:It) (c:Hp),d=.ref it/\Inv X a h c e/\Turn X.prog X.w X.K tg i f it g/\g 0 e.heap/\(∀b∈f,FpOk X a c b)/\j i c
def PI (X:Cx)(tg iter:Expr)(c:TI):Prop:=
 ∀(a:List (Addr×Obj)) (s:X1) (b:St) (H:Hp) (e:It->Hp->Prop),Inv X a b H s->c b H e->
  wpAny (model X.prog X.w) X.A (eval iter X.env) (λ v d=>wpAny (model X.prog X.w) X.A (pyIter v) (PIE X a b tg e) X.xe d) X.xe s
theorem O5 {M:Model}{A:XE}{E:Value->X1->Prop}{s:X1}{tg:Expr}{it:Addr}{u:Value}{o:Obj}{n:String}{vs:Array Value}{Q:Unit->X1->Prop}(b:s.heap.get? it=some o)(c:o.cls=.type n)(hd:o.data=.fields vs)
  (hn:["enumerate","zip","dict_itemiterator","dict_reverseitemiterator","odict_iterator","itertools.zip_longest","itertools.pairwise"].contains n=false) (a:Q () s):wpAny M A (zc tg (.ref it) u) Q E s:=by
 unfold zc;cases tg<;>first
  | exact ZH a
  | (cases u<;>first
    | exact ZH a
    | (refine Y3 (wpAny_load b ?_);rw [c,hd];show wpAny M A (if (["enumerate","zip","dict_itemiterator","dict_reverseitemiterator","odict_iterator","itertools.zip_longest","itertools.pairwise"].contains n && vs[0]? == some (zC _))=true then _ else _) Q E s;rw [if_neg (by intro h;rw [hn,zW] at h;cases h)];exact ZH a))
def Itl (K:FrG)(a:Addr):It:=
 ⟨λ i H=>∃xs x,SqL K H a xs/\xs[i]?=some x,λ i H x b=>b=H/\∀xs,SqL K H a xs->xs[i]?=some x,λ i H=>∃xs,SqL K H a xs/\xs.length<=i⟩
def Itt (K:FrG)(a:Addr):It:=
 ⟨λ i H=>∃xs x,SqT K H a xs/\xs[i]?=some x,λ i H x b=>b=H/\∀xs,SqT K H a xs->xs[i]?=some x,λ i H=>∃xs,SqT K H a xs/\xs.length<=i⟩
def Itr (lo:Int)(n:Nat):It:=⟨λ i _=>i < n,λ i H x a=>a=H/\x=.int (lo+i),λ i _=>n<=i⟩
theorem sy {P:Yg}{w:World}{K:FrG}{tg:Expr}(a it:Addr):Turn P w K tg (Itl K a) [it] it (λ i h=>h.IsListIter it a i) where
 mem:=by simp
 obj:=λ i h st b hb=>by
  have e:b=it:=by simpa using hb
  subst e;obtain ⟨o,e,c,d⟩:=st;exact ⟨o,e,λ v S=>by rw [d] at S;cases S⟩
 keep:=λ i h h' st k=>st.at λ o e=>k it (by simp) o e
 item:=by
  intro X l m n F i f s G H E q hf st r;subst l m n;obtain ⟨xs,x,g,t⟩:=r;obtain ⟨its,y,p,I⟩:=q.list g;obtain ⟨u,J,L⟩:=y.get t;obtain ⟨z,A,M,B,C,D⟩:=hf it (by simp)
  refine wpAny_pyNext_list_item st p.isList (x:=u) (by simpa using J) λ h' j N=>?_
  have O:Inv X f G H { s with heap:=h' }:=q.turned (t':=s.toks) (λ b o hb e=>(N.2 b hb).trans e) z A B C D
  obtain ⟨o,e,c,d⟩:=id j;exact ⟨u,rfl,O5 (s:={ s with heap:=h' }) e c d (by decide) ⟨x,H,O,L,⟨rfl,λ T Q=>by rw [q.list_inj Q g];exact t⟩,j,λ b hb=>(hf b hb).1⟩⟩
 done:=by
  intro X l m n F i f s G H E q hf st r;subst l m n;obtain ⟨xs,g,t⟩:=r;obtain ⟨its,y,p,I⟩:=q.list g;obtain ⟨z,A,M,B,C,D⟩:=hf it (by simp)
  have hl:=y.length;exact wpAny_pyNext_list_end (q.ok.hd F) st p.isList (by simp;omega) λ h' R=>⟨rfl,q.turned (t':=s.toks) (λ b o hb e=>R b o hb e) z A B C D⟩
 self:=λ _ _ _ _ _ st h=>wpAny_pyIter_listiter st h
theorem kj {P:Yg}{w:World}{K:FrG}{tg:Expr}(a it:Addr):Turn P w K tg (Itt K a) [it] it (λ i h=>h.IsTupleIter it a i) where
 mem:=by simp
 obj:=λ i h st b hb=>by
  have e:b=it:=by simpa using hb
  subst e;obtain ⟨o,e,c,d⟩:=st;exact ⟨o,e,λ v S=>by rw [d] at S;cases S⟩
 keep:=λ i h h' st k=>st.at λ o e=>k it (by simp) o e
 item:=by
  intro X l m n F i f s G H E q hf st r;subst l m n;obtain ⟨xs,x,g,t⟩:=r;obtain ⟨its,y,p,I⟩:=q.tuple g;obtain ⟨u,J,L⟩:=y.get t;obtain ⟨z,A,M,B,C,D⟩:=hf it (by simp)
  refine wpAny_pyNext_tuple_item st (show s.heap.IsTuple a its.toArray from p) (x:=u) (by simpa using J) λ h' j N=>?_
  have O:Inv X f G H { s with heap:=h' }:=q.turned (t':=s.toks) (λ b o hb e=>(N.2 b hb).trans e) z A B C D
  obtain ⟨o,e,c,d⟩:=id j;exact ⟨u,rfl,O5 (s:={ s with heap:=h' }) e c d (by decide) ⟨x,H,O,L,⟨rfl,λ T Q=>by rw [q.tuple_inj Q g];exact t⟩,j,λ b hb=>(hf b hb).1⟩⟩
 done:=by
  intro X l m n F i f s G H E q hf st r;subst l m n;obtain ⟨xs,g,t⟩:=r;obtain ⟨its,y,p,I⟩:=q.tuple g;obtain ⟨z,A,M,B,C,D⟩:=hf it (by simp)
  have hl:=y.length;exact wpAny_pyNext_tuple_end (q.ok.hd F) st (show s.heap.IsTuple a its.toArray from p) (by simp;omega) λ h' R=>⟨rfl,q.turned (t':=s.toks) (λ b o hb e=>R b o hb e) z A B C D⟩
 self:=λ _ _ _ _ _ st h=>wpAny_pyIter_tupleiter st h
theorem fG {P:Yg}{w:World}{K:FrG}{tg:Expr}(it:Addr)(lo:Int)(n:Nat):Turn P w K tg (Itr lo n) [it] it (λ i h=>IsRangeIter h it (lo+(i:Nat) * 1) ((n:Int) - (i:Nat)) 1) where
 mem:=by simp
 obj:=λ i h st b hb=>by
  have e:b=it:=by simpa using hb
  subst e;exact ⟨_,st,λ v G=>by
   have z:Data.fields _=Data.cell v:=G;cases z⟩
 keep:=λ i h h' st k=>k it (by simp) _ st
 item:=by
  intro X d f g j i a s y H E x hf st l;subst d f g;obtain ⟨m,p,A,q,r,u⟩:=hf it (by simp)
  have I:=Walks.range (prog:=X.prog) (w:=X.w) (x.ok.hd j) it lo 1 n;refine zq x.tk (I.item i s _ _ l st λ v h' tk hv c B F=>?_)
  obtain ⟨t,rfl⟩:=hv;have C:Inv X a y H { s with heap:=h',toks:=tk }:=x.turned (λ b o hb e=>B b o (by simpa using hb) e) m p q r u
  refine ⟨_,rfl,O5 (s:={ s with heap:=h',toks:=tk }) (n:="range_iterator") c rfl rfl (by decide) ⟨.int (lo+i),H,C,⟨t,?_⟩,⟨rfl,rfl⟩,c,λ b hb=>(hf b hb).1⟩⟩
  rw [Int.mul_one]
 done:=by
  intro X d f g j i a s y H E x hf st l;subst d f g;obtain ⟨m,p,A,q,r,u⟩:=hf it (by simp)
  exact wpAny_pyNext_range_end (x.ok.hd j) st (by have:n<=i:=l;omega) λ h' D=>⟨rfl,x.turned (t':=s.toks) (λ b o hb e=>D b o hb e) m p q r u⟩
 self:=λ _ _ _ _ _ st h=>wpAny_pyIter_rangeiter st h
section
variable {X:Cx}{tg:Expr}
def iList (K:FrG)(c:TE):TI:=λ d H e=>c d H λ x b=>∃a,x=.ref a/\(∃xs,SqL K b a xs)/\e (Itl K a) b
def iTup (K:FrG)(c:TE):TI:=λ d H e=>c d H λ x b=>∃a,x=.ref a/\(∃xs,SqT K b a xs)/\e (Itt K a) b
theorem Dv {l:Expr}{g:TE}(hl:PE X l g):PI X tg l (iList X.K g):=by
 intro f s i H w r h;refine thn (hl f s i H _ r h) λ v c ⟨x,j,d,k,m⟩=>?_
 obtain ⟨a,e,⟨xs,n⟩,q⟩:=m;subst e;cases k
 obtain ⟨its,t,p,u⟩:=d.list n;refine yu p.isList ?_;refine ⟨c.heap.objs.size,[c.heap.objs.size],_,_,j,rfl,d.kept (t':=c.toks) λ b o e=>X9 _ e,sy a _,⟨_,YL _ rfl,rfl,rfl⟩,λ b hb=>?_,q⟩
 have e:b=c.heap.objs.size:=by simpa using hb
 subst e;exact d.fpOk (YE _) (d.hok.fresh (YE _))
theorem Nu {l:Expr}{g:TE}(hl:PE X l g):PI X tg l (iTup X.K g):=by
 intro f s i H w r h;refine thn (hl f s i H _ r h) λ v c ⟨x,j,d,k,m⟩=>?_
 obtain ⟨a,e,⟨xs,n⟩,q⟩:=m;subst e;cases k
 obtain ⟨its,t,p,u⟩:=d.tuple n;refine wpAny_pyIter_tuple (show c.heap.IsTuple a its.toArray from p) ?_
 refine ⟨c.heap.objs.size,[c.heap.objs.size],_,_,j,rfl,d.kept (t':=c.toks) λ b o e=>X9 _ e,kj a _,⟨_,YL _ rfl,rfl,rfl⟩,λ b hb=>?_,q⟩
 have e:b=c.heap.objs.size:=by simpa using hb
 subst e;exact d.fpOk (YE _) (d.hok.fresh (YE _))
theorem pW {c:List (Addr×Obj)}{d:St}{H:Hp}{s:X1}{k:It->Hp->Prop}{E:Value->X1->Prop}{lo a:Int}{t u v:Tok}{tk:Nat}(m:Inv X c d H s)(g:-(2 ^ 62)<=lo)(h:lo < 2 ^ 62)(i:-(2 ^ 62)<=a)(j:a < 2 ^ 62)(l:1<=tk)
  (q:k (Itr lo (a - lo).toNat) H):wpAny (model X.prog X.w) X.A (pyIter (.ref s.heap.objs.size)) (PIE X c d tg k) E { s with heap:=s.heap.push { cls:=.type "range",data:=.fields #[.int lo t,.int a u,.int 1 v] },toks:=tk }:=by
 refine wpAny_pyIter_range (IsRange.new ..) (small_one g h i j) ?_;have f:Inv X c d H { s with heap:=s.heap.push { cls:=.type "range",data:=.fields #[.int lo t,.int a u,.int 1 v] },toks:=tk }:=m.kept λ b o e=>X9 _ e
 refine ⟨(s.heap.push { cls:=.type "range",data:=.fields #[.int lo t,.int a u,.int 1 v] }).objs.size,[(s.heap.push { cls:=.type "range",data:=.fields #[.int lo t,.int a u,.int 1 v] }).objs.size],_,_,H,rfl,
  f.kept (t':=tk) λ b o e=>X9 _ e,fG _ lo (a - lo).toNat,?_,λ b hb=>?_,q⟩
 ·have e1:lo+((0:Nat):Int) * 1=lo:=by simp
  have e2:(((a - lo).toNat:Nat):Int) - ((0:Nat):Int)=Xy.Range.rangeSize lo a 1:=by rw [rangeSize_one];split<;>omega
  show IsRangeIter _ _ (lo+((0:Nat):Int) * 1) ((((a - lo).toNat:Nat):Int) - ((0:Nat):Int)) 1;rw [e1,e2];exact YL _ rfl
 ·have e:b=(s.heap.push { cls:=.type "range",data:=.fields #[.int lo t,.int a u,.int 1 v] }).objs.size:=by simpa using hb
  subst e;exact f.fpOk (YE _) (f.hok.fresh (YE _))
def iRng1 (a:TA):TI:=λ b H d=>a b H λ vs c=>∃j:Int,vs=[.int j]/\-(2 ^ 62)<=j/\j < 2 ^ 62/\d (Itr 0 j.toNat) c
theorem JB {a:Expr}{d:TA}{p pos:Pos}(g:Gl X "range")(hm:X.mg "range"=none)(ha:PA X [a] d)(i:YM [a] X.env=[(false,eval a X.env)]:=by rfl):PI X tg (.Call (.Name "range" p) [a] [] pos) (iRng1 d):=by
 intro b s k H w o h;refine Call_ (HR o g hm boot_range (zr (thn (ha pos b s k H _ o h) λ us u ⟨vs,v,f,l,c⟩=>?_) i rfl))
 obtain ⟨j,e,c,m,q⟩:=c;subst e;cases l with
 | cons r n=>
  cases n
  obtain ⟨t,rfl⟩:=r;exact call_range_1 (pW f (by omega) (by omega) c m (by first | exact YU _ _ | exact f.tk | omega) (by simpa using q))
def tFor (f:TI)(o:TG)(g:TS):TS:=λ h a H=>f a H λ j k=>∃l:Nat->Nat->St->Hp->Prop,(∃m,l 0 m a k)/\∀i m a H,l i m a H->
 (j.stop i H/\h.nx a H)\/(j.go i H/\∃N:St->Hp->Prop,(∀c b,N c b->∃d,d < m/\l (i+1) d c b)/\∀x b,j.yld i H x b->o x a b λ e n=>g { h with nx:=N,ct:=N,bk:=h.nx } e n)
def pinsAt (a:List Addr)(h:Heap):List (Addr×Obj):=a.filterMap λ b=>(h.get? b).map λ o=>(b,o)
theorem Ft {a:List Addr}{h:Heap}{b:Addr}{o:Obj}(hb:b∈a)(e:h.get? b=some o):(b,o)∈pinsAt a h:=yd.mpr ⟨b,hb,by rw [e];rfl⟩
theorem qT {a:List Addr}{h:Heap}{p:Addr×Obj}(c:p∈pinsAt a h):p.1∈a/\h.get? p.1=some p.2:=by
 obtain ⟨b,hb,e⟩:=yd.mp c;cases q:h.get? b with
 | none=>rw [q] at e;cases e
 | some o=>
  rw [q] at e;have d:(b,o)=p:=UN e;subst d;exact ⟨hb,q⟩
theorem Inv.pinned {a:List (Addr×Obj)}{f:St}{H:Hp}{s:X1}{c:List Addr}(n:Inv X a f H s)(hf:∀b∈c,FpOk X a H b)(h:∀b∈c,∃o,s.heap.get? b=some o/\∀v,o.data≠.cell v):Inv X (a++pinsAt c s.heap) f H s:=
 n.pins_of λ p i=>(XA.mp i).elim (λ j=>n.pin p (ZB _ j)) λ j=>by
  obtain ⟨hb,e⟩:=qT j;obtain ⟨k,l,m,_⟩:=hf p.1 hb;obtain ⟨o,g,d⟩:=h p.1 hb;rw [e] at g;cases g;exact ⟨e,k,l,m,d⟩
theorem Inv.unpinned {a pl:List (Addr×Obj)}{b:St}{H:Hp}{s:X1}(d:Inv X (a++pl) b H s):Inv X a b H s:=d.pins_of λ p c=>d.pin p (ZB _ (UX _ c))
theorem Ef {iter:Expr}{y:List Stmt}{K:TI}{c7:TG}{L:TS}{pos:Pos}(z:QZ (model X.prog X.w) X.A X.env X.xe)(M:X.calm=true)(a1:PI X tg iter K)(a2:PG X tg c7)(hb:PSs X y L)
  (a3:∀x,UW iter X.env x=pure x:=by intro _;rfl):PS X (.For tg iter y [] pos) (tFor K c7 L):=by
 intro c s O H d3 d0 h;refine wpAny_For (thn (a1 c s O H _ d0 h) λ v d1 a4=>thn a4 λ c8 d2 a5=>?_) a3
 obtain ⟨it,B,P,d4,a6,e,a7,T,Q,R,c9,⟨a8,a9⟩,turn⟩:=a5;subst e;have t:∀{k:Hp},(∀b∈B,k b=none)->∀b∈B,FpOk X c k b:=λ hn b hb=>⟨hn b hb,(R b hb).2⟩
 refine codeAny_forLoop_any (λ n s'=>∃i l k,Inv X c l k s'/\P i s'.heap/\(∀b∈B,k b=none)/\c9 i n l k) ?_ a8 ⟨0,O,a6,a7,Q,λ b hb=>(R b hb).1,a9⟩
 rintro n S ⟨i,p,E,U,F,G,b0⟩
 rcases turn i n p E b0 with ⟨stop,b1⟩ | ⟨go,N,b2,step⟩
 ·refine zF z (thn (T.done X rfl rfl rfl M i c S p E X.xe U (t G) F stop) λ r b3 ⟨I,b4⟩=>?_)
  subst I;exact yi ⟨p,E,b4,b1⟩
 ·refine zF z (thn (T.item X rfl rfl rfl M i c S p E X.xe U (t G) F go) λ r b3 ⟨u,I,b5⟩=>?_)
  subst I;refine zF z (thn b5 λ _ V ⟨x,W,b6,b7,b8,C,Y⟩=>?_)
  have Z:=b6.pinned (t Y) (T.obj _ _ C);refine zF z (thn (a2 _ V p W x u _ Z b7 (step x W b8)) λ _ b9 ⟨a0,c0,c1,c2⟩=>?_)
  refine zF z (thn (hb _ b9 a0 c0 _ c1 c2) λ f J q=>?_)
  have again:∀{a:St} {g:Hp},Inv X (c++pinsAt B V.heap) a g J->N a g->∃m,m < n/\∃i l k,Inv X c l k J/\P i J.heap/\(∀b∈B,k b=none)/\c9 i m l k:=λ {a g} j D=>by
   obtain ⟨c3,hm,c4⟩:=b2 a g D;refine ⟨c3,hm,i+1,a,g,j.unpinned,T.keep _ _ _ C λ b hb o e=>(j.pin (b,o) (ZB _ (ZB _ (Ft hb e)))).1,λ b hb=>?_,c4⟩
   obtain ⟨o,e,d⟩:=T.obj _ _ C b hb;exact (j.pin (b,o) (ZB _ (ZB _ (Ft hb e)))).2.1
  cases f with
  | next=>obtain ⟨a,g,j,D⟩:=q;exact again j D
  | cont=>obtain ⟨a,g,j,D⟩:=q;exact again j D
  | brk=>obtain ⟨a,g,j,q⟩:=q;exact ⟨a,g,j.unpinned,q⟩
  | ret v=>obtain ⟨c5,a,g,j,c6,q⟩:=q;exact ⟨c5,a,g,j.unpinned,c6,q⟩
end
theorem HQ {K:FrG}{a:Addr}{xs:List V}{w:TG}{l:TS}{k:Ends}{b:St}{H:Hp}(c:Nat->St->Hp->Prop)(o:c 0 b H)(hl:∀i b H,i<=xs.length->c i b H->SqL K H a xs)
  (r:∀i x b H,xs[i]?=some x->c i b H->w x b H λ f j=>l { k with nx:=c (i+1),ct:=c (i+1),bk:=k.nx } f j) (hd:∀b H,c xs.length b H->k.nx b H):
  ∃s:Nat->Nat->St->Hp->Prop,(∃m,s 0 m b H)/\∀i m b H,s i m b H->
   ((Itl K a).stop i H/\k.nx b H)\/((Itl K a).go i H/\∃N:St->Hp->Prop,(∀g d,N g d->∃n,n < m/\s (i+1) n g d)/\∀x d,(Itl K a).yld i H x d->w x b d λ f j=>l { k with nx:=N,ct:=N,bk:=k.nx } f j):=by
 refine ⟨λ i m b H=>m=xs.length - i/\i<=xs.length/\c i b H,⟨xs.length,by simp,JI _,o⟩,?_⟩
 rintro i m b H ⟨rfl,t,p⟩
 have q:=hl i b H t p;by_cases h:i < xs.length
 ·refine .inr ⟨⟨xs,xs[i],q,by simp [h]⟩,c (i+1),λ g d u=>⟨xs.length - (i+1),by omega,rfl,h,u⟩,λ x d v=>?_⟩
  obtain ⟨e,v⟩:=v;subst e;exact r i x b _ (v xs q) p
 ·have e:i=xs.length:=by omega
  subst e;exact .inl ⟨⟨xs,q,YE _⟩,hd b H p⟩
theorem Jh {lo:Int}{n:Nat}{u:TG}{k:TS}{j:Ends}{a:St}{H:Hp}(b:Nat->St->Hp->Prop)(o:b 0 a H)
  (q:∀i a H,i < n->b i a H->u (.int (lo+i)) a H λ d h=>k { j with nx:=b (i+1),ct:=b (i+1),bk:=j.nx } d h) (hd:∀a H,b n a H->j.nx a H):
  ∃r:Nat->Nat->St->Hp->Prop,(∃m,r 0 m a H)/\∀i m a H,r i m a H->
   ((Itr lo n).stop i H/\j.nx a H)\/((Itr lo n).go i H/\∃N:St->Hp->Prop,(∀f c,N f c->∃l,l < m/\r (i+1) l f c)/\∀x c,(Itr lo n).yld i H x c->u x a c λ d h=>k { j with nx:=N,ct:=N,bk:=j.nx } d h):=by
 refine ⟨λ i m a H=>m=n - i/\i<=n/\b i a H,⟨n,by simp,JI _,o⟩,?_⟩
 rintro i m a H ⟨rfl,v,p⟩
 by_cases g:i < n
 ·refine .inr ⟨g,b (i+1),λ f c s=>⟨n - (i+1),by omega,rfl,g,s⟩,λ x c t=>?_⟩
  obtain ⟨e,t⟩:=t;subst e t;exact q i a _ g p
 ·have e:i=n:=by omega
  subst e;exact .inl ⟨YE _,hd a H p⟩
abbrev R2:=V->V->Hp->VK->Prop
def OpR (X:Cx)(f:Value->Value->Sem Value)(r:R2):Prop:=
 ∀(a:List (Addr×Obj)) (s:X1) (b:St) (H:Hp) (x c:V) (v u:Value) (Q:VK),Inv X a b H s->RelV x v->RelV c u->r x c H Q->
  wpAny (model X.prog X.w) X.A (f v u) (EP X a b Q) X.xe s
def UnR (X:Cx)(f:Value->Sem Value)(r:V->Hp->VK->Prop):Prop:=
 ∀(a:List (Addr×Obj)) (s:X1) (b:St) (H:Hp) (x:V) (v:Value) (Q:VK),Inv X a b H s->RelV x v->r x H Q->
  wpAny (model X.prog X.w) X.A (f v) (EP X a b Q) X.xe s
def CallR (X:Cx)(f:Value)(r:List V->Hp->VK->Prop):Prop:=
 ∀(a:List (Addr×Obj)) (s:X1) (b:St) (H:Hp) (xs:List V) (us:List Value) (Q:VK),Inv X a b H s->Vals xs us->r xs H Q->
  wpAny (model X.prog X.w) X.A (call f us) (EP X a b Q) X.xe s
def tOp (r:R2)(b c:TE):TE:=λ a H Q=>b a H λ x d=>c a d λ f e=>r x f e Q
def tUn (r:V->Hp->VK->Prop)(a:TE):TE:=λ b H Q=>a b H λ x c=>r x c Q
def rI (C:Int->Int->Prop)(a:Int->Int->V):R2:=λ x b H Q=>∃i j,x=.int i/\b=.int j/\C i j/\Q (a i j) H
def rI0 (a:Int->Int->V):R2:=λ x b H Q=>∃i j,x=.int i/\b=.int j/\Q (a i j) H
def rU (a:Int->V):V->Hp->VK->Prop:=λ x H Q=>∃i,x=.int i/\Q (a i) H
section
variable {X:Cx}{a b c:Expr}{ta tb tc:TE}{pos:Pos}
theorem binT (ha:PE X a ta)(hb:PE X b tb){d:List (Addr×Obj)}{s:X1}{e:St}{H:Hp}{z:V->V->Hp->Prop}(B:Inv X d e H s)
  (h:ta e H λ x j=>tb e j λ m g=>z x m g) {Q:Value->X1->Prop} {f:Value->Value->Sem Value}
  (hf:∀v u i x m g,Inv X d e g i->RelV x v->RelV m u->z x m g->wpAny (model X.prog X.w) X.A (f v u) Q X.xe i):
  wpAny (model X.prog X.w) X.A (eval a X.env) (λ v k=>wpAny (model X.prog X.w) X.A (eval b X.env) (λ u l=>wpAny (model X.prog X.w) X.A (f v u) Q X.xe l) X.xe k) X.xe s:=by
 refine thn (ha d s e H _ B h) λ v n ⟨x,j,o,p,q⟩=>?_
 refine thn (hb d n e j _ o q) λ u i ⟨m,g,r,t,y⟩=>?_
 exact hf v u i x m g r p t y
theorem Ak {e:GI}{r:R2}(f:OpR X (zJ e) r)(ha:PE X a ta)(hb:PE X b tb):PE X (.BinOp a e b pos) (tOp r ta tb):=by
 intro d s g H Q m h;exact wpAny_BinOp (binT ha hb m h λ v u i x n j k l ry q=>f d i g j x n v u Q k l ry q)
theorem kZ {e:UnaryOp}{r:V->Hp->VK->Prop}(g:UnR X (unaryOp e) r)(ha:PE X a ta):PE X (.UnaryOp e a pos) (tUn r ta):=by
 intro d s f H Q n h;exact UnaryOp_ (thn (ha d s f H _ n h) λ v i ⟨x,j,k,l,m⟩=>g d i f j x v Q k l m)
theorem opI {f:Value->Value->Sem Value}{C:Int->Int->Prop}{d:Int->Int->Int}
  (rule:∀(i j:Int) (t u:Tok) (s:X1) (Q:Value->X1->Prop) (E:Value->X1->Prop),C i j->Q (.int (d i j) s.toks) { s with toks:=s.toks+1 }->wpAny (model X.prog X.w) X.A (f (.int i t) (.int j u)) Q E s):
  OpR X f (rI C λ i j=>.int (d i j)):=by
 intro e s l H x n v u Q m g ry h;obtain ⟨i,j,rfl,rfl,k,q⟩:=h;obtain ⟨t,rfl⟩:=g;obtain ⟨t',rfl⟩:=ry;exact rule i j t t' s _ _ k ⟨.int (d i j),H,m.tok _,⟨_,rfl⟩,q⟩
theorem opI0 {f:Value->Value->Sem Value}{d:Int->Int->Int}
  (rule:∀(i j:Int) (t u:Tok) (s:X1) (Q:Value->X1->Prop) (E:Value->X1->Prop),Q (.int (d i j) s.toks) { s with toks:=s.toks+1 }->wpAny (model X.prog X.w) X.A (f (.int i t) (.int j u)) Q E s):
  OpR X f (rI0 λ i j=>.int (d i j)):=by
 intro e s k H x m v u Q l g ry h;obtain ⟨i,j,rfl,rfl,q⟩:=h;obtain ⟨t,rfl⟩:=g;obtain ⟨t',rfl⟩:=ry;exact rule i j t t' s _ _ ⟨.int (d i j),H,l.tok _,⟨_,rfl⟩,q⟩
theorem opB0 {f:Value->Value->Sem Value}{d:Int->Int->Bool}
  (rule:∀(i j:Int) (t u:Tok) (s:X1) (Q:Value->X1->Prop) (E:Value->X1->Prop),Q (.bool (d i j)) s->wpAny (model X.prog X.w) X.A (f (.int i t) (.int j u)) Q E s):
  OpR X f (rI0 λ i j=>.bl (d i j)):=by
 intro e s k H x m v u Q l g ry h;obtain ⟨i,j,rfl,rfl,q⟩:=h;obtain ⟨t,rfl⟩:=g;obtain ⟨t',rfl⟩:=ry;exact rule i j t t' s _ _ ⟨.bl (d i j),H,l,rfl,q⟩
def CDiv (i j:Int):Prop:=0 < j/\j < 1073741824
def CPow (i j:Int):Prop:=0<=j/\j<=1000000/\i.natAbs < 2 ^ 64
def CMul (i j:Int):Prop:=(-(2 ^ 64) < i/\i < 2 ^ 64)\/(-(2 ^ 64) < j/\j < 2 ^ 64)
theorem CMul.ok {i j:Int}(h:CMul i j):IntMulOk i j:=by
 rcases h with ⟨d,e⟩ | ⟨d,e⟩
 ·exact .of_left (intBits_le_64 d e)
 ·exact .of_right (intBits_le_64 d e)
theorem Ca:OpR X (zJ .Add) (rI0 λ i j=>.int (i+j)):=opI0 λ _ _ _ _ _ _ _ q=>add_int q
theorem Fq:OpR X (zJ .Sub) (rI0 λ i j=>.int (i - j)):=opI0 λ _ _ _ _ _ _ _ q=>sub_int q
theorem Gb:OpR X (zJ .Mult) (rI CMul λ i j=>.int (i * j)):=opI λ _ _ _ _ _ _ _ d q=>mul_int q d.ok
theorem Du:OpR X (zJ .FloorDiv) (rI CDiv λ i j=>.int (i / j)):=opI λ i j _ _ _ _ _ d q=>by
 have e:(0:Int) < j:=d.1;have f:j < 1073741824:=d.2;exact floordiv_int (by omega) (by rw [Int.fdiv_eq_ediv_of_nonneg i (by omega)];exact q) (.inl (PyProof.noPylong_small (by omega)))
theorem CT:OpR X (zJ .Mod) (rI (λ _ j=>0 < j) λ i j=>.int (i % j)):=opI λ i j _ _ _ _ _ d q=>by
 have e:(0:Int) < j:=d;exact mod_int' (by omega) (by rw [Int.fmod_eq_emod_of_nonneg i (by omega)];exact q)
theorem Qw:OpR X (zJ .Pow) (rI CPow λ i j=>.int (i ^ j.toNat)):=opI λ _ _ _ _ _ _ _ d q=>pow_int_small d.1 d.2.1 d.2.2 q
theorem unI {f:Value->Sem Value}{d:Int->Int}
  (rule:∀(i:Int) (t:Tok) (s:X1) (Q:Value->X1->Prop) (E:Value->X1->Prop),Q (.int (d i) s.toks) { s with toks:=s.toks+1 }->wpAny (model X.prog X.w) X.A (f (.int i t)) Q E s):
  UnR X f (rU λ i=>.int (d i)):=by
 intro e s j H x v Q k g h;obtain ⟨i,rfl,q⟩:=h;obtain ⟨t,rfl⟩:=g;exact rule i t s _ _ ⟨.int (d i),H,k.tok _,⟨_,rfl⟩,q⟩
theorem bN:UnR X (unaryOp .USub) (rU λ i=>.int (-i)):=unI λ _ _ _ _ _ q=>neg_int q
end
def scal:V->V->Bool
 | .non,.non=>true | .non,.int _=>true | .int _,.non=>true | .non,.bl _=>true | .bl _,.non=>true | .non,.str _=>true | .str _,.non=>true
 | .int _,.int _=>true | .bl _,.bl _=>true | .str _,.str _=>true | .byt _,.byt _=>true
 | .int _,.str _=>true | .str _,.int _=>true | .bl _,.str _=>true | .str _,.bl _=>true
 | _,_=>false
def rEq:R2:=λ x a H Q=>scal x a=true/\Q (.bl (decide (x=a))) H
def rNe:R2:=λ x a H Q=>scal x a=true/\Q (.bl (!decide (x=a))) H
theorem Xz {i j:Int}:decide (V.int i=V.int j)=(i == j):=by
 rw [xO];simp
theorem Xu {i j:Bool}:decide (V.bl i=V.bl j)=(i == j):=by
 rw [xO];simp
theorem Yt {i j:Str}:decide (V.str i=V.str j)=(i == j):=by
 rw [xO];simp
theorem Zw {i j:Array UInt8}:decide (V.byt i=V.byt j)=(i.toList == j.toList):=by
 rw [xO];cases i
 cases j
 simp
section
variable {X:Cx}{a b c:Expr}{ta tb tc:TE}{pos:Pos}
theorem Bs {d:List (Addr×Obj)}{f:St}{H:Hp}{s:X1}{Q:VK}{k g:Bool}(h:Inv X d f H s)(q:Q (.bl k) H)(e:k=g):EP X d f Q (.bool g) s:=by
 subst e;exact ⟨.bl k,H,h,rfl,q⟩
theorem Bj:OpR X (zm .Eq) rEq:=by
 intro k s l H x g v u Q d f ry h;obtain ⟨e,q⟩:=h;cases x with
 | non=>
  cases f
  cases g with
  | non=>cases ry;exact PySem.EqNone.eq_none_none (Bs d q (by simp))
  | bl j=>cases ry;exact PySem.EqNone.eq_none_bool (Bs d q (by simp))
  | int j=>obtain ⟨t',rfl⟩:=ry;exact PySem.EqNone.eq_none_int (Bs d q (by simp))
  | str j=>obtain ⟨t',rfl⟩:=ry;exact PySem.EqNone.eq_none_str (Bs d q (by simp))
  | _=>exact absurd (show false=true from e) ZE
 | bl i=>
  cases f
  cases g with
  | non=>cases ry;exact PySem.EqNone.eq_bool_none (Bs d q (by simp))
  | bl j=>cases ry;exact eq_bool (Bs d q Xu)
  | str j=>obtain ⟨t',rfl⟩:=ry;exact PySem.EqMixed.eq_bool_str (Bs d q (by simp))
  | _=>exact absurd (show false=true from e) ZE
 | int i=>
  obtain ⟨t,rfl⟩:=f;cases g with
  | non=>cases ry;exact PySem.EqNone.eq_int_none (Bs d q (by simp))
  | int j=>obtain ⟨t',rfl⟩:=ry;exact eq_int (Bs d q Xz)
  | str j=>obtain ⟨t',rfl⟩:=ry;exact PySem.EqMixed.eq_int_str (Bs d q (by simp))
  | _=>exact absurd (show false=true from e) ZE
 | str i=>
  obtain ⟨t,rfl⟩:=f;cases g with
  | non=>cases ry;exact PySem.EqNone.eq_str_none (Bs d q (by simp))
  | bl j=>cases ry;exact PySem.EqMixed.eq_str_bool (Bs d q (by simp))
  | int j=>obtain ⟨t',rfl⟩:=ry;exact PySem.EqMixed.eq_str_int (Bs d q (by simp))
  | str j=>obtain ⟨t',rfl⟩:=ry;exact eq_str (Bs d q Yt)
  | _=>exact absurd (show false=true from e) ZE
 | byt i=>
  obtain ⟨t,rfl⟩:=f;cases g with
  | byt j=>obtain ⟨t',rfl⟩:=ry;exact PySem.W.eq_bytes (Bs d q Zw)
  | _=>exact absurd (show false=true from e) ZE
 | _=>cases g<;>exact absurd (show false=true from e) ZE
theorem DK:OpR X (zm .NotEq) rNe:=by
 intro k s l H x g v u Q d f ry h;obtain ⟨e,q⟩:=h;cases x with
 | non=>
  cases f
  cases g with
  | non=>cases ry;exact PySem.EqNone.ne_none_none (Bs d q (by simp))
  | bl j=>cases ry;exact PySem.EqNone.ne_none_bool (Bs d q (by simp))
  | int j=>obtain ⟨t',rfl⟩:=ry;exact PySem.EqNone.ne_none_int (Bs d q (by simp))
  | str j=>obtain ⟨t',rfl⟩:=ry;exact PySem.EqNone.ne_none_str (Bs d q (by simp))
  | _=>exact absurd (show false=true from e) ZE
 | bl i=>
  cases f
  cases g with
  | non=>cases ry;exact PySem.EqNone.ne_bool_none (Bs d q (by simp))
  | bl j=>cases ry;exact ne_bool (Bs d q (congrArg not Xu))
  | str j=>obtain ⟨t',rfl⟩:=ry;exact PySem.EqMixed.ne_bool_str (Bs d q (by simp))
  | _=>exact absurd (show false=true from e) ZE
 | int i=>
  obtain ⟨t,rfl⟩:=f;cases g with
  | non=>cases ry;exact PySem.EqNone.ne_int_none (Bs d q (by simp))
  | int j=>obtain ⟨t',rfl⟩:=ry;exact ne_int (Bs d q (congrArg not Xz))
  | str j=>obtain ⟨t',rfl⟩:=ry;exact PySem.EqMixed.ne_int_str (Bs d q (by simp))
  | _=>exact absurd (show false=true from e) ZE
 | str i=>
  obtain ⟨t,rfl⟩:=f;cases g with
  | non=>cases ry;exact PySem.EqNone.ne_str_none (Bs d q (by simp))
  | bl j=>cases ry;exact PySem.EqMixed.ne_str_bool (Bs d q (by simp))
  | int j=>obtain ⟨t',rfl⟩:=ry;exact PySem.EqMixed.ne_str_int (Bs d q (by simp))
  | str j=>obtain ⟨t',rfl⟩:=ry;exact ne_str (Bs d q (congrArg not Yt))
  | _=>exact absurd (show false=true from e) ZE
 | byt i=>
  obtain ⟨t,rfl⟩:=f;cases g with
  | byt j=>obtain ⟨t',rfl⟩:=ry;exact PySem.W.ne_bytes (Bs d q (congrArg not Zw))
  | _=>exact absurd (show false=true from e) ZE
 | _=>cases g<;>exact absurd (show false=true from e) ZE
theorem Ga:OpR X (zm .Lt) (rI0 λ i j=>.bl (decide (i < j))):=opB0 λ _ _ _ _ _ _ _ q=>lt_int q
theorem Gr:OpR X (zm .LtE) (rI0 λ i j=>.bl (decide (i<=j))):=opB0 λ _ _ _ _ _ _ _ q=>le_int q
theorem Fd:OpR X (zm .Gt) (rI0 λ i j=>.bl (decide (j < i))):=opB0 λ _ _ _ _ _ _ _ q=>gt_int q
theorem XX:OpR X (zm .GtE) (rI0 λ i j=>.bl (decide (j<=i))):=opB0 λ _ _ _ _ _ _ _ q=>ge_int q
theorem QX:OpR X (zm .Is) (λ x f H Q=>f=.non/\Q (.bl (decide (x=.non))) H):=by
 intro e s g H x f v u Q i d ry h;obtain ⟨rfl,q⟩:=h;cases ry
 refine is_none_gen (Bs i q ?_);cases x<;>first
  | (cases d;rfl)
  | (obtain ⟨t,rfl⟩:=d;rfl)
theorem nomark (b:Expr){d:CmpOp}(h:d≠.In:=by decide)(e:d≠.NotIn:=by decide):yP d b=false:=by
 have e1:(d == CmpOp.In)=false:=by cases d<;>first | rfl | exact absurd rfl h
 have e2:(d == CmpOp.NotIn)=false:=by cases d<;>first | rfl | exact absurd rfl e
 cases b<;>simp [yP,e1,e2]
theorem Ea {d:CmpOp}{r:R2}(f:OpR X (zm d) r)(ha:PE X a ta)(hb:PE X b tb)(hm:yP d b=false:=by first | exact nomark _ | rfl):PE X (.Compare a [d] [b] pos) (tOp r ta tb):=by
 intro e s g H Q m h;exact wpAny_Compare1 (binT ha hb m h λ v u i x n j k l ry q=>f e i g j x n v u Q k l ry q) hm
def tTest (t:TE):TT:=λ d H Q=>t d H λ x e=>∃k,x=.bl k/\Q k e
theorem BL {f:CmpOp}{r:R2}(i:OpR X (zm f) r)(ha:PE X a ta)(hb:PE X b tb)(hm:yP f b=false:=by first | exact nomark _ | rfl):PT X (.Compare a [f] [b] pos) (tTest (tOp r ta tb)):=by
 intro d s g H Q D h;refine wpAny_isTrue_Compare1 (thn (ha d s g H _ D h) λ v j ⟨x,l,m,n,o⟩=>thn (hb d j g l _ m o) λ u p ⟨E,q,t,w,y⟩=>
  thn (i d p g q x E v u _ t n w y) λ c F ⟨G,z,A,B,k,e,C⟩=>?_) hm
 subst e;cases B
 exact QR ⟨z,A,C⟩
def tChain (r f:R2)(ta tb tc:TE):TE:=λ d H Q=>ta d H λ x g=>tb d g λ l h=>r x l h λ m e=>∃k,m=.bl k/\
 (if k=true then tc d e λ i j=>f l i j Q else Q (.bl false) e)
theorem Qx {j g:CmpOp}{r l:R2}(t:OpR X (zm j) r)(m:OpR X (zm g) l)(ha:PE X a ta)(hb:PE X b tb)(w:PE X c tc)
  (hm:lastMarks [j,g] [b,c]=false:=by with_unfolding_all rfl):PT X (.Compare a [j,g] [b,c] pos) (tTest (tChain r l ta tb tc)):=by
 intro f s i H Q a0 h;refine isTrue_chain (thn (ha f s i H _ a0 h) λ v y ⟨x,z,A,B,C⟩=>test_link (thn (hb f y i z _ A C) λ u D ⟨Z,E,F,n,G⟩=>
  thn (t f D i E x Z v u _ F B n G) λ d I ⟨a4,o,p,J,k,e,q⟩=>?_)) hm
 subst e;cases J
 refine QR ?_;cases k with
 | false=>
  obtain ⟨a1,K,L⟩:=q;cases K
  exact ite_ff ⟨o,p,L⟩
 | true=>
  refine ite_tt (test_last (thn (w f I i o _ p q) λ M N ⟨O,P,R,S,T⟩=>thn (m f N i P Z O u M _ R n S T) λ d' a2 ⟨a3,U,V,W,k2,e2,Y⟩=>?_))
  subst e2;cases W
  exact QR ⟨U,V,Y⟩
theorem line63:(X2:Nat) < 2 ^ 63:=by rw [sizeLine_eq];decide
theorem qF {s:X1}{x d:Str}{t u:NZ}{Q:Value->X1->Prop}(hn:1<=s.toks)(g:x.length+d.length<=X2)(h:∀(t':NZ) (tk:Nat),1<=tk->Q (.str (x++d) t'.1) { s with toks:=tk }):
  (if x.length == 0 then Made.val (.str d u.1) else if d.length == 0 then Made.val (.str x t.1) else Made.str (x++d)).post Q s:=by
 cases i:x.length == 0
 ·cases j:d.length == 0
  ·exact ⟨by rw [strLen_append];exact g,h ⟨s.toks,WB hn⟩ _ (YU _ _)⟩
  ·have f:d.cps=#[]:=xB (by simpa [Str.length] using j)
   have e:x++d=x:=by show Fs x d=x;cases x;simp [Fs,f]
   have q:=h t s.toks hn;rw [e] at q;exact q
 ·have f:x.cps=#[]:=xB (by simpa [Str.length] using i)
  have e:x++d=d:=by show Fs x d=d;cases d;simp [Fs,f]
  have q:=h u s.toks hn;rw [e] at q;exact q
theorem jn {prog:Yg}{w:World}{A:XE}{E:Value->X1->Prop}{s:X1}{x d:Str}{t u:NZ}{Q:Value->X1->Prop}(hn:1<=s.toks)(e:x.length+d.length<=X2)(h:∀(t':NZ) (tk:Nat),1<=tk->Q (.str (x++d) t'.1) { s with toks:=tk }):
  wpAny (model prog w) A (zJ .Add (.str x t.1) (.str d u.1)) Q E s:=PySem.P.add_str (qF hn e h)
theorem Dk:OpR X (zJ .Add) (λ x g H Q=>∃i j,x=.str i/\g=.str j/\i.length+j.length<=X2/\Q (.str (i++j)) H):=by
 intro d s m H x g v u Q k e ry h;obtain ⟨i,j,rfl,rfl,f,q⟩:=h;obtain ⟨t,rfl⟩:=e;obtain ⟨t',rfl⟩:=ry;exact jn k.tk f λ t' tk l=>⟨.str (i++j),H,k.tok _,⟨_,rfl⟩,q⟩
def PlainIxT (b:Expr):Prop:=∀o i,wV b false o i=operate [o,i] (wW o i)
theorem VM (ha:PE X a ta)(hb:PE X b tb)(g:PlainIxT b):
  PE X (.Subscript a b pos) (tOp (λ x r H Q=>∃d i c,x=.str d/\r=.int i/\0<=i/\i < 2 ^ 63/\i < d.length/\d.cps[i.toNat]?=some c/\Q (.str ⟨#[c]⟩) H) ta tb):=by
 intro j s y H Q z h;refine Subscript_ (binT ha hb z h λ v u k x r l f m ry q=>?_)
 obtain ⟨d,i,c,rfl,rfl,n,w,o,p,q⟩:=q;obtain ⟨t,rfl⟩:=m;obtain ⟨t',rfl⟩:=ry;have e:seqIndex? i d.length=some i.toNat:=PySem.StrLaws.seqIndex_nonneg n o;exact tail_any (zz k d t) slot_str_getitem.lookup (getItem_str (c:=c) (by
  have e1:decide (i < -(2 ^ 63:Int))=false:=decide_eq_false (by omega)
  have e2:decide (i≥2 ^ 63)=false:=decide_eq_false (by omega)
  rw [e1,e2]<;>rfl) (by rw [e];exact p) ⟨.str ⟨#[c]⟩,l,f.tok _,⟨⟨_,WB f.tk⟩,rfl⟩,q⟩) (g _ _)
theorem vals1 {x:V}{us:List Value}(r:Vals [x] us):∃u,us=[u]/\RelV x u:=by
 cases r with
 | cons d e=>cases e;exact ⟨_,rfl,d⟩
theorem vals2 {x i:V}{us:List Value}(r:Vals [x,i] us):∃u d,us=[u,d]/\RelV x u/\RelV i d:=by
 cases r with
 | cons e f=>
  cases f with
  | cons g h=>cases h;exact ⟨_,_,rfl,e,g⟩
theorem N8:CallR X (.builtin "abs") (λ xs H Q=>∃i,xs=[.int i]/\Q (.int (if i < 0 then -i else i)) H):=by
 intro d s g H xs us Q e r h;obtain ⟨i,rfl,q⟩:=h;obtain ⟨u,rfl,t,rfl⟩:=vals1 r;exact zq e.tk (call_abs_int λ u tk f=>⟨.int (if i < 0 then -i else i),H,e.tok _,⟨_,rfl⟩,q⟩)
theorem ZX:CallR X (.type "int") (λ xs H Q=>(∃i,xs=[.int i]/\Q (.int i) H)\/∃k,xs=[.bl k]/\Q (.int (if k then 1 else 0)) H):=by
 intro d s g H xs us Q f r h;rcases h with ⟨i,rfl,q⟩ | ⟨k,rfl,q⟩
 ·obtain ⟨u,rfl,t,rfl⟩:=vals1 r;exact call_int_int ⟨.int i,H,f,⟨_,rfl⟩,q⟩
 ·obtain ⟨u,rfl,e⟩:=vals1 r;cases e
  exact call_int_bool ⟨.int (if k then 1 else 0),H,f.tok _,⟨_,rfl⟩,q⟩
theorem m9:CallR X (.type "str") (λ xs H Q=>∃i,xs=[.int i]/\i.natAbs.log2 < 1920/\Q (.str (toString i)) H):=by
 intro d s g H xs us Q f r h;obtain ⟨i,rfl,e,q⟩:=h;obtain ⟨u,rfl,t,rfl⟩:=vals1 r;exact PySem.P.str_of_int e ⟨.str _,H,f.tok _,⟨⟨_,WB f.tk⟩,rfl⟩,q⟩
end
structure ObjM (h:Heap)(x dx C:Addr)(mA:Str->Option Value):Prop where
 obj:h.get? x=some (zo C dx)
 ns:h.Ns1 dx mA
 ne:dx≠x
theorem nZ {h:Heap}{dx:Addr}{c:Str->Option Value}(n:h.Ns1 dx c):∃d,h.get? dx=some d/\∀name,wn name d=some (c name):=by
 obtain ⟨o,f,m,g,hd,i,_,hm⟩:=n;refine ⟨o,g,λ name=>?_⟩
 have e:=hm name;unfold nsFind findBy at e;rw [<- Array.find?_toList] at e;unfold wn;rw [hd];dsimp only
 split
 ·rename_i l q
  rw [q] at e;exact congrArg some e
 ·rename_i q
  rw [q] at e;have a:f.toList.any (·.refKey)=false:=by
   rw [List.any_eq_false];intro l j;obtain ⟨p,t,b⟩:=i l (yx.mp j);simp [xg.refKey,b]
  have k:¬ f.toList.any (·.refKey)=true:=by rw [a];exact ZE
  rw [if_neg k];exact congrArg some e
theorem ObjM.look {h:Heap}{x dx C:Addr}{b:Str->Option Value}(d:ObjM h x dx C b):∃a,PySem.W.InstAt h x (zo C dx) C (some a)/\∀name,wn name a=some (b name):=
 let ⟨a,c,hl⟩:=nZ d.ns
 ⟨a,⟨d.obj,rfl,rfl,c⟩,hl⟩
section
variable {prog:Yg}{w:World}{A:XE}{E:Value->X1->Prop}{s:X1}{K:FrG}{x dx C f:Addr}{mA:Str->Option Value}{name:Str}{v:Value}
theorem pP {a:Bool}{Q:Value->X1->Prop}(X:K.In s.heap)(e:ObjM s.heap x dx C mA)(c:QB K C name=true)(d:QM K C=true)
  (ha:ZO K (.ref C) name=some none) (hv:mA name=some v) (b:PySem.W.handedIn v=true) (h:Q v { s with toks:=s.toks+1 }):
  wpAny (model prog w) A (getAttr (.ref x) name a) Q E s:=by
 obtain ⟨g,i,hl⟩:=e.look;exact PySem.W.get_value X i (xW c).1 (PySem.W.findObj_own d ha rfl (by rw [hl,hv])) b h
theorem vB {pl:Sem Bool}{Q:Value×List Value->X1->Prop}(X:K.In s.heap)(c:ObjM s.heap x dx C mA)(a:QB K C name=true)
  (hf:ZO K (.ref C) name=some (some (.ref f))) (ht:WI K (.ref f)=true) (hv:mA name=none) (h:Q (.ref f,[.ref x]) s):
  wpAny (model prog w) A (jo (.ref x) name pl) Q E s:=by
 obtain ⟨b,d,hl⟩:=c.look;exact PySem.W.method_fn X d (xW a).1 (xW a).2 hf (beq_iff_eq.mp ht) (by show (wn name b).map (·.isSome)=some false;rw [hl,hv];rfl) h
theorem mK {ns:List Str}{Q:Unit->X1->Prop}(X:K.In s.heap)(e:ObjM s.heap x dx C mA)
  (l:ZO K (.ref C) "__setattr__"=some (some (.builtin "object.__setattr__"))) (m:zl K C=true) (ht:qA K C name=some none) (n:QM K C=true)
  (o:jw mA ns) (hsz:ns.length<=X2)
  (h:∀h',ObjM h' x dx C (λ t=>if t=name then some v else mA t)->JT dx s.heap h'->Q () { s with heap:=h',toks:=s.toks+2 }):
  wpAny (model prog w) A (setAttr (.ref x) name v) Q E s:=by
 obtain ⟨B,u,hl⟩:=e.look;refine PySem.W.set_plain X u l (PySem.W.osa_open (s:={ s with toks:=s.toks+1 }) (r:=none) X u m ht λ b=>?_)
 obtain ⟨D,p,g⟩:=PySem.W.any_some n;have q:s.heap.get? x=some ⟨.ref C,some dx,.plain,#[]⟩:=e.obj;refine Y3 (ZH (Y3 (Y3 (wpAny_loadPart q (Y3 (yj.here (s:={ s with toks:=s.toks+1 }) (PySem.W.looks_clsIn X p) ?_))))))
 rw [g];refine ZH (a:=some dx) (Y3 (ZH (Y3 ?_)));refine wpAny_nsSet1 (s:={ s with toks:=s.toks+1 }) e.ns λ h' c d=>?_
 obtain ⟨F,y,z,i,j,k⟩:=c.count (jw.cons name v o);refine Y3 (wpAny_lookBehind i (by rw [j];exact pastItsLine_dict (U2 k (by rw [U1];omega))) ?_)
 exact ZH (h _ ⟨(d.2 _ (WU e.ne)).trans e.obj,c,e.ne⟩ d)
theorem uW {c:Result->X1->Prop}{vs:List Value}{a:List (Str×Value)}(X:K.In s.heap)(hm:zD K C=true)
  (b:ZO K (.ref C) "__init__"=some (some (.ref f))) (hf:PySem.W.typeIn K (.ref f)=some (.type "function"))
  (h:zK (model prog w) (A.under (.builtin "type.__call__" ⟨.ref C::vs,a⟩)) (.call (.ref f) ⟨.ref (s.heap.objs.size+1)::vs,a⟩) (PySem.W.InitBack (s.heap.objs.size+1) c)
   { s with heap:=(s.heap.push JZ).push (zo C s.heap.objs.size) }):
  zK (model prog w) A (.call (.ref C) ⟨vs,a⟩) c s:=by
 obtain ⟨e,g,d,t,os⟩:=s;exact PySem.W.make_core (PySem.W.makes_of X hm) (PySem.W.looks_findIn X b) (λ self=>PySem.W.bind_fn X self hf) (.inl rfl) h
end
def putF (f:Str)(v:V):List (Str×V)->List (Str×V)
 | []=>[(f,v)]
 | (a,x)::r=>if a=f then (a,v)::r else (a,x)::putF f v r
theorem Vj (f a:Str)(v:V):∀fs:List (Str×V),(putF f v fs).lookup a=if a=f then some v else fs.lookup a
 | []=>by
  show yZ a [(f,v)]=_;by_cases h:a=f
  ·have hb:(a == f)=true:=beq_iff_eq.mpr h;simp only [yZ,hb,if_pos h]
  ·have hb:(a == f)=false:=beq_eq_false_iff_ne.mpr h;simp only [yZ,hb,if_neg h]
 | (k,x)::r=>by
  have c:=Vj f a v r;rw [show putF f v ((k,x)::r)=(if k=f then (k,v)::r else (k,x)::putF f v r) from rfl]
  by_cases b:k=f
  ·rw [if_pos b];by_cases h:a=k
   ·have hb:(a == k)=true:=beq_iff_eq.mpr h;simp only [yZ,hb,if_pos (h.trans b)]
   ·have hb:(a == k)=false:=beq_eq_false_iff_ne.mpr h;simp only [yZ,hb,if_neg (λ e:a=f=>h (e.trans b.symm))]
  ·rw [if_neg b];by_cases h:a=k
   ·have hb:(a == k)=true:=beq_iff_eq.mpr h;simp only [yZ,hb,if_neg (λ e:a=f=>b (h.symm.trans e))]
   ·have hb:(a == k)=false:=beq_eq_false_iff_ne.mpr h;simp only [yZ,hb];exact c
theorem Oe (f:Str)(v:V):∀fs:List (Str×V),f∈(putF f v fs).map (·.1)/\∀b,b∈fs.map (·.1)->b∈(putF f v fs).map (·.1)
 | []=>⟨by simp [putF],λ b h=>by simp at h⟩
 | (k,x)::r=>by
  obtain ⟨c,i2⟩:=Oe f v r;rw [show putF f v ((k,x)::r)=(if k=f then (k,v)::r else (k,x)::putF f v r) from rfl]
  by_cases a:k=f
  ·rw [if_pos a];subst a;exact ⟨by simp,λ b h=>by simpa using h⟩
  ·rw [if_neg a];refine ⟨?_,λ b h=>?_⟩
   ·rw [YV];exact Ya _ c
   ·rw [YV] at h ⊢;rcases ZT.mp h with e | e
    ·exact ZT.mpr (.inl e)
    ·exact Ya _ (i2 b e)
theorem aF (f:Str)(v:V):∀fs:List (Str×V),(putF f v fs).length<=fs.length+1
 | []=>by simp [putF]
 | (k,x)::r=>by
  have b:=aF f v r;rw [show putF f v ((k,x)::r)=(if k=f then (k,v)::r else (k,x)::putF f v r) from rfl]
  by_cases a:k=f
  ·rw [if_pos a,U1,U1];omega
  ·rw [if_neg a,U1,U1];omega
theorem RelO.some_of {v:V}{o:Option Value}(r:RelO (some v) o):∃u,o=some u/\RelV v u:=by
 cases o with
 | none=>exact (show False from r).elim
 | some u=>exact ⟨u,rfl,r⟩
theorem RelO.none_of {o:Option Value}(r:RelO none o):o=none:=by
 cases o with
 | none=>rfl
 | some u=>exact (show False from r).elim
theorem rH {v:V}{u:Value}(r:RelV v u):PySem.W.handedIn u=true:=by
 cases v with
 | non=>cases (show u=WR from r);rfl
 | bl b=>cases (show u=yT b from r);rfl
 | int i=>obtain ⟨t,e⟩:=(show ∃t,u=yY i t from r);cases e;rfl
 | str x=>obtain ⟨t,e⟩:=(show ∃t:NZ,u=uj x t.1 from r);cases e;rfl
 | byt b=>obtain ⟨t,e⟩:=(show ∃t,u=Value.bytes b t from r);cases e;rfl
 | flt b=>obtain ⟨t,e⟩:=(show ∃t,u=FP b t from r);cases e;rfl
 | ref a=>cases (show u=YI a from r);rfl
 | ty n=>cases (show u=yv n from r);rfl
section
variable {P:Yg}{w:World}{H H':Hp}{h h':Heap}{a C dx:Addr}{fs fs':List (Str×V)}
theorem Li (hok:HOk P w H h)(e:H a=some (.ins C dx fs)):∃b,ObjM h a dx C b/\(∀f,RelO (fs.lookup f) (b f))/\jw b (fs.map (·.1))/\fs.length<=1000/\H dx=some (.own a):=by
 obtain ⟨d,c,ne,ob,b,n,r,q⟩:=(show ObjOk P w H h a (.ins C dx fs) from hok a _ e)
 exact ⟨b,⟨ob,n,ne⟩,r,q,c,d⟩
end
structure Cls (K:FrG)(C:Addr):Prop where
 pg:QB K C xS=true
 hd:QM K C=true
 po:zl K C=true
 sa:ZO K (.ref C) "__setattr__"=some (some (.builtin "object.__setattr__"))
theorem Cls.get {K:FrG}{C:Addr}(c:Cls K C)(f:Str):QB K C f=true:=c.pg
def NoAttr (K:FrG)(C:Addr)(f:Str):Prop:=ZO K (.ref C) f=some none
theorem NoAttr.taker {K:FrG}{C:Addr}{f:Str}(n:NoAttr K C f):qA K C f=some none:=by
 unfold qA;rw [show ZO K (.ref C) f=some none from n]
 rfl
structure Meth (K:FrG)(C:Addr)(m:Str)(f:Addr):Prop where
 at_:ZO K (.ref C) m=some (some (.ref f))
 fn:WI K (.ref f)=true
 kp:YN K (.ref f)=true
section
variable {X:Cx}{pins:List (Addr×Obj)}{σ:St}{H:Hp}{s:X1}{a C dx:Addr}{fs:List (Str×V)}{f:Str}{v:V}{A:XE}{E:Value->X1->Prop}
theorem Vq {b:Bool}{Q:Value->X1->Prop}(g:Inv X pins σ H s)(e:H a=some (.ins C dx fs))(c:Cls X.K C)(n:NoAttr X.K C f)(l:fs.lookup f=some v)
  (h:∀u s',Inv X pins σ H s'->RelV v u->Q u s'):wpAny (model X.prog X.w) A (getAttr (.ref a) f b) Q E s:=by
 obtain ⟨i,k,r,_,_,_⟩:=Li g.hok e;obtain ⟨u,j,d⟩:=RelO.some_of (v:=v) (o:=i f) (by rw [<- l];exact r f)
 exact pP g.kIn k (c.get f) c.hd n j (rH d) (h u _ (g.tok _) d)
theorem Jd {m:Str}{d:Addr}{pl:Sem Bool}{Q:Value×List Value->X1->Prop}(g:Inv X pins σ H s)(e:H a=some (.ins C dx fs))(c:Cls X.K C)(k:Meth X.K C m d)(l:fs.lookup m=none)
  (h:Q (.ref d,[.ref a]) s):wpAny (model X.prog X.w) A (jo (.ref a) m pl) Q E s:=by
 obtain ⟨b,i,r,_,_,_⟩:=Li g.hok e;have hn:b m=none:=RelO.none_of (by rw [<- l];exact r m)
 exact vB g.kIn i (c.get m) k.at_ k.fn hn h
theorem XQ {i:V}{u:Value}{Q:Unit->X1->Prop}(m:Inv X pins σ H s)(e:H a=some (.ins C dx fs))(c:Cls X.K C)(n:NoAttr X.K C f)(hl:fs.length < 1000)(ry:RelV i u)
  (h:∀s',Inv X pins σ (upd H a (.ins C dx (putF f i fs))) s'->Q () s'):wpAny (model X.prog X.w) A (setAttr (.ref a) f u) Q E s:=by
 obtain ⟨j,p,r,k,_,l⟩:=Li m.hok e;have t:(fs.map (·.1)).length<=X2:=by rw [Y6,sizeLine_eq];omega
 refine mK m.kIn p c.sa c.po n.taker c.hd k t λ h' g y=>h _ ?_
 have hd:∃o,h'.get? dx=some o:=let ⟨o,_,_,z,_⟩:=g.ns;⟨o,z⟩
 refine m.write (x:=a) (e:=dx) (by rw [e];exact zM) (.inr l) (λ b q hb B=>(y.2 b hb).trans B) hd ?_
 refine ⟨by rw [Ax p.ne];exact l,?_,p.ne,g.obj,_,g.ns,λ d=>?_,λ d D=>?_⟩
 ·have:=aF f i fs;omega
 ·show RelO ((putF f i fs).lookup d) (if d=f then some u else j d)
  rw [Vj];by_cases q:d=f
  ·rw [if_pos q,if_pos q];exact ry
  ·rw [if_neg q,if_neg q];exact r d
 ·by_cases q:d=f
  ·rw [q];exact (Oe f i fs).1
  ·refine (Oe f i fs).2 d (k d λ B=>D ?_)
   show (if d=f then some u else j d)=none
   rw [if_neg q];exact B
theorem Inv.made (i:Inv X pins σ H s):Inv X pins σ (upd (upd H s.heap.objs.size (.own (s.heap.objs.size+1))) (s.heap.objs.size+1) (.ins C s.heap.objs.size []))
  { s with heap:=(s.heap.push JZ).push (zo C s.heap.objs.size) }:=by
 have e1:(s.heap.push JZ).get? s.heap.objs.size=some JZ:=YL s.heap rfl;have e2:((s.heap.push JZ).push (zo C s.heap.objs.size)).get? (s.heap.objs.size+1)=some (zo C s.heap.objs.size):=by
  have:=YL (s.heap.push JZ) (o:=zo C s.heap.objs.size) rfl
  rwa [UC] at this
 have c:(s.heap.push JZ).Ns s.heap.objs.size (λ _=>none):=⟨JZ,#[],_,e1,rfl,(λ e d=>absurd d (by simp)),λ _=>rfl⟩
 have g:=i.laid (a:=s.heap.objs.size) (o:=.own (s.heap.objs.size+1)) (h':=s.heap.push JZ) (t':=s.toks) (λ b u q=>X9 _ q) (YE _) ⟨_,e1⟩
 refine g.laid (a:=s.heap.objs.size+1) (o:=.ins C s.heap.objs.size []) (t':=s.toks) (λ b u q=>X9 _ q) (wb (UC _ _)) ?_
 have ne:s.heap.objs.size≠s.heap.objs.size+1:=YO (zw _);refine ⟨by rw [Ax ne,Aj],JI _,ne,e2,λ _=>none,(Heap.Ns1.of_empty c).at λ o q=>X9 _ q,λ _=>zM,λ j h=>absurd rfl h⟩
theorem tD {prog:Yg}{w:World}{env:Env}{e:Expr}{f:Str}{pos:Pos}{s:X1}{Q:Value->X1->Prop}(hb:yn e f env (eval e env)=eval e env)
  (h:wpAny (model prog w) A (eval e env) (λ o b=>wpAny (model prog w) A (getAttr o f true) Q E b) E s):wpAny (model prog w) A (eval (.Attribute e f pos) env) Q E s:=
 Attribute_any_ h (by rw [arm_eval_Attribute,hb])
end
def tFld (K:FrG)(c:TE)(f:Str):TE:=λ d H Q=>c d H λ x b=>∃a C dx fs v,x=.ref a/\b a=some (.ins C dx fs)/\Cls K C/\NoAttr K C f/\fs.lookup f=some v/\Q v b
def sFld (K:FrG)(d e:TE)(f:Str):TS:=λ h b H=>e b H λ i g=>d b g λ x c=>∃a C dx fs,x=.ref a/\c a=some (.ins C dx fs)/\Cls K C/\NoAttr K C f/\fs.length < 1000/\
 h.nx b (upd c a (.ins C dx (putF f i fs)))
def InOp (X:Cx)(c:GI)(d:V->V->Hp->VK->Prop):Prop:=
 ∀(a:List (Addr×Obj)) (s:X1) (b:St) (H:Hp) (x e:V) (u v:Value) (Q:VK),Inv X a b H s->RelV x u->RelV e v->d x e H Q->wpAny (model X.prog X.w) X.A (inplaceOp c u v) (EP X a b Q) X.xe s
def sFldAug (K:FrG)(h i:TE)(j:V->V->Hp->VK->Prop)(f:Str):TS:=λ l d H=>h d H λ x e=>∃a C dx fs v,x=.ref a/\e a=some (.ins C dx fs)/\Cls K C/\NoAttr K C f/\fs.lookup f=some v/\
 i d e λ m k=>j v m k λ n g=>∃c b,g a=some (.ins C c b)/\b.length < 1000/\l.nx d (upd g a (.ins C c (putF f n b)))
section
variable {X:Cx}{o e value:Expr}{f:Str}{pos pos' tpos:Pos}{ta tv:TE}
theorem qM (d:PE X e ta)(hb:yn e f X.env (eval e X.env)=eval e X.env):PE X (.Attribute e f pos) (tFld X.K ta f):=by
 intro b s g H Q t h;refine tD hb (thn (d b s g H _ t h) λ u w ⟨x,i,j,k,a,C,dx,fs,v,ex,m,c,n,l,q⟩=>?_)
 subst ex;obtain rfl:u=YI a:=k;exact Vq j m c n l λ y z p r=>⟨v,i,p,r,q⟩
theorem uc (ha:PE X o ta)(hv:PE X value tv)(g:xf value (some (.Attribute o f pos')) pos.line X.env=pure false):PS X (.Assign [.Attribute o f pos'] value pos) (sFld X.K ta tv f):=by
 intro b s d H D y h;refine plainObj_wpAny_Assign_Attribute (thn (hv b s d H _ y h) λ u i ⟨E,j,k,ry,q⟩=>thn (ha b i d j _ k q) λ m z ⟨x,A,p,r,a,C,dx,fs,ex,t,c,n,l,v⟩=>?_) g
 subst ex;obtain rfl:m=YI a:=r;exact XQ p t c n l ry λ B w=>⟨d,_,w,v⟩
theorem Um {g:GI}{i:V->V->Hp->VK->Prop}(ha:PE X o ta)(hv:PE X value tv)(j:InOp X g i):PS X (.AugAssign (.Attribute o f tpos) g value pos) (sFldAug X.K ta tv i f):=by
 intro b s d H Z Q h;refine wpAny_AugAssign_AttributeAny (thn (ha b s d H _ Q h) λ m R ⟨x,p,r,t,a,C,dx,fs,v,ex,w,c,n,l,q⟩=>?_)
 subst ex;obtain rfl:m=YI a:=t;refine Vq r w c n l λ u y z A=>thn (hv b y d p _ z q) λ B D ⟨S,E,F,ry,G⟩=>thn (j b D d E v S u B _ F A ry G) λ T U ⟨a0,W,I,J,O,P,k,L,M⟩=>?_
 exact XQ I k c n L J λ Y N=>⟨d,_,N,M⟩
def rAdd:V->V->Hp->VK->Prop:=λ x a H Q=>∃i j,x=.int i/\a=.int j/\Q (.int (i+j)) H
theorem WD:InOp X .Add rAdd:=by
 rintro a s c H x g u v Q d b ry ⟨i,j,rfl,rfl,q⟩
 obtain ⟨t,rfl⟩:=(show ∃t,u=yY i t from b)
 obtain ⟨t',rfl⟩:=(show ∃t',v=yY j t' from ry)
 exact PyProof.Rows.iadd_int ⟨.int (i+j),H,d.tok _,⟨_,rfl⟩,q⟩
end
section
variable {X:Cx}{pins:List (Addr×Obj)}{σ:St}{H:Hp}{s:X1}{A:XE}{E:Value->X1->Prop}{Q:Value->X1->Prop}{c:Value}{b:Bool}
inductive TyOf (K:FrG)(H:Hp):V->Value->Prop where
 | non:TyOf K H .non (.type "NoneType")
 | bl (x:Bool):TyOf K H (.bl x) (.type "bool")
 | int (i:Int):TyOf K H (.int i) (.type "int")
 | str (x:Str):TyOf K H (.str x) (.type "str")
 | flt (x:UInt64):TyOf K H (.flt x) (.type "float")
 | lst {a:Addr} {xs:List V} (e:H a=some (.lst xs)):TyOf K H (.ref a) (.type "list")
 | frz {a:Addr} {o:Obj} {xs:List V} (e:H a=some (.frz o (.lst xs))):TyOf K H (.ref a) (.type "list")
 | tup {a:Addr} {xs:List V} (e:H a=some (.tup xs)):TyOf K H (.ref a) (.type "tuple")
 | dK {a:Addr} {kvs:List (Key×V)} (e:H a=some (.dK kvs)):TyOf K H (.ref a) (.type "dict")
 | dT {a:Addr} {kvs:List (List Key×V)} (e:H a=some (.dT kvs)):TyOf K H (.ref a) (.type "dict")
 | ins {a C dx:Addr} {fs:List (Str×V)} (e:H a=some (.ins C dx fs)) (cl:Cls K C) (ha:ZO K (.ref C) "__class__"=some (some (.builtin "object.__class__")))
   (hn:xl K (.builtin "object.__class__") "__get__"=some (some (.builtin "getset_descriptor.__get__"))) (htk:xP K (.builtin "object.__class__")=some true)
   (hm:yk K C (.type "object")=some true):TyOf K H (.ref a) (.ref C)
theorem JD {x:V}{u t:Value}(k:Inv X pins σ H s)(d:RelV x u)(y:TyOf X.K H x t)(e:ZJ X.K t c=some b)(h:∀tk,Q (.bool b) { s with toks:=tk }):
  wpAny (model X.prog X.w) A (call (.builtin "isinstance") [u,c]) Q E s:=by
 cases y with
 | non=>cases (show u=WR from d);exact UO PySem.W.kitx_none k.kIn zM e (λ g=>nomatch g) h
 | bl r=>cases (show u=yT r from d);exact UO PySem.W.kitx_bool k.kIn zM e (λ g=>nomatch g) h
 | int i=>obtain ⟨t,q⟩:=(show ∃t,u=yY i t from d);cases q;exact UO PySem.W.kitx_int k.kIn zM e (λ g=>nomatch g) h
 | str r=>obtain ⟨t,q⟩:=(show ∃t:NZ,u=uj r t.1 from d);cases q;exact UO PySem.W.kitx_str k.kIn zM e (λ g=>nomatch g) h
 | flt r=>obtain ⟨t,q⟩:=(show ∃t,u=FP r t from d);cases q;exact UO PySem.W.kitx_float k.kIn zM e (λ g=>nomatch g) h
 | @lst a xs f=>
  cases (show u=YI a from d)
  obtain ⟨_,_,n,_,j⟩:=(show ObjOk X.prog X.w H s.heap a (.lst xs) from k.hok a _ f)
  exact UO wL k.kIn ⟨_,j,rfl⟩ e (λ g=>nomatch g) h
 | @frz a ob xs f=>
  cases (show u=YI a from d)
  obtain ⟨_,_,_,n,_,j⟩:=(show ObjOk X.prog X.w H s.heap a (.frz ob (.lst xs)) from k.hok a _ f)
  exact UO wL k.kIn ⟨_,j,rfl⟩ e (λ g=>nomatch g) h
 | @tup a xs f=>
  cases (show u=YI a from d)
  obtain ⟨_,_,_,p⟩:=(show ObjOk X.prog X.w H s.heap a (.tup xs) from k.hok a _ f)
  obtain ⟨o,j,l,_⟩:=p;exact UO Fu k.kIn ⟨o,j,l⟩ e (λ g=>nomatch g) h
 | @dK a m f=>
  cases (show u=YI a from d)
  obtain ⟨_,_,vs,_,p⟩:=(show ObjOk X.prog X.w H s.heap a (.dK m) from k.hok a _ f)
  obtain ⟨o,z,B,j,l,_⟩:=p;exact UO FC k.kIn ⟨o,j,l.1⟩ e (λ g=>nomatch g) h
 | @dT a m f=>
  cases (show u=YI a from d)
  obtain ⟨_,_,xs,_,o,z,B,j,l,_⟩:=(show ObjOk X.prog X.w H s.heap a (.dT m) from k.hok a _ f)
  exact UO FC k.kIn ⟨o,j,l.1⟩ e (λ g=>nomatch g) h
 | @ins a C dx fs f cl ha hn v hm=>
  cases (show u=YI a from d)
  obtain ⟨D,F,_⟩:=Li k.hok f;obtain ⟨G,I,_⟩:=F.look;exact UO (PySem.W.kitx_own (cl.get _) cl.hd ha hn v hm) k.kIn I e (λ g=>nomatch g) h
end
structure Room (k:Nat)(A:XE):Prop where
 hd:A.handled=none
 dp:A.depth+3 * k+5 < GL
 un:A.units+16 * k+200 < cLine
theorem uM {A:XE}{C:Addr}{us:List Value}{a:List (Str×Value)}:(A.under (.builtin "type.__call__" ⟨.ref C::us,a⟩)).depth=A.depth+1:=by
 first | rfl | simp [FD,Code.weight,Code.isCreation,Code.isGuard,Code.isCaller,Code.frames,FE,guardIds]
theorem pR {A:XE}{C:Addr}{us:List Value}{a:List (Str×Value)}:(A.under (.builtin "type.__call__" ⟨.ref C::us,a⟩)).units=A.units+1:=by
 first | rfl | simp [FD,Code.cUnits,Code.frames,FE]
theorem Room.make {k:Nat}{A:XE}(r:Room (k+1) A)(C:Addr)(us:List Value)(a:List (Str×Value)):Room k (A.under (.builtin "type.__call__" ⟨.ref C::us,a⟩)):=
 ⟨r.hd,by have:=r.dp;rw [uM];omega,by have:=r.un;rw [pR];omega⟩
def tNil:TA:=λ _ H Q=>Q [] H
def tCons (b:TE)(c:TA):TA:=λ a H Q=>b a H λ x d=>c a d λ xs e=>Q (x::xs) e
section
variable {X:Cx}{e:Expr}{es:List Expr}{te:TE}{t:TA}{pos:Pos}
theorem Aa:PA X [] tNil:=λ _ _ _ _ H Q a h=>wM ⟨[],H,a,.nil,h⟩
theorem Dc (ha:PE X e te)(c:PA X es t)(d:YM (e::es) X.env=(false,eval e X.env)::YM es X.env:=by rfl):PA X (e::es) (tCons te t):=by
 intro pos a s b H Q p h;rw [d];show wpAny _ _ (spliced ((false,eval e X.env)::QK pos (YM es X.env))) _ _ s;refine wo (thn (ha a s b H _ p h) λ u f ⟨x,g,i,j,k⟩=>?_)
 exact thn (c pos a f b g _ i k) λ us q ⟨xs,l,m,n,o⟩=>⟨x::xs,l,m,.cons j n,o⟩
def tTup (t:TA):TE:=λ b H Q=>t b H λ xs a=>xs.length<=X2/\∀p,a p=none->Q (.ref p) (upd a p (.tup xs))
def tLst (t:TA):TE:=λ b H Q=>t b H λ xs a=>xs.length<=X2/\∀p,a p=none->Q (.ref p) (upd a p (.lst xs))
theorem De {x1}(h:PA X es t):PE X (.Tuple es x1 pos) (tTup t):=by
 intro c s g H Q k i;refine wpAny_Tuple_spliced (thn (h pos c s g H _ k i) λ us a ⟨xs,d,f,r,j,q⟩=>⟨by rw [<- r.length];exact j,?_⟩)
 have hf:d a.heap.objs.size=none:=f.hok.fresh (YE _);refine ⟨.ref a.heap.objs.size,upd d a.heap.objs.size (.tup xs),f.laid (t':=a.toks) (λ b u e=>X9 _ e) (YE _) ?_,rfl,q _ hf⟩
 exact ⟨j,us,r,⟨_,YL _ rfl,rfl,_,rfl⟩⟩
theorem Bl (h:PA X es t):PE X (.List es pos) (tLst t):=by
 intro c s g H Q k i;refine wpAny_List_spliced (thn (h pos c s g H _ k i) λ us a ⟨xs,d,f,r,j,q⟩=>⟨by rw [<- r.length];exact j,?_⟩)
 have hf:d a.heap.objs.size=none:=f.hok.fresh (YE _);refine ⟨.ref a.heap.objs.size,upd d a.heap.objs.size (.lst xs),f.laid (t':=a.toks) (λ b u e=>X9 _ e) (YE _) ?_,rfl,q _ hf⟩
 exact ⟨j,us,0,r,YL _ rfl⟩
end
abbrev Sp:=List V->Hp->VK->XK->Prop
abbrev CXT:=List Env->Hp->X1->XK->Value->X1->Prop
structure Env0 (P:Yg)(w:World)(K:FrG)(mg:Str->Option Value)(base:Heap)(A:XE)(outer:List Env)(s:X1)(H:Hp):Prop where
 frames:A.frames=some outer
 mod:Mod K mg base
 bs:∀b o,base.get? b=some o->s.heap.get? b=some o/\H b=none
 bsz:base.objs.size<=s.heap.objs.size
 funs:s.heap.FunFrames base outer
 frf:∀b∈frs outer,H b=none
 hok:HOk P w H s.heap
 bare:yG s.gens
def CE (outer:List Env)(P:Yg)(w:World)(H:Hp)(s:X1)(Q:VK)(u:Value)(s':X1):Prop:=
 ∃v a,s'.os=s.os/\yG s'.gens/\Un (frs outer) [] H a s.heap s'.heap/\HOk P w a s'.heap/\RelV v u/\Q v a
def CR (CX:CXT)(outer:List Env)(P:Yg)(w:World)(H:Hp)(s:X1)(Q:VK)(E:XK)(r:Result)(s':X1):Prop:=
 match r with
 | .ok (.ret u)=>CE outer P w H s Q u s'
 | .ok _=>False
 | .error e=>CX outer H s E e s'
structure FnOk (P:Yg)(w:World)(K:FrG)(mg:Str->Option Value)(base:Heap)(CX:CXT)(k:Nat)(f:Addr)(fd:JN)(ps:List Str)(sp:Sp):Prop where
 len:∀vs H Q E,sp vs H Q E->vs.length=ps.length
 run:∀(A:XE) (outer:List Env) (s:X1) (H:Hp) (args:Args) (us:List Value) (vs:List V) (Q:VK) (E:XK),Room k A->Env0 P w K mg base A outer s H->qq s fd args (ps.zip us)->Vals vs us->sp vs H Q E->(1<=s.toks\/∃x r,ps=x::r/\fd.scope.names.lookup x=some .local)->
  zK (model P w) A (.call (.ref f) args) (CR CX outer P w H s Q E) s
theorem Env0.make {P:Yg}{w:World}{K:FrG}{mg:Str->Option Value}{base:Heap}{A:XE}{outer:List Env}{s:X1}{H:Hp}(e:Env0 P w K mg base A outer s H)(C:Addr)(us:List Value)(a:List (Str×Value)):
  Env0 P w K mg base (A.under (.builtin "type.__call__" ⟨.ref C::us,a⟩)) outer s H:=⟨by first | exact e.frames | (simpa [FD,Code.envs,FE,pushEnvs] using e.frames),e.mod,e.bs,e.bsz,e.funs,e.frf,e.hok,e.bare⟩
section
variable {X:Cx}{pins:List (Addr×Obj)}{σ:St}{H:Hp}{s s':X1}
theorem Inv.env0 (a:Inv X pins σ H s):Env0 X.prog X.w X.K X.mg X.base X.A X.stack s H:=
 ⟨a.ok.frames,a.ok.mod,a.bs,U2 a.ok.bsz a.sz,a.stack,a.stkFree,a.hok,a.bare⟩
theorem Inv.after {Q:VK}{u:Value}(f:Inv X pins σ H s)(h:CE X.stack X.prog X.w H s Q u s')(ht:1<=s'.toks:=by assumption):EP X pins σ Q u s':=by
 obtain ⟨v,c,os,bare,un,hok,r,q⟩:=h;obtain ⟨e,g,d,t,a⟩:=s';obtain rfl:a=s.os:=os;exact ⟨v,c,f.call (h':=e) (g':=g) (d':=d) (t':=t) (ch:=[]) un hok bare (λ b i=>absurd i (by simp)),r,q⟩
end
def tCall (sp:Sp)(dvs:List V)(E:XK)(t:TA):TE:=λ a H Q=>t a H λ vs b=>sp (vs++dvs) b Q E
def tMake (C:Addr)(sp:Sp)(dvs:List V)(E:XK)(t:TA):TE:=λ b H Q=>t b H λ vs a=>∀x dx,a x=none->a dx=none->dx≠x->
 sp (.ref x::(vs++dvs)) (upd (upd a dx (.own x)) x (.ins C dx [])) (λ v c=>v=.non/\Q (.ref x) c) E
def Binds (K:FrG)(fd:JN)(ps:List Str)(ds:List Value):Prop:=
 ∀(s:X1) (us:List Value),K.In s.heap->(us++ds).length=ps.length->qq s fd ⟨us,[]⟩ (ps.zip (us++ds))
theorem Binds.all {K:FrG}{fd:JN}{ps:List Str}(h:∀us:List Value,us.length=ps.length->yR fd ⟨us,[]⟩=pure (ps.zip us)):Binds K fd ps []:=λ s us _ hl=>by
 rw [UB] at hl ⊢;exact .of_eq (h us hl)
def Passes (CX:CXT)(X:Cx)(E:XK):Prop:=∀(a:List (Addr×Obj)) (b:St) (H:Hp) (s:X1) (e:Value) (s':X1),Inv X a b H s->CX X.stack H s E e s'->1<=s'.toks->X.xe e s'
section
variable {X:Cx}{CX:CXT}{k:Nat}{f C:Addr}{fd:JN}{ps:List Str}{sp:Sp}{dvs:List V}{ds:List Value}{E:XK}{x m:Str}{p pos apos:Pos}{e o:Expr}{es:List Expr}{ta:TE}{t:TA}
theorem QS {a:List (Addr×Obj)}{c:St}{H:Hp}{s:X1}{Q:VK}{us:List Value}{vs:List V}(n:FnOk X.prog X.w X.K X.mg X.base CX k f fd ps sp)(i:Room k X.A)(hb:Binds X.K fd ps ds)(hd:Vals dvs ds)(j:Passes CX X E)
  (d:Inv X a c H s) (r:Vals vs us) (h:sp (vs++dvs) H Q E):wpAny (model X.prog X.w) X.A (call (.ref f) us) (EP X a c Q) X.xe s:=by
 have g:Vals (vs++dvs) (us++ds):=r.append hd;have hl:(us++ds).length=ps.length:=by rw [<- g.length];exact n.len _ _ _ _ h
 refine wpAny_call (xv d.tk (xw (n.run X.A X.stack s H ⟨us,[]⟩ (us++ds) (vs++dvs) Q E i d.env0 (hb s us d.kIn hl) g h (.inl d.tk)) λ r s' b ht=>?_))
 cases r with
 | error e=>exact j a c H s e s' d b ht
 | ok l=>
  cases l with
  | ret u=>exact d.after b
  | next=>exact UQ b
  | brk=>exact UQ b
  | cont=>exact UQ b
structure Mk (K:FrG)(C f:Addr):Prop where
 makes:zD K C=true
 init:ZO K (.ref C) "__init__"=some (some (.ref f))
 fn:WI K (.ref f)=true
 kp:YN K (.ref C)=true
theorem Vp {b:List (Addr×Obj)}{d:St}{H:Hp}{s:X1}{Q:VK}{us:List Value}{vs:List V}(M:Mk X.K C f)(I:FnOk X.prog X.w X.K X.mg X.base CX k f fd ps sp)(l:Room (k+1) X.A)(hb:Binds X.K fd ps ds)(hd:Vals dvs ds)
  (n:Passes CX X E) (j:Inv X b d H s) (r:Vals vs us)
  (h:∀x dx,H x=none->H dx=none->dx≠x->sp (.ref x::(vs++dvs)) (upd (upd H dx (.own x)) x (.ins C dx [])) (λ v q=>v=.non/\Q (.ref x) q) E):
  wpAny (model X.prog X.w) X.A (call (.ref C) us) (EP X b d Q) X.xe s:=by
 have g:=h (s.heap.objs.size+1) s.heap.objs.size (j.hok.fresh (xa _)) (j.hok.fresh (YE _)) (YO (zw _));have c:=Inv.made (C:=C) j;have i:Vals (V.ref (s.heap.objs.size+1)::(vs++dvs)) (YI (s.heap.objs.size+1)::(us++ds)):=.cons rfl (r.append hd);have hl:(YI (s.heap.objs.size+1)::us++ds).length=ps.length:=by
  have e:=i.length;rw [I.len _ _ _ _ g] at e;exact e.symm
 refine wpAny_call (uW (f:=f) j.kIn M.makes M.init (beq_iff_eq.mp M.fn) (xv c.tk (xw (I.run _ X.stack _ _ ⟨YI (s.heap.objs.size+1)::us,[]⟩ (YI (s.heap.objs.size+1)::(us++ds)) _ _ E (l.make C us [])
  (c.env0.make C us []) (hb _ (YI (s.heap.objs.size+1)::us) c.kIn hl) i g (.inl c.tk)) λ r s' a ht=>?_)))
 cases r with
 | error e=>exact n b d _ _ e s' c a ht
 | ok y=>
  cases y with
  | ret u=>
   obtain ⟨v,z,B,D,F,G⟩:=c.after a;subst F;exact ⟨D,⟨V.ref (s.heap.objs.size+1),z,B,rfl,G⟩⟩
  | next=>exact UQ a
  | brk=>exact UQ a
  | cont=>exact UQ a
theorem qG (M:Mk X.K C f)(v:FnOk X.prog X.w X.K X.mg X.base CX k f fd ps sp)(g:Room (k+1) X.A)(i:Gl X x)(hm:X.mg x=some (.ref C))(hb:Binds X.K fd ps ds)(hd:Vals dvs ds)(j:Passes CX X E)
  (ha:PA X (e::es) t) (b:(x == ("__debug__":Str))=false:=by decide) (l:YM (e::es) X.env=(false,eval e X.env)::YM es X.env:=by rfl) (c:(QK pos (YM es X.env)).any (·.1)=false:=by rfl):
  PE X (.Call (.Name x p) (e::es) [] pos) (tMake C sp dvs E t):=by
 intro a s n H Q u h;refine JO (EY u i hm ?_ b);refine JJ (h₀:=X.base) u.ok.mod.kin M.kp (thn (ha pos a s n H _ u h) λ us y ⟨vs,z,d,r,q⟩=>⟨d.kIn,?_⟩) l c
 exact Vp M v g hb hd j d r q
theorem pO (M:Mk X.K C f)(j:FnOk X.prog X.w X.K X.mg X.base CX k f fd ps sp)(b:Room (k+1) X.A)(c:Gl X x)(hm:X.mg x=some (.ref C))(hb:Binds X.K fd ps ds)(hd:Vals dvs ds)(d:Passes CX X E)
  (a:(x == ("__debug__":Str))=false:=by decide):PE X (.Call (.Name x p) [] [] pos) (tMake C sp dvs E tNil):=by
 intro g s l H Q i h;refine JO (EY i c hm ?_ a);exact xX i.kIn M.kp (Vp (us:=[]) M j b hb hd d i .nil h)
end
structure FnScope (N P:List Str)(sc:Scope):Prop where
 kind:sc.kind=.function
 co:sc.isCoroutine=false
 gen:sc.isGenerator=false
 nd:N.Nodup
 pre:N.take P.length=P
 par:∀x∈P,sc.names.lookup x=some .local\/sc.names.lookup x=some .cell
 nofree:∀y∈sc.names,y.2≠.free
theorem WT {kindOf:Str->Option Qv}{x:Str}:∀{binds:List (Str×Value)} {m:Str->Option Value},(∀v,(x,v)∉binds)->bindL kindOf binds m x=m x
 | [],_,_=>rfl
 | (n,v)::r,m,h=>by
  unfold bindL;rw [WT λ w a=>h w (Ya _ a)]
  split
  ·have:x≠n:=by rintro rfl;exact h v ZU
   simp [this]
  ·rfl
theorem az {kindOf:Str->Option Qv}{x:Str}:∀{binds:List (Str×Value)} {m:Str->Option Value},(∀v,(x,v)∉binds)->bindC kindOf binds m x=m x
 | [],_,_=>rfl
 | (n,v)::r,m,h=>by
  unfold bindC;rw [az λ w a=>h w (Ya _ a)]
  split
  ·rfl
  ·have:x≠n:=by rintro rfl;exact h v ZU
   simp [this]
theorem VL {kindOf:Str->Option Qv}{x:Str}{v:Value}:∀{P:List Str} {vs:List Value} {i:Nat} {m:Str->Option Value},P.Nodup->P[i]?=some x->vs[i]?=some v->kindOf x=some .local->
  bindL kindOf (P.zip vs) m x=some v
 | [],_,_,_,_,h,_,_=>by simp at h
 | _::_,[],_,_,_,_,h,_=>by simp at h
 | p::P,w::vs,0,m,nd,a,b,c=>by
  simp at a b;subst a;subst b
  show bindL kindOf ((p,w)::P.zip vs) m p=_;unfold bindL;rw [WT λ v hv=>(yf.mp nd).1 (xQ hv).1,if_pos c]
  simp
 | p::P,w::vs,i+1,m,nd,a,b,c=>by
  show bindL kindOf ((p,w)::P.zip vs) m x=_;unfold bindL;exact VL (i:=i) (yf.mp nd).2 (by simpa using a) (by simpa using b) c
theorem Tr {kindOf:Str->Option Qv}{x:Str}{v:Value}:∀{P:List Str} {vs:List Value} {i:Nat} {m:Str->Option Value},P.Nodup->P[i]?=some x->vs[i]?=some v->kindOf x≠some .local->
  bindC kindOf (P.zip vs) m x=some v
 | [],_,_,_,_,h,_,_=>by simp at h
 | _::_,[],_,_,_,_,h,_=>by simp at h
 | p::P,w::vs,0,m,nd,a,b,c=>by
  simp at a b;subst a;subst b
  show bindC kindOf ((p,w)::P.zip vs) m p=_;unfold bindC;rw [az λ v hv=>(yf.mp nd).1 (xQ hv).1,if_neg c]
  simp
 | p::P,w::vs,i+1,m,nd,a,b,c=>by
  show bindC kindOf ((p,w)::P.zip vs) m x=_;unfold bindC;exact Tr (i:=i) (yf.mp nd).2 (by simpa using a) (by simpa using b) c
def start (N:List Str)(vs:List V):St:=vs.map some++WC (N.length - vs.length) none
def cxOf (CX:CXT)(P:Yg)(w:World)(K:FrG)(mg:Str->Option Value)(base:Heap)(N:List Str)(b:Str)(a:Scope)(f:Addr)(c:Value)(A:XE)(outer:List Env)(s:X1)(H:Hp)(E:XK):Cx where
 prog:=P
 w:=w
 K:=K
 mg:=mg
 base:=base
 A:=A.deeper (yC b a s.heap.objs.size f c)
 N:=N
 s₀:=s
 H₀:=H
 env:=yC b a s.heap.objs.size f c
 outer:=outer
 stack:=yC b a s.heap.objs.size f c::outer
 ex:=[]
 calm:=true
 fn:=λ _=>true
 pn:=[]
 xe:=λ e s'=>wpAny (model P w) (A.deeper (yC b a s.heap.objs.size f c)) (leaving (yC b a s.heap.objs.size f c) e) (λ _ d=>CX outer H s E e d) (λ g d=>CX outer H s E g d) s'
theorem Qj {a:Scope}{n:Nat}{x:Str}(h:a.names.lookup x=some .cell):∃c,(zn n a.names []).lookup x=some c:=by
 have q:=xm a.names n [] (.inl h);exact zN.mp q
theorem Xm {M:Model}{A:XE}{E:Value->X1->Prop}{f:X1}{g:Scope}{h:Addr}{m:List (Str×Value)}{i:Str}{j:Option Addr}{co:Value}{bl:Addr}{Q:Env->X1->Prop}
  (s:g.kind=.function)
  (l:∀x∈m,g.names.lookup x.1=some .local\/(g.names.lookup x.1=some .cell/\((zn (f.heap.objs.size+1) g.names []).lookup x.1).isSome=true))
  (ht:1<=f.toks\/∃n v r,m=(n,v)::r/\g.names.lookup n=some .local)
  (t:∀env,env=GM g f.heap.objs.size h (zn (f.heap.objs.size+1) g.names []) i j co none bl->
   ∀s',InCallC f env.locals (bindL env.kindOf m λ _=>none) env.cells (bindC env.kindOf m λ _=>none) s'->1<=s'.toks->Q env s'):
  wpAny M A (newFunctionEnv g h [] m i j co none bl) Q E f:=by
 rcases ht with ht | ⟨n,v,r,rfl,hl⟩
 ·exact zq ht (wpAny_newFunctionEnv_cells s l t)
 simp only [wq,if_false,newFunctionEnv,QA];refine Y3 (wpAny_alloc ?_);refine Y3 (wpAny_layCells _ (λ a b d=>by cases hb:b == wX<;>simp [hb]) _ _ _ _ ?_)
 have ok:=cellsFrom_ok g.names (f.heap.push { cls:=.type "frame",data:=.dict #[] }) (f.heap.objs.size+1) [] ⟨λ _ _ hm=>(nomatch hm),FF⟩ (by rw [UC];exact YE _)
 rw [UC] at ok;rw [show ({ f with heap:=f.heap.push { cls:=.type "frame",data:=.dict #[] } }:X1).heap.objs.size=f.heap.objs.size+1 from UC ..]
 have x:InCallC f (GM g f.heap.objs.size h (zn (f.heap.objs.size+1) g.names []) i j co none bl).locals (λ _=>none) (GM g f.heap.objs.size h (zn (f.heap.objs.size+1) g.names []) i j co none bl).cells (λ _=>none) { f with heap:=pushCells (f.heap.push { cls:=.type "frame",data:=.dict #[] }) g.names }:=
  ⟨⟨⟨_,_,rfl⟩,(Heap.Ns.new f.heap (.type "frame")).keeps (pushCells_keeps _ _),λ b o e=>pushCells_keeps _ _ b o (X9 _ e),YE _⟩,
   λ n c p=>(ok.empty n c (mem_of_lookup p)).1,ok.apart,λ n c hm=>(ok.empty n c hm).2⟩
 refine Y3 ?_;rw [zb];refine Y3 (Y3 (wpAny_storeName_local (env:=GM g f.heap.objs.size h (zn (f.heap.objs.size+1) g.names []) i j co none bl) hl x.toInCall.ns (λ h' u q=>?_) (by show (g.kind == _ || (g.kind == _ && _))=false;rw [s];rfl)))
 refine ZH ?_;have y:InCallC f (GM g f.heap.objs.size h (zn (f.heap.objs.size+1) g.names []) i j co none bl).locals (λ z=>if z=n then some v else none) (GM g f.heap.objs.size h (zn (f.heap.objs.size+1) g.names []) i j co none bl).cells (λ _=>none) { f with heap:=h',toks:=f.toks+1 }:=by
  refine ⟨⟨⟨h',_,rfl⟩,u,λ b o e=>?_,x.toInCall.fresh⟩,λ k c p=>?_,x.apart,x.above⟩
  ·exact q.extBut b o (YO (W1 (ZI e) x.toInCall.fresh)) (x.toInCall.keep b o e)
  ·exact (x.cell k c p).sameBut q (WB (x.above k c (mem_of_lookup p)))
 refine zq (n:=1) (YU _ _) ?_;refine wpAny_bindParams (s₀:=f) (env:=GM g f.heap.objs.size h (zn (f.heap.objs.size+1) g.names []) i j co none bl)
  _ (λ _ _ _=>rfl) s r _ _ _ _ y (λ z B=>l z (Ya _ B)) λ s' C w=>ZH (t _ rfl s' ?_ w)
 unfold bindL bindC;rw [if_pos (show (GM g f.heap.objs.size h (zn (f.heap.objs.size+1) g.names []) i j co none bl).kindOf n=some .local from hl),if_pos (show (GM g f.heap.objs.size h (zn (f.heap.objs.size+1) g.names []) i j co none bl).kindOf n=some .local from hl)];exact C
theorem lQ {s:X1}{ps:List Str}{us:List Value}{vs:List V}{c:Scope}(hl:vs.length=ps.length)(r:Vals vs us)(h:1<=s.toks\/∃x r,ps=x::r/\c.names.lookup x=some .local):1<=s.toks\/∃n v r,ps.zip us=(n,v)::r/\c.names.lookup n=some .local:=by
 rcases h with h | ⟨x,d,rfl,h⟩
 ·exact .inl h
 ·cases r with
  | nil=>cases hl
  | cons a b=>exact .inr ⟨x,_,_,rfl,h⟩
section
variable {X:Cx}{x:Str}{p pos:Pos}{e:Expr}{es:List Expr}{t:TA}{id T:String}{r:List V->Hp->VK->Prop}
def tCB (r:List V->Hp->VK->Prop)(t:TA):TE:=λ a H Q=>t a H λ vs b=>r vs b Q
theorem BV (f:CallR X (.builtin id) r)(g:Gl X x)(hm:X.mg x=none)(hv:Jn x=some (.builtin id))(ha:PA X (e::es) t)(hn:x≠"__name__":=by decide)(b:(x == ("__debug__":Str))=false:=by decide)
  (i:YM (e::es) X.env=(false,eval e X.env)::YM es X.env:=by rfl) (c:(QK pos (YM es X.env)).any (·.1)=false:=by rfl):PE X (.Call (.Name x p) (e::es) [] pos) (tCB r t):=by
 intro a s d H Q o h;refine JO (HR o g hm hv ?_ hn b);exact PyProof.Rows.callWith_builtin1 (thn (ha pos a s d H _ o h) λ us j ⟨vs,k,l,m,n⟩=>f a j d k vs us Q l m n) i c
theorem Ib (f:CallR X (.type T) r)(g:Gl X x)(hm:X.mg x=none)(hv:Jn x=some (.type T))(ha:PA X (e::es) t)(hn:x≠"__name__":=by decide)(b:(x == ("__debug__":Str))=false:=by decide)
  (i:YM (e::es) X.env=(false,eval e X.env)::YM es X.env:=by rfl) (c:(QK pos (YM es X.env)).any (·.1)=false:=by rfl):PE X (.Call (.Name x p) (e::es) [] pos) (tCB r t):=by
 intro a s d H Q o h;refine JO (HR o g hm hv ?_ hn b);exact zr (thn (ha pos a s d H _ o h) λ us j ⟨vs,k,l,m,n⟩=>f a j d k vs us Q l m n) i c
end
end L2
namespace HT
open PySem PyProof.Rows
section
variable {prog:Yg}{w:World}{A:XE}{E:Value->X1->Prop}{s:X1}
def sIx (n d:Nat):Option Int->Nat
 | none=>d
 | some v=>if v < 0 then (v+(n:Int)).toNat else min v.toNat n
theorem M9 (n d:Nat):sIx n d none=d:=rfl
theorem Er (n d k:Nat):sIx n d (some (k:Int))=min k n:=by
 show (if (k:Int) < 0 then ((k:Int)+(n:Int)).toNat else min (k:Int).toNat n)=min k n
 rw [if_neg (by omega),Qb]
theorem tH (n d:Nat)(hd:d<=n)(o:Option Int):sIx n d o<=n:=by
 cases o with
 | none=>exact hd
 | some v=>
  show (if v < 0 then (v+(n:Int)).toNat else min v.toNat n)<=n
  by_cases hv:v < 0
  ·rw [if_pos hv];omega
  ·rw [if_neg hv];exact Nat.min_le_right _ _
theorem Wk (v:Int)(n d:Nat):(if v < 0 then max (v+(n:Int)) 0 else min v (n:Int))=((sIx n d (some v):Nat):Int):=by
 show (if v < 0 then max (v+(n:Int)) 0 else min v (n:Int))=(((if v < 0 then (v+(n:Int)).toNat else min v.toNat n):Nat):Int)
 by_cases hv:v < 0
 ·simp only [if_pos hv];omega
 ·simp only [if_neg hv];omega
theorem fc (lo a:Option Int)(n:Nat):yH lo a 1 (n:Int)=(((sIx n 0 lo:Nat):Int),((sIx n n a:Nat):Int)):=by
 have b:¬ ((1:Int) < 0):=by omega
 unfold yH;simp only [b,if_false];refine Prod.ext ?_ ?_
 ·cases lo with
  | none=>rfl
  | some v=>exact Wk v n 0
 ·cases a with
  | none=>rfl
  | some v=>exact Wk v n n
theorem lY (i j:Nat):zB (i:Int) (j:Int) 1=j - i:=by
 unfold zB;have a:(1:Int) > 0:=by omega
 simp only [a,if_true,Int.ediv_one]
 split<;>omega
theorem ZK {v:Value}{o:Option Int}{Q:Option Int->X1->Prop}(p:IsPart v o)(h:Q o s):wpAny (model prog w) A (Xy.Slice.slicePartIndex v) Q E s:=by
 cases p with
 | none=>exact slicePart_none h
 | int i t=>exact slicePart_int h
theorem tE {f:Addr}{d e:Value}{lo a:Option Int}{n:Nat}{Q:Int×Int×Nat->X1->Prop}(g:s.heap.IsSliceOf f d e .none)(pl:IsPart d lo)(i:IsPart e a)
  (h:Q (((sIx n 0 lo:Nat):Int),1,sIx n n a - sIx n 0 lo) s):wpAny (model prog w) A (wr (.ref f) (pure (n:Int))) Q E s:=by
 obtain ⟨os,b,j,c⟩:=id g;unfold wr Xy.Slice.sliceFields;refine Y3 (Y3 (XZ b c (x:=d) rfl (Y3 (XZ b c (x:=e) rfl (Y3 (XZ b c (x:=.none) rfl (ZH ?_)))))));refine Y3 (slicePart_none ?_);show wpAny _ _ (if ((1:Int) == 0)=true then _ else _) _ _ s
 rw [if_neg (by decide)]
 refine Y3 (ZK pl (Y3 (ZK i (Y3 (ZH ?_)))));show wpAny _ _ (match yH lo a 1 (n:Int) with | (lo,a)=>pure (lo,(1:Int),zB lo a 1)) _ _ s
 rw [fc lo a n];show wpAny _ _ (pure (((sIx n 0 lo:Nat):Int),(1:Int),zB ((sIx n 0 lo:Nat):Int) ((sIx n n a:Nat):Int) 1)) _ _ s;rw [lY];exact ZH h
theorem uB (xs:Array Value)(i k:Nat):((UP k).filterMap λ (m:Nat)=>xs[((i:Int)+(m:Int) * 1).toNat]?).toArray=((xs.toList.drop i).take k).toArray:=by
 have e:(λ (m:Nat)=>xs[((i:Int)+(m:Int) * 1).toNat]?)=λ m=>xs[i+m]?:=by
  funext m
  have:((i:Int)+(m:Int) * 1).toNat=i+m:=by omega
  rw [this]
 rw [e];have:=pick_run xs i k;rw [wt] at this;have e2:((λ x=>xs[x]?) ∘ λ x=>i+x)=λ m=>xs[i+m]?:=rfl
 rw [e2] at this;rw [this]
theorem oF {t c:Addr}{items:Array Value}{d e:Value}{lo b:Option Int}{Q:Value->X1->Prop}(ht:IsTup s.heap t items)(f:s.heap.IsSliceOf c d e .none)(pl:IsPart d lo)(l:IsPart e b)
  (n:¬ (sIx items.size 0 lo=0/\sIx items.size items.size b=items.size))
  (h:Q (.ref s.heap.objs.size) { s with heap:=s.heap.push { cls:=.type "tuple",data:=.seq ((items.toList.drop (sIx items.size 0 lo)).take (sIx items.size items.size b - sIx items.size 0 lo)).toArray } })
  (hsz:items.size<=X2):wpAny (model prog w) A (wW (.ref t) (.ref c)) Q E s:=by
 have a:sizeOk (.seq ((items.toList.drop (sIx items.size 0 lo)).take (sIx items.size items.size b - sIx items.size 0 lo)).toArray):=by
  show ((items.toList.drop (sIx items.size 0 lo)).take (sIx items.size items.size b - sIx items.size 0 lo)).toArray.size<=X2;rw [YY,Uf,zx,Jq];omega
 have p:sIx items.size items.size b<=items.size:=tH _ _ (YE _) b;obtain ⟨os,g,i,o⟩:=id f;have j:s.TypeIs (.ref c) "slice":=⟨os,g,i⟩;unfold wW
 try with_reducible refine WO ?_
 first | refine Y3 (ZH ?_) | skip
 refine Y3 (wpAny_sequenceKey ht.typeIs (by decide) ?_)
 refine Y3 (QJ (name:=Y1 "__getitem__") ht.typeIs zR
  (ya zR ht.typeIs entry_tuple_getitem ?_ (args_tuple_getitem _ _)))
 show wpAny _ _ (Xy.Tuple.tupleItemsOf (.ref t) >>= _) _ _ s;refine Y3 (tupleItemsOf_ ht ?_);refine Y3 (wpAny_typeOf j ?_);rw [if_pos (by decide)]
 refine Y3 (tE f pl l ?_);have k:¬ ((((sIx items.size 0 lo:Nat):Int) == 0 && (1:Int) == 1 && (sIx items.size items.size b - sIx items.size 0 lo) == items.size)=true):=by
  intro q;rw [zy,zy] at q;have r:((sIx items.size 0 lo:Nat):Int)=0:=eq_of_beq q.1.1;have u:sIx items.size items.size b - sIx items.size 0 lo=items.size:=eq_of_beq q.2;exact n ⟨by omega,by omega⟩
 show wpAny _ _ (if (((sIx items.size 0 lo:Nat):Int) == 0 && (1:Int) == 1 && (sIx items.size items.size b - sIx items.size 0 lo) == items.size)=true then _ else _) _ _ s
 rw [if_neg k,uB]
 first
  | exact Y3 (m:=zO _) (UU (ZH ⟨_,rfl,ZH h⟩) a)
  | exact Y3 (m:=zO _) (UU (Y3 (ZH (ZH ⟨_,rfl,ZH h⟩))) a)
  | exact Y3 (Y3 (m:=zO _) (UU (ZH (ZH ⟨_,rfl,ZH h⟩)) a))
  | exact Y3 (Y3 (m:=zO _) (UU (ZH ⟨_,rfl,ZH h⟩) a))
end
end HT
namespace L2
open PySem PySem.Spec PyProof.Rows
abbrev TO:=St->Hp->(Option Int->Hp->Prop)->Prop
def PO (X:Cx)(e:Option Expr)(t:TO):Prop:=
 ∀(a:List (Addr×Obj)) (s:X1) (b:St) (H:Hp) (Q:Option Int->Hp->Prop),Inv X a b H s->t b H Q->
  wpAny (model X.prog X.w) X.A (evalPart e X.env) (λ u s'=>∃o c,Inv X a b c s'/\IsPart u o/\Q o c) X.xe s
def tNoPart:TO:=λ _ H Q=>Q none H
def tPart (t:TE):TO:=λ a H Q=>t a H λ x b=>∃i,x=.int i/\Q (some i) b
section
variable {X:Cx}{e:Expr}{te:TE}{lo hi:Option Expr}{tl th:TO}{pos p2:Pos}
theorem Ej:PO X none tNoPart:=by
 intro a s b H Q c h;rw [evalPart_none];exact ZH ⟨none,H,c,.none,h⟩
theorem Cy (h:PE X e te):PO X (some e) (tPart te):=by
 intro a s b H Q k c;rw [evalPart_some];refine thn (h a s b H _ k c) λ u l ⟨x,d,f,g,j⟩=>?_
 obtain ⟨i,rfl,q⟩:=j;obtain ⟨t,rfl⟩:=g;exact ⟨some i,d,f,.int i t,q⟩
def SlR (X:Cx)(r:V->Option Int->Option Int->Hp->VK->Prop):Prop:=
 ∀(a:List (Addr×Obj)) (s:X1) (b:St) (H:Hp) (x:V) (v c d:Value) (lo hi:Option Int) (f:Addr) (Q:VK),Inv X a b H s->RelV x v->s.heap.IsSliceOf f c d .none->IsPart c lo->IsPart d hi->r x lo hi H Q->
  ∃T id,typeLookup (.type T) "__getitem__"=pure (some (.builtin id))/\s.TypeIs v T/\wpAny (model X.prog X.w) X.A (wW v (.ref f)) (EP X a b Q) X.xe s
def tSl (r:V->Option Int->Option Int->Hp->VK->Prop)(te:TE)(tl th:TO):TE:=λ a H Q=>te a H λ x b=>tl a b λ l c=>th a c λ u d=>r x l u d Q
theorem Di {r:V->Option Int->Option Int->Hp->VK->Prop}(j:SlR X r)(k:PE X e te)(hl:PO X lo tl)(m:PO X hi th):PE X (.Subscript e (.Slice lo hi none p2) pos) (tSl r te tl th):=by
 intro a s d H Q L h;refine Subscript_ (thn (k a s d H _ L h) λ v n ⟨x,o,p,t,y⟩=>?_)
 refine wpAny_Slice (thn (hl a n d o _ p y) λ f z ⟨l,B,C,pl,D⟩=>thn (m a z d B _ C D) λ g c ⟨u,i,E,F,G⟩=>?_)
 rw [evalPart_none];refine ZH ?_;have I:Inv X a d i { c with heap:=c.heap.push { cls:=.type "slice",data:=.fields #[f,g,.none] } }:=E.kept (t':=c.toks) λ b ob q=>X9 _ q
 obtain ⟨T,id,J,ht,K⟩:=j a { c with heap:=c.heap.push { cls:=.type "slice",data:=.fields #[f,g,.none] } } d i x v f g l u c.heap.objs.size Q I t (Heap.IsSliceOf.new ..) pl F G
 show wpAny (model X.prog X.w) X.A (subscriptTail e (.Slice lo hi none p2) v (.ref c.heap.objs.size)) (EP X a d Q) X.xe { c with heap:=c.heap.push { cls:=.type "slice",data:=.fields #[f,g,.none] } }
 exact tail_any (ops:=[.ref c.heap.objs.size,v]) ht J K (by with_unfolding_all rfl)
def cutV (xs:List V)(lo hi:Option Int):List V:=(xs.drop (HT.sIx xs.length 0 lo)).take (HT.sIx xs.length xs.length hi - HT.sIx xs.length 0 lo)
theorem UJ (xs:List V)(lo hi:Option Int):(cutV xs lo hi).length<=xs.length:=by
 unfold cutV;rw [Uf,zx];omega
def rSlT (K:FrG):V->Option Int->Option Int->Hp->VK->Prop:=λ x lo hi H Q=>∃a xs,x=.ref a/\SqT K H a xs/\
 ¬ (HT.sIx xs.length 0 lo=0/\HT.sIx xs.length xs.length hi=xs.length)/\∀p,H p=none->Q (.ref p) (upd H p (.tup (cutV xs lo hi)))
theorem Qp:SlR X (rSlT X.K):=by
 intro f s n H x v p t lo hi u Q g i j pl k h;obtain ⟨a,xs,rfl,l,m,q⟩:=h;cases i
 obtain ⟨its,r,ht,d⟩:=g.tuple l;have c:its.toArray.size=xs.length:=by rw [YY];exact r.length.symm
 refine ⟨"tuple",_,zR.lookup,ht.typeIs,?_⟩;refine HT.oF ht j pl k (by rw [c];exact m) ?_ (by rw [c];exact d)
 rw [c];refine ⟨.ref s.heap.objs.size,_,g.laid (t':=s.toks) (o:=.tup (cutV xs lo hi)) (λ b ob q=>X9 _ q) (YE _) ?_,rfl,q _ (g.hok.fresh (YE _))⟩
 exact ⟨U2 (UJ xs lo hi) d,_,(r.drop (HT.sIx xs.length 0 lo)).take (HT.sIx xs.length xs.length hi - HT.sIx xs.length 0 lo),IsTup.new _ _⟩
end
def ixN (n:Nat)(i:Int):Option Nat:=if 0<=i then (if i < n then some i.toNat else none) else if -(n:Int)<=i then some (i+n).toNat else none
def atI {a:Type}(xs:List a)(i:Int):Option a:=(ixN xs.length i).bind λ j=>xs[j]?
theorem Us {n:Nat}{i:Int}{j:Nat}(h:ixN n i=some j):seqIndex? i n=some j/\j < n/\-(n:Int)<=i/\i < n:=by
 unfold ixN at h;by_cases b:0<=i
 ·rw [if_pos b] at h;by_cases a:i < n
  ·rw [if_pos a] at h;have e:i.toNat=j:=UN h;exact ⟨by rw [seqIndex_of b a,e],by omega,by omega,a⟩
  ·rw [if_neg a] at h;cases h
 ·rw [if_neg b] at h;by_cases a:-(n:Int)<=i
  ·rw [if_pos a] at h;have e:(i+n).toNat=j:=UN h;exact ⟨by rw [seqIndex_neg (by omega) a,e],by omega,a,by omega⟩
  ·rw [if_neg a] at h;cases h
theorem Xh {a:Type}{xs:List a}{i:Int}{v:a}(h:atI xs i=some v):∃j,seqIndex? i xs.length=some j/\xs[j]?=some v/\j < xs.length/\-(xs.length:Int)<=i/\i < xs.length:=by
 unfold atI at h;cases e:ixN xs.length i with
 | none=>rw [e] at h;cases h
 | some j=>
  rw [e] at h;obtain ⟨b,c,d,f⟩:=Us e;exact ⟨j,b,h,c,d,f⟩
theorem Bb {a:Type}{xs:List a}{j:Nat}{v:a}(h:xs[j]?=some v):atI xs (j:Int)=some v:=by
 have b:j < xs.length:=(UE.mp h).1;have e:ixN xs.length (j:Int)=some j:=by
  unfold ixN;rw [if_pos (by omega),if_pos (by omega)];simp
 unfold atI;rw [e];exact h
def PlainIx (b:Expr):Prop:=∀o i,wV b false o i=operate [o,i] (wW o i)
def IxR (X:Cx)(r:R2):Prop:=
 ∀(c a:Expr) (b:List (Addr×Obj)) (s:X1) (d:St) (H:Hp) (x e:V) (v u:Value) (Q:VK),Inv X b d H s->RelV x v->RelV e u->r x e H Q->
  wV a false v u=operate [v,u] (wW v u)->wpAny (model X.prog X.w) X.A (subscriptTail c a v u) (EP X b d Q) X.xe s
def MtR (X:Cx)(id:String)(r:V->List V->Hp->VK->Prop):Prop:=
 ∀(a:List (Addr×Obj)) (s:X1) (b:St) (H:Hp) (x:V) (xs:List V) (v:Value) (us:List Value) (Q:VK),Inv X a b H s->RelV x v->Vals xs us->r x xs H Q->
  wpAny (model X.prog X.w) X.A (call (.builtin id) (v::us)) (EP X a b Q) X.xe s
section
variable {X:Cx}{a b:Expr}{ta tb:TE}{pos:Pos}
theorem Ai {r:R2}(d:IxR X r)(ha:PE X a ta)(hb:PE X b tb)(e:PlainIx b:=by exact λ _ _=>rfl):PE X (.Subscript a b pos) (tOp r ta tb):=by
 intro c s f H Q l h;exact Subscript_ (binT ha hb l h λ v u g x m i j k ry q=>d a b c g f i x m v u Q j k ry q (e _ _))
def rIxL (K:FrG):R2:=λ x c H Q=>∃p xs i v,x=.ref p/\c=.int i/\SqL K H p xs/\atI xs i=some v/\Q v H
def rIxT (K:FrG):R2:=λ x c H Q=>∃p xs i v,x=.ref p/\c=.int i/\SqT K H p xs/\atI xs i=some v/\Q v H
theorem Ay:IxR X (rIxL X.K):=by
 intro o y c s g H x L v u Q F z ry h k;obtain ⟨p,xs,i,G,rfl,rfl,A,B,q⟩:=h;cases z
 obtain ⟨t,rfl⟩:=ry;obtain ⟨its,r,pl,I⟩:=F.list A;obtain ⟨j,d,C,J,D,E⟩:=Xh B;obtain ⟨w,l,m⟩:=r.get C;have hl:=r.length;have hn:=line63;have e:EP X c g Q w s:=⟨G,H,F,m,q⟩;by_cases n:0<=i
 ·have f:i.toNat=j:=by
   rw [seqIndex_of n E] at d;exact UN d
  exact item_listR pl.isList n (by omega) (by rw [f];simpa using l) e k
 ·have f:(i+(its.toArray.size:Int)).toNat=j:=by
   rw [seqIndex_neg (by omega) D] at d
   rw [YY,<- hl];exact UN d
  exact subscriptTail_builtinR (x:=w) pl.isList.typeIs slot_list_getitem.lookup
   (wpAny_getItem_list_neg (Q:=λ r s'=>r=w/\EP X c g Q r s') pl.isList (by omega) (by rw [YY]<;>omega) (by omega) (by rw [f];simpa using l) ⟨rfl,e⟩) k
theorem BW:IxR X (rIxT X.K):=by
 intro g k c s d H x I v u Q B l ry h m;obtain ⟨p,xs,i,C,rfl,rfl,n,o,q⟩:=h;cases l
 obtain ⟨t,rfl⟩:=ry;obtain ⟨its,r,pl,D⟩:=B.tuple n;obtain ⟨j,y,z,E,F,G⟩:=Xh o;obtain ⟨w,A,e⟩:=r.get z;have hl:=r.length;have hn:=line63;have f:EP X c d Q w s:=⟨C,H,B,e,q⟩;exact subscriptTail_builtinR (x:=w) pl.typeIs slot_tuple_getitem.lookup
  (getItem_tuple (j:=j) (Q:=λ r s'=>r=w/\EP X c d Q r s') pl (by omega) (by omega) (by rw [YY,<- hl];exact y) (by simpa using A) ⟨rfl,f⟩) m
theorem uF (its:List Value)(n j:Nat)(u:Value):jI (·.setIfInBounds j u) { cls:=.type "list",data:=.seq its.toArray n }={ cls:=.type "list",data:=.seq (its.set j u).toArray n }:=by
 simp [jI]
theorem Inv.lst {c:List (Addr×Obj)}{d:St}{H:Hp}{s:X1}{p:Addr}{xs:List V}(f:Inv X c d H s)(h:H p=some (.lst xs)):
  ∃(its:List Value) (n:Nat),Vals xs its/\s.heap.get? p=some { cls:=.type "list",data:=.seq its.toArray n }/\xs.length<=X2:=by
 obtain ⟨g,its,n,r,e⟩:=f.hok p _ h;exact ⟨its,n,r,e,g⟩
theorem Inv.lstUpd {c:List (Addr×Obj)}{i:St}{H:Hp}{s:X1}{p:Addr}{xs d:List V}{its its':List Value}{n g:Nat}{f:Obj->Obj}(l:Inv X c i H s)(h:H p=some (.lst xs))
  (j:s.heap.get? p=some { cls:=.type "list",data:=.seq its.toArray n }) (hf:f { cls:=.type "list",data:=.seq its.toArray n }={ cls:=.type "list",data:=.seq its'.toArray g }) (r:Vals d its') (k:d.length<=X2) (t:Nat) (ht:1<=t:=by first | assumption | exact Inv.tk (by assumption) | exact YU _ _ | omega):
  Inv X c i (upd H p (.lst d)) { s with heap:=s.heap.update p f,toks:=t }:=by
 have e:(s.heap.update p f).get? p=some { cls:=.type "list",data:=.seq its'.toArray g }:=by
  rw [XB f j (by rw [hf]<;>rfl),hf]
 refine l.write (x:=p) (e:=p) (by rw [h];trivial) (.inl rfl) (λ b u hb q=>(XG _ _ (WU hb)).trans q) ⟨_,e⟩ ?_
 exact ⟨k,its',g,r,e⟩
def rSetL:V->V->V->Hp->(Hp->Prop)->Prop:=λ o i v H Q=>∃p xs k j,o=.ref p/\i=.int k/\H p=some (.lst xs)/\ixN xs.length k=some j/\Q (upd H p (.lst (xs.set j v)))
theorem V1:PSet X rSetL:=by
 intro d s y H o i v F G u Q E z A B h;obtain ⟨p,xs,k,j,rfl,rfl,g,C,q⟩:=h;cases z
 obtain ⟨t,rfl⟩:=A;obtain ⟨its,n,r,e,D⟩:=E.lst g;obtain ⟨c,I,l,m⟩:=Us C;have hl:=r.length;have hn:=line63;have w:Inv X d y (upd H p (.lst (xs.set j v))) { s with heap:=s.heap.update p (jI (·.setIfInBounds j u)) }:=
  E.lstUpd g e (uF its n j u) (r.set B j) (by rw [List.length_set];exact D) s.toks
 by_cases x:0<=k
 ·have f:k.toNat=j:=by
   rw [seqIndex_of x m] at c;exact UN c
  exact PySem.W.ki_setAt e x (by omega) (by rw [YY,<- hl];exact m) (by rw [f];exact ⟨_,w,q⟩)
 ·have f:(k+(its.toArray.size:Int)).toNat=j:=by
   rw [seqIndex_neg (by omega) l] at c
   rw [YY,<- hl];exact UN c
  exact PySem.W.ki_setBack e (by omega) (by rw [YY,<- hl];exact l) (by omega) (by rw [f];exact ⟨_,w,q⟩)
theorem rN (lo c:Option Int)(n:Nat):(xh lo c none n).1=((HT.sIx n 0 lo:Nat):Int)/\(xh lo c none n).2.1=((HT.sIx n n c:Nat):Int)/\(xh lo c none n).2.2=1:=by
 refine ⟨?_,?_,rfl⟩
 ·cases lo with
  | none=>simp [xh,HT.sIx]
  | some i=>
   simp only [xh,HT.sIx,Option.getD_none,show (1:Int) > 0 by decide,if_true]
   by_cases h:i < 0
   ·simp only [h,if_true]<;>omega
   ·simp only [h,if_false]<;>omega
 ·cases c with
  | none=>simp [xh,HT.sIx]
  | some i=>
   simp only [xh,HT.sIx,Option.getD_none,show (1:Int) > 0 by decide,if_true]
   by_cases h:i < 0
   ·simp only [h,if_true]<;>omega
   ·simp only [h,if_false]<;>omega
theorem jL (its:List Value)(lo c:Option Int):slicePick its.toArray lo c none=((its.drop (HT.sIx its.length 0 lo)).take (HT.sIx its.length its.length c - HT.sIx its.length 0 lo)).toArray:=by
 obtain ⟨d,e,f⟩:=rN lo c its.toArray.size;unfold slicePick;rw [d,e,f];simp only [sliceRange_one,pick_run,YY]<;>rfl
def rSlL (K:FrG):V->Option Int->Option Int->Hp->VK->Prop:=λ x lo c H Q=>∃a xs,x=.ref a/\SqL K H a xs/\∀p,H p=none->Q (.ref p) (upd H p (.lst (cutV xs lo c)))
theorem Gv:SlR X (rSlL X.K):=by
 intro e s m H x v n p lo c t Q f g i pl j h;obtain ⟨a,xs,rfl,k,q⟩:=h;cases g
 obtain ⟨its,r,ht,l⟩:=f.list k;have d:=r.length;refine ⟨"list",_,slot_list_getitem.lookup,ht.isList.typeIs,?_⟩;refine wpAny_getItem_list_slice ht.isList i pl j .none (by simp) ?_ (by rw [YY]<;>omega)
 rw [jL,<- d];refine ⟨.ref s.heap.objs.size,_,f.laid (t':=s.toks) (o:=.lst (cutV xs lo c)) (λ b ob q=>X9 _ q) (YE _) ?_,rfl,q _ (f.hok.fresh (YE _))⟩
 exact ⟨U2 (UJ xs lo c) l,_,0,(r.drop (HT.sIx xs.length 0 lo)).take (HT.sIx xs.length xs.length c - HT.sIx xs.length 0 lo),YL _ rfl⟩
def flatV:V->Bool
 | .non=>true
 | .bl _=>true
 | .int _=>true
 | .str _=>true
 | _=>false
def eqV:V->V->Bool
 | .non,.non=>true
 | .bl a,.bl b=>a == b
 | .bl a,.int b=>(if a then 1 else 0) == b
 | .int a,.bl b=>a == (if b then 1 else 0)
 | .int a,.int b=>a == b
 | .str a,.str b=>a == b
 | _,_=>false
theorem uO {A:XE}{s:X1}{e x:V}{u v:Value}(ry:RelV e u)(c:RelV x v)(f:flatV e=true)(d:flatV x=true):UZ A s u v (eqV e x):=by
 cases e with
 | non=>
  cases ry
  cases x with
  | non=>cases c;exact UZ.same _
  | bl b=>cases c;exact UZ.none_bool b
  | int b=>obtain ⟨t,rfl⟩:=c;exact UZ.none_int b t
  | str b=>obtain ⟨t,rfl⟩:=c;exact UZ.none_str b t
  | _=>exact absurd (show false=true from d) ZE
 | bl a=>
  cases ry
  cases x with
  | non=>cases c;exact UZ.bool_none a
  | bl b=>cases c;exact UZ.bool_bool a b
  | int b=>obtain ⟨t,rfl⟩:=c;exact UZ.bool_int a b t
  | str b=>obtain ⟨t,rfl⟩:=c;exact UZ.bool_str a b t
  | _=>exact absurd (show false=true from d) ZE
 | int a=>
  obtain ⟨t',rfl⟩:=ry;cases x with
  | non=>cases c;exact UZ.int_none a t'
  | bl b=>cases c;exact UZ.int_bool a t' b
  | int b=>obtain ⟨t,rfl⟩:=c;exact UZ.int_int a t' b t
  | str b=>obtain ⟨t,rfl⟩:=c;exact Fm a t' b t
  | _=>exact absurd (show false=true from d) ZE
 | str a=>
  obtain ⟨t',rfl⟩:=ry;cases x with
  | non=>cases c;exact UZ.str_none a t'
  | bl b=>cases c;exact UZ.str_bool a t' b
  | int b=>obtain ⟨t,rfl⟩:=c;exact Fn a t' b t
  | str b=>obtain ⟨t,rfl⟩:=c;exact UZ.str_str a t' b t
  | _=>exact absurd (show false=true from d) ZE
 | _=>exact absurd (show false=true from f) ZE
def eqU (x:V)(u:Value):Bool:=match u with
 | .none=>eqV .non x
 | .bool b=>eqV (.bl b) x
 | .int i _=>eqV (.int i) x
 | .str c _=>eqV (.str c) x
 | _=>false
theorem VD {x c:V}{u:Value}(r:RelV c u)(f:flatV c=true):eqU x u=eqV c x:=by
 cases c with
 | non=>cases r;rfl
 | bl b=>cases r;rfl
 | int i=>obtain ⟨t,rfl⟩:=r;rfl
 | str d=>obtain ⟨t,rfl⟩:=r;rfl
 | _=>exact absurd (show false=true from f) ZE
theorem Q4 {x:V}:∀{xs:List V} {us:List Value},Vals xs us->xs.all flatV=true->us.any (eqU x)=xs.any λ y=>eqV y x
 | _,_,.nil,_=>rfl
 | y::xs,u::us,.cons r t,f=>by
  rw [wY,zy] at f;rw [yM,yM,VD r f.1,Q4 t f.2]
theorem S8 {A:XE}{s:X1}{x:V}{v:Value}(d:RelV x v)(e:flatV x=true):∀{xs:List V} {us:List Value},Vals xs us->xs.all flatV=true->∀u∈us,UZ A s u v (eqU x u)
 | _,_,.nil,_=>λ u c=>by cases c
 | y::xs,u::us,.cons r t,f=>λ g c=>by
  rw [wY,zy] at f;rcases ZT.mp c with rfl | c
  ·rw [VD r f.1];exact uO r d f.1 e
  ·exact S8 d e t f.2 g c
def inV (x:V)(xs:List V):Bool:=xs.any λ c=>eqV c x
def rIn (K:FrG)(neg:Bool):R2:=λ x c H Q=>∃p xs,c=.ref p/\(SqL K H p xs\/SqT K H p xs)/\flatV x=true/\xs.all flatV=true/\Q (.bl (if neg then !inV x xs else inV x xs)) H
theorem bc:OpR X (zm .In) (rIn X.K false):=by
 intro i s k H x l v u Q g e ry h;obtain ⟨p,xs,rfl,c,f,fs,q⟩:=h;cases ry
 rcases c with c | c
 ·obtain ⟨its,r,pl,j⟩:=g.list c;refine SeqAt.in_listAt (eqU x) pl.isList (λ w d=>S8 e f r fs w (by simpa using d)) ⟨.bl _,H,g,rfl,?_⟩
  rw [show its.toArray.any (eqU x)=its.any (eqU x) by simp,Q4 r fs]
  exact q
 ·obtain ⟨its,r,pl,j⟩:=g.tuple c;refine SeqAt.in_tupleAt (eqU x) pl (λ w d=>S8 e f r fs w (by simpa using d)) ⟨.bl _,H,g,rfl,?_⟩
  rw [show its.toArray.any (eqU x)=its.any (eqU x) by simp,Q4 r fs]
  exact q
theorem CV:CallR X (.builtin "len") (λ xs H Q=>∃p d,xs=[.ref p]/\(SqL X.K H p d\/SqT X.K H p d)/\Q (.int d.length) H):=by
 intro i s l H xs us Q g r h;obtain ⟨p,d,rfl,e,q⟩:=h;obtain ⟨u,rfl,j⟩:=vals1 r;cases j
 have hn:=line63;rcases e with e | e
 ·obtain ⟨its,f,pl,k⟩:=g.list e;have c:=f.length;exact Calls.call_len_list pl.isList (by simp only [YY]<;>omega) ⟨.int d.length,H,g.tok _,⟨s.toks+1,by rw [YY,c]⟩,q⟩
 ·obtain ⟨its,f,pl,k⟩:=g.tuple e;have c:=f.length;exact len_tuple pl (by simp only [YY]<;>omega) ⟨.int d.length,H,g.tok _,⟨s.toks+1,by rw [YY,c]⟩,q⟩
theorem Q0:CallR X (.builtin "len") (λ xs H Q=>∃c,xs=[.str c]/\c.length<=X2/\Q (.int c.length) H):=by
 intro d s e H xs us Q f r h;obtain ⟨c,rfl,g,q⟩:=h;obtain ⟨u,rfl,t,rfl⟩:=vals1 r;have hn:=line63;exact len_str (by omega) ⟨.int c.length,H,f.tok _,⟨_,rfl⟩,q⟩
def tyV (K:FrG)(T:String)(x:V)(H:Hp):Prop:=match x with
 | .str _=>T="str"
 | .int _=>T="int"
 | .ref p=>(T="list"/\∃xs,SqL K H p xs)\/(T="tuple"/\∃o,K.lookup p=some o/\o.cls=.type "tuple"/\o.dict=none)\/
   (T="dict"/\((∃c,H p=some (.dK c))\/∃c,H p=some (.dT c)))\/(T="set"/\∃d n,H p=some (.set d n))
 | _=>False
theorem Wb {g:List (Addr×Obj)}{k:St}{H:Hp}{s:X1}{T:String}{x:V}{v:Value}(h:Inv X g k H s)(r:RelV x v)(f:tyV X.K T x H):
  s.TypeIs v T/\∀a,v=.ref a->∃ob,s.heap.get? a=some ob/\ob.dict=none:=by
 cases x with
 | str l=>
  obtain ⟨t,rfl⟩:=r;cases (show T="str" from f)
  exact ⟨zz s l t,λ _ e=>nomatch e⟩
 | int i=>
  obtain ⟨t,rfl⟩:=r;cases (show T="int" from f)
  exact ⟨typeIs_int s i t,λ _ e=>nomatch e⟩
 | ref p=>
  cases r
  rcases f with ⟨rfl,xs,m⟩ | ⟨rfl,o,d,q,hd⟩ | ⟨rfl,d⟩ | ⟨rfl,u,n,d⟩
  ·obtain ⟨its,_,pl,_⟩:=h.list m;refine ⟨pl.isList.typeIs,λ a e=>?_⟩
   cases e
   obtain ⟨o,n,e,c,hd,_⟩:=pl;exact ⟨o,e,hd⟩
  ·refine ⟨⟨o,h.kIn p o d,q⟩,λ a e=>?_⟩
   cases e
   exact ⟨o,h.kIn _ o d,hd⟩
  ·have l:∃o,s.heap.get? p=some o/\o.ExactDict:=by
    rcases d with ⟨j,d⟩ | ⟨j,d⟩
    ·obtain ⟨_,_,_,_,o,_,_,e,ex,_⟩:=h.hok p _ d;exact ⟨o,e,ex⟩
    ·obtain ⟨_,_,_,_,o,_,_,e,ex,_⟩:=h.hok p _ d;exact ⟨o,e,ex⟩
   obtain ⟨o,e,ex⟩:=l;refine ⟨⟨o,e,ex.1⟩,λ a e2=>?_⟩
   cases e2
   exact ⟨o,e,ex.2.1⟩
  ·obtain ⟨o,_,_,_,e,ex,_⟩:=h.hok p _ d;refine ⟨⟨o,e,ex.1⟩,λ a e2=>?_⟩
   cases e2
   exact ⟨o,e,ex.2.1⟩
 | _=>exact UQ f
def tBM0 (K:FrG)(T:String)(r:V->List V->Hp->VK->Prop)(d:TE):TE:=λ e H Q=>d e H λ x c=>tyV K T x c/\r x [] c Q
def tBM (K:FrG)(T:String)(r:V->List V->Hp->VK->Prop)(e:TE)(t:TA):TE:=λ c H Q=>e c H λ x d=>tyV K T x d/\t c d λ xs f=>r x xs f Q
variable {o e:Expr}{es:List Expr}{to:TE}{t:TA}{name:Str}{apos cpos:Pos}{T id:String}{r:V->List V->Hp->VK->Prop}
theorem ur (l:PlainAttrs T)(slot:Slot T name id)(g:typeOf (.builtin id)=pure (.type "method_descriptor"))(hm:MtR X id r)(m:PE X o to)
  (d:yn o name X.env (eval o X.env)=eval o X.env:=by rfl) (f:(apos.endLine == cpos.line)=true:=by rfl):PE X (.Call (.Attribute o name apos) [] [] cpos) (tBM0 X.K T r to):=by
 intro c s i H Q z h;refine wpAny_Call_method0_late d f (thn (m c s i H _ z h) λ v n ⟨x,p,j,k,q,u⟩=>?_)
 obtain ⟨w,y⟩:=Wb j k q;exact ⟨T,id,l,slot,g,w,y,xn rfl (PySem.evalArgs_none (hm c n i p x [] v [] Q j k .nil u))⟩
theorem Br (p:PlainAttrs T)(slot:Slot T name id)(k:typeOf (.builtin id)=pure (.type "method_descriptor"))(hm:MtR X id r)(q:PE X o to)(ha:PA X (e::es) t)
  (f:yn o name X.env (eval o X.env)=eval o X.env:=by rfl)
  (i:((QK cpos (YM (e::es) X.env)).all (λ x=>!x.1) && (wG cpos (yD [] X.env)).all (λ x=>x.1.isSome)
   && decide ((e::es).length+([]:List GS).length+(if ([]:List GS).isEmpty then 0 else 1) < 30))=true:=by rfl)
  (g:(apos.endLine == cpos.line)=true:=by rfl) (u:YM (e::es) X.env=(false,eval e X.env)::YM es X.env:=by rfl) (d:(QK cpos (YM es X.env)).any (·.1)=false:=by rfl):
  PE X (.Call (.Attribute o name apos) (e::es) [] cpos) (tBM X.K T r to t):=by
 intro c s j H Q J h;refine wpAny_Call_method_late f i g rfl (thn (q c s j H _ J h) λ v w ⟨x,y,l,m,z,A⟩=>?_)
 obtain ⟨B,C⟩:=Wb l m z;refine ⟨T,id,p,slot,k,B,C,?_⟩;have n:=ha cpos c w j y _ l A;rw [u] at n ⊢;refine xn (by show (false || (QK cpos (YM es X.env)).any (·.1))=false;rw [d]<;>rfl) (yy ?_)
 exact thn n λ us D ⟨vs,E,F,G,I⟩=>hm c D j E x vs v us Q F m G I
end
def MtM (X:Cx)(id:String)(r:V->List V->Hp->VK->Prop):Prop:=
 ∀(a:List (Addr×Obj)) (s:X1) (b:St) (H:Hp) (x:V) (xs:List V) (v:Value) (us:List Value) (Q:VK),Inv X a b H s->RelV x v->Vals xs us->r x xs H Q->
  wpAny (model X.prog X.w) X.A (call (.builtin id) (v::us)) (EP X a b Q) X.xe s
theorem Vals.one:∀{x:V} {us:List Value},Vals [x] us->∃u,us=[u]/\RelV x u
 | _,_,.cons r .nil=>⟨_,rfl,r⟩
theorem Vals.rep {xs:List V}{us:List Value}(h:Vals xs us):∀k:Nat,Vals (WC k xs).flatten (WC k us).flatten
 | 0=>.nil
 | k+1=>by
  rw [zS,zS,zI,zI];exact Vals.append h (Vals.rep h k)
theorem U6 (its:List Value):∀(k:Nat) (a:List Value),
  List.foldl (λ b c=>b++c) a.toArray (WC k its.toArray)=(a++(WC k its).flatten).toArray
 | 0,a=>by simp
 | k+1,a=>by
  have e:a.toArray++its.toArray=(a++its).toArray:=by simp
  have e2:(a++its)++(WC k its).flatten=a++(WC (k+1) its).flatten:=by
   rw [zS,zI,US]
  rw [<- e2,<- U6 its k (a++its),<- e,zS,List.foldl_cons]
section
variable {X:Cx}{pins:List (Addr×Obj)}{σ:St}{H:Hp}{s:X1}{l b:Addr}{xs ys zs:List V}
theorem Inv.lset {its its':List Value}{n:Nat}{f:Array Value->Array Value}{t':Nat}(g:Inv X pins σ H s)(a:H l=some (.lst xs))
  (e:s.heap.get? l=some { cls:=.type "list",data:=.seq its.toArray n }) (hf:f its.toArray=its'.toArray) (hv:Vals ys its') (c:ys.length<=X2) (ht:1<=t':=by first | assumption | exact Inv.tk (by assumption) | exact YU _ _ | omega):
  Inv X pins σ (upd H l (.lst ys)) { s with heap:=s.heap.update l (jI f),toks:=t' }:=by
 have q:=PySem.IsL.update e f;rw [hf] at q;refine g.write (x:=l) (e:=l) (by rw [a];exact trivial) (.inl rfl) (λ h u hb d=>(XG s.heap (jI f) (WU hb)).trans d) ⟨_,q⟩ ?_
 exact ⟨c,its',_,hv,q⟩
theorem Inv.lnew {its:List Value}{t':Nat}(c:Inv X pins σ H s)(hv:Vals ys its)(a:ys.length<=X2)(ht:1<=t':=by first | assumption | exact Inv.tk (by assumption) | exact YU _ _ | omega):
  Inv X pins σ (upd H s.heap.objs.size (.lst ys)) { s with heap:=s.heap.push { cls:=.type "list",data:=.seq its.toArray },toks:=t' }:=
 c.laid (λ _ _ q=>X9 _ q) (YE _) ⟨a,its,0,hv,YL _ rfl⟩
theorem Inv.fresh (a:Inv X pins σ H s):H s.heap.objs.size=none:=a.hok.fresh (YE _)
theorem Inv.lstM (c:Inv X pins σ H s)(a:H l=some (.lst xs)):xs.length<=X2/\∃(its:List Value) (n:Nat),Vals xs its/\xs.length=its.length/\s.heap.get? l=some { cls:=.type "list",data:=.seq its.toArray n }:=by
 obtain ⟨d,its,n,r,e⟩:=c.hok l _ a;exact ⟨d,its,n,r,r.length,e⟩
theorem notLongL {n:Nat}(h:n<=X2):zP n=false:=by
 unfold zP;exact decide_eq_false (by omega)
end
section
variable {X:Cx}
def rAppend:V->List V->Hp->VK->Prop:=λ x vs H Q=>∃l xs a,x=.ref l/\vs=[a]/\H l=some (.lst xs)/\xs.length < X2/\Q .non (upd H l (.lst (xs++[a])))
theorem Ez:MtM X "list.append" rAppend:=by
 intro b s i H x vs v us Q g c d h;obtain ⟨l,xs,k,rfl,rfl,a,j,q⟩:=h;cases c
 obtain ⟨u,rfl,f⟩:=d.one;obtain ⟨m,its,n,r,hl,e⟩:=g.lstM a;refine zQ F.slot_list_append ⟨_,e,rfl⟩ F.entry_list_append (F.args_list_append_2 _ _) (PySem.list_append l its.toArray n u (by rw [YY];omega)) ⟨e,?_⟩
 refine ⟨.non,_,g.lset (its':=its++[u]) a e (by simp) (r.append (.cons f .nil)) ?_,rfl,q⟩
 rw [ZA,List.length_singleton];omega
def rExtend:V->List V->Hp->VK->Prop:=λ x vs H Q=>∃l b xs zs,x=.ref l/\vs=[.ref b]/\H l=some (.lst xs)/\H b=some (.lst zs)/\xs.length+zs.length<=X2/\Q .non (upd H l (.lst (xs++zs)))
theorem gF:MtM X "list.extend" rExtend:=by
 intro f s w H x vs v us Q g i j h;obtain ⟨l,b,xs,zs,rfl,rfl,d,k,y,q⟩:=h;cases i
 obtain ⟨u,rfl,m⟩:=j.one;cases m
 obtain ⟨A,its,n,r,hl,e⟩:=g.lstM d;obtain ⟨z,a,o,p,t,e2⟩:=g.lstM k;have hsz:its.toArray.size+a.toArray.size<=X2:=by rw [YY,YY];omega
 have c:¬ (!its.toArray.isEmpty && zP (its.toArray.size+a.toArray.size))=true:=by
  rw [notLongL hsz,Gc];exact ZE
 refine zQ F.slot_list_extend ⟨_,e,rfl⟩ F.entry_list_extend (F.args_list_extend_2 _ _)
  (AutoSeq1.list_extend_list_list_0 l its.toArray n b a.toArray o c (by rw [YY];omega) (by omega)) ⟨e,e2,?_⟩
 refine ⟨.non,_,g.lset (its':=its++a) d e (by simp) (r.append p) ?_,rfl,q⟩
 rw [ZA];omega
def rCat:R2:=λ x a H Q=>∃l b xs zs,x=.ref l/\a=.ref b/\H l=some (.lst xs)/\H b=some (.lst zs)/\xs.length+zs.length<=X2/\∀p,H p=none->Q (.ref p) (upd H p (.lst (xs++zs)))
theorem DN:OpR X (zJ .Add) rCat:=by
 intro d s o H x y v u Q c f ry h;obtain ⟨l,b,xs,zs,rfl,rfl,g,i,p,q⟩:=h;cases f
 cases ry
 obtain ⟨z,its,n,r,hl,e⟩:=c.lstM g;obtain ⟨t,a,w,j,m,e2⟩:=c.lstM i;refine PySem.P.add_list e e2 ?_ (by rw [YY,YY];omega)
 have k:its.toArray++a.toArray=(its++a).toArray:=by simp
 rw [k];exact ⟨.ref _,_,c.lnew (t':=s.toks) (r.append j) (by rw [ZA];omega),rfl,q _ c.fresh⟩
def rRep:R2:=λ x a H Q=>∃l k xs,x=.ref l/\a=.int k/\H l=some (.lst xs)/\-(2 ^ 63)<=k/\k < 2 ^ 63/\xs.length * k.toNat<=X2/\
 ∀p,H p=none->Q (.ref p) (upd H p (.lst (WC k.toNat xs).flatten))
theorem ni {a:Type}(xs:List a)(k:Nat):(WC k xs).flatten.length=k * xs.length:=by
 induction k with
 | zero=>simp
 | succ k b=>rw [zS,zI,ZA,b,jS,wc]
theorem pK:OpR X (zJ .Mult) rRep:=by
 intro p s D H x G v u Q w y ry h;obtain ⟨l,k,xs,rfl,rfl,z,A,B,o,q⟩:=h;cases y
 obtain ⟨t,rfl⟩:=ry;obtain ⟨I,its,n,r,hl,e⟩:=w.lstM z;have c:its.toArray.size * k.toNat<=X2:=by rw [YY,<- hl];exact o
 have d:¬ its.toArray.size * k.toNat > (2 ^ 63 - 1) / 8:=by
  have:(X2:Nat)<=(2 ^ 63 - 1) / 8:=by decide
  omega
 have f:¬ (!Builtin.List.listFitsIndex k)=true:=by
  rw [fitsIndex_both A B];exact ZE
 have b:¬ zP (its.toArray.size * k.toNat)=true:=by
  rw [notLongL c];exact ZE
 have g:List.foldl (λ i j=>i++j) #[] (WC (if its.toArray.isEmpty=true then 0 else k.toNat) its.toArray)=(WC k.toNat its).flatten.toArray:=by
  have C:∀m:Nat,List.foldl (λ i j=>i++j) #[] (WC m its.toArray)=(WC m its).flatten.toArray:=λ m=>by
   have:=U6 its m [];rw [xR] at this;exact this
  rw [C];cases its with
  | nil=>simp
  | cons a E=>rw [if_neg (by simp)]
 refine wpAny_binaryOp_repeat_ref (T:="list") (U:="int") (by decide) ⟨_,e,rfl⟩ (λ s'=>typeIs_int s' k t) noFill_list_mul F.fills_int_mul F.slot_int_rmul repeat_list F.slot_int_index.lookup
  (zQ F.slot_int_rmul (typeIs_int s k t) F.entry_int_rmul (F.args_int_rmul_2 _ _) (int___rmul___int_list k t l its.toArray n)
   ⟨e,rfl,⟨_,e,rfl⟩,zQ F.slot_list_mul ⟨_,e,rfl⟩ F.entry_list_mul (F.args_list_mul_2 _ _) (AutoListH.list___mul___list_int_3 l its.toArray n k t f d b) ⟨e,?_⟩⟩)
 rw [g];exact ⟨.ref _,_,w.lnew (t':=s.toks) (r.rep k.toNat) (by rw [ni,Nat.mul_comm];exact o),rfl,q _ w.fresh⟩
end
end L2
namespace Att
open PySem PySem.W PySem.Calls PyProof.Rows
theorem tX {P:ub}{h:Heap}:∀(ns:List Int) (vs:List Value),WellAll P h vs (ns.map WData.int)->IntsAre vs ns:=by
 intro ns
 induction ns with
 | nil=>
  intro vs w;rw [xo] at w;cases w
  exact .nil
 | cons n ns c=>
  intro vs w;rw [YV] at w;cases w with
  | cons a b=>
   cases a
   exact .cons _ _ (c _ b)
theorem iC {l:OpenLaw}{n:Nat}(hn:l.most=some n){P:ub}{h:Heap}{args:List WData}{b:List Value}
  (c:l.row.toRowW.claim.pre args=true) (j:WellAll P h b args):
  ∃a vs ns,b=[YI a]/\args=[WData.list (ns.map WData.int)]/\h.get? a=some { cls:=.type "list",data:=.seq vs.toArray }/\IntsAre vs ns/\ns.length<=n:=by
 have k:WShape.hasAll [] args [.list .int]=true:=(pre_splitW c).1;have m:l.pre.holds [] { args:=args }=true:=(pre_splitW c).2;obtain ⟨d,r,rfl,o,p⟩:=hasAllW_cons k;obtain rfl:=hasAllW_nil p;obtain ⟨xs,rfl,s⟩:=hasW_list o;obtain ⟨ns,rfl⟩:=items_int s;have g:ns.length<=n:=by
  unfold OpenLaw.pre at m;have e:(WTm.not (.lt (.lit (.int (n:Int))) (.len (.arg 0)))).holds [] { args:=[.list (ns.map .int)] }=true:=by
   have e:=(holds_andW m).1;rw [hn] at e;exact e
  have f:=condW_of e (w_not (w_lt w_lit (w_len_list (w_arg rfl))));rw [Y6] at f;refine Nat.le_of_not_lt λ q=>?_
  have t:(n:Int) < ((ns.length:Nat):Int):=by omega
  first
   | (rw [decide_eq_true t] at f;exact absurd f (by decide))
   | (simp at f;omega)
 cases j with
 | cons u v=>
  cases v
  cases u with
  | list w i=>exact ⟨_,_,ns,rfl,rfl,w,tX ns _ i,g⟩
theorem qm (l:OpenLaw)(args:List WData):l.row.toRowW.claim.post args (.bool true) args=true:=
 postW_of (r:=l.row.toRowW) (X:=(true == true))
  (show WShape.has [] (.bool true) .bool=true by first | rfl | decide | simp [WShape.has,WShape.arms,WShape.armsAll])
  (show (WTm.eq .res (.lit (.bool true))).value [] { args:=args,res:=some (.bool true),after:=args }=some (.bool (true == true)) from w_eq_bool (w_res rfl) w_lit) rfl
theorem pU {l:OpenLaw}{n:Nat}{q:Yg}{c:List Str}{t:(Str->Option Value)->Heap->Prop}{u:World->Heap->Prop}{d:DefRec}
  (hn:l.most=some n) (v:d.params.defaults=[])
  (call:∀(w:World) (s₀ b:X1) (mg j:Str->Option Value) (e:Addr) (o:Obj) (k h g:Value) (a:Addr) (vs:List Value) (ns:List Int),
   Ground q c [] t w s₀ mg j b.heap->u w b.heap->
   b.heap.get? e=some o->o.data=.func (docDef d.name d.params d.body d.scope k h g)->b.heap.CodeRec h d.name->mg d.name=some (.ref e)->
   b.heap.get? a=some { cls:=.type "list",data:=.seq vs.toArray }->IntsAre vs ns->ns.length<=n->b.gens=#[]->
   zK (model l.prog w) GT (.call (.ref e) ⟨[.ref a],[]⟩) (λ r s'=>r=.ok (.ret (.bool true))/\OldK b.heap s'.heap/\s'.os=b.os/\yG s'.gens) b):
  WalkO q c t u l.row.toRowW d [] (λ f vs=>PySem.call f vs):=by
 intro w s₀ b mg j M N e o k h g B kV C hd x y z D args E O m F K A L;obtain rfl:B=.none:=Dflts.none y v;obtain rfl:kV=.none:=Dflts.noKw y;obtain ⟨a,vs,ns,rfl,rfl,p,i,s⟩:=iC hn m A;refine enter_call (xw (call w s₀ b mg j e o k h g a vs ns M N C (fd_plain hd) x z p i s D) λ r s' G=>?_)
 obtain ⟨rfl,H,I,J⟩:=G;exact ⟨.inl ⟨.bool true,.bool true,[],rfl,λ _=>rfl,.bool true,qm l _,λ _=>⟨FF,λ _ hm=>(nomatch hm)⟩⟩,H,I,J⟩
end Att
namespace L2
open PySem PySem.Spec PyProof.Rows
theorem Vo:∀{vs:List Value} {ns:List Int},IntsAre vs ns->Vals (ns.map V.int) vs
 | _,_,.nil=>.nil
 | _,_,.cons n t h=>.cons ⟨t,rfl⟩ (Vo h)
def Only (H:Hp):Prop:=∀b,H b=none\/∃o xs,H b=some (.frz o (.lst xs))
theorem iK {P:Yg}{w:World}{K:FrG}{mg A:Str->Option Value}{CX:CXT}{k:Nat}{B a:Addr}{fd:JN}{x:Str}{sp:Sp}{c:X1}{vs:List Value}{ns:List Int}
  (J:K.In c.heap) (y:c.heap.Ns ZY mg) (hb:c.heap.Ns builtinsNs A) (L:∀x:Str,x≠"__name__"->A x=Jn x) (C:c.heap.NoLimit) (U:c.gens=#[])
  (ha:c.heap.get? a=some { cls:=.type "list",data:=.seq vs.toArray }) (M:IntsAre vs ns) (hl:ns.length<=X2) (W:Room k GT)
  (a7:∀base:Heap,K.In base->base.Ns ZY mg->FnOk P w K mg base CX k B fd [x] sp) (t:∀(s:X1) (u:Value),qq s fd ⟨[u],[]⟩ [(x,u)])
  (N:∀H:Hp,Only H->SqL K H a (ns.map V.int)->sp [.ref a] H (λ v _=>v=.bl true) λ _ _ _=>False)
  (O:∀H e s',CX [] H c (λ _ _ _=>False) e s'->False) (D:fd.scope.names.lookup x=some .local):
  zK (model P w) GT (.call (.ref B) ⟨[.ref a],[]⟩) (λ r s'=>r=.ok (.ret (.bool true))/\OldK c.heap s'.heap/\s'.os=c.os/\yG s'.gens) c:=by
 have Q:=Vo M;have E:=M.length;have core:∀H:Hp,Only H->SqL K H a (ns.map V.int)->HOk P w H c.heap->(∀b,H b≠none->b=a)->(H a≠none->K.lookup a=none)->
   zK (model P w) GT (.call (.ref B) ⟨[.ref a],[]⟩) (λ r s'=>r=.ok (.ret (.bool true))/\OldK c.heap s'.heap/\s'.os=c.os/\yG s'.gens) c:=by
  intro H R X hok S Y;have f:∀{b:Addr} {o:Obj},c.heap.get? b=some o->H b=none->(hidT c.heap H).get? b=some o:=λ e n=>uU e n
  have T:∀{b:Addr} {o:Obj} {j:Array xg} {l:Nat},c.heap.get? b=some o->o.data=.dict j l->H b=none:=λ {b o j l} e d=>by
   cases q:H b with
   | none=>rfl
   | some u=>
    have F:b=a:=S b (by rw [q];simp)
    subst F;rw [ha] at e;cases e;have d':Data.seq vs.toArray _=Data.dict j l:=d;cases d'
  have i:∀{b:Addr} {m:Str->Option Value},c.heap.Ns b m->(hidT c.heap H).Ns b m:=λ {b m} ⟨o,j,l,e,d,r⟩=>⟨o,j,l,f e (T e d),d,r⟩
  have z:K.In (hidT c.heap H):=λ b o e=>f (J b o e) (by
   cases q:H b with
   | none=>rfl
   | some u=>
    have F:b=a:=S b (by rw [q];simp)
    subst F;rw [Y (by rw [q];simp)] at e;cases e)
  have Z:Mod K mg (hidT c.heap H):=⟨z,i y,⟨A,i hb,L⟩,let ⟨mc,a0,a1⟩:=C;⟨mc,i a0,a1⟩⟩
  have a2:Env0 P w K mg (hidT c.heap H) GT [] c H:=⟨rfl,Z,λ b o e=>uG e,wb (cF _ _),trivial,λ b hb=>absurd (show b∈([]:List Addr) from hb) (by simp),hok,.of_eq U⟩
  refine xw ((a7 _ z (i y)).run GT [] c H ⟨[.ref a],[]⟩ [.ref a] [.ref a] _ _ W a2 (t c (.ref a)) (.cons rfl .nil) (N H R X) (.inr ⟨x,[],rfl,D⟩)) λ r s' h=>?_
  cases r with
  | error e=>exact (O H e s' h).elim
  | ok a3=>
   cases a3 with
   | next=>exact UQ h
   | brk=>exact UQ h
   | cont=>exact UQ h
   | ret u=>
    obtain ⟨v,a8,os,bare,un,G,a4,q⟩:=h;have a5:v=.bl true:=q;subst a5;obtain rfl:u=yT true:=a4;refine ⟨rfl,OldK.of_keep λ b o e=>?_,os,bare⟩
    cases q:H b with
    | none=>exact un.keep b o e q (by intro g;exact absurd (show b∈([]:List Addr) from g) (by simp)) (by simp)
    | some u=>
     rcases R b with g | ⟨ob,xs,g⟩
     ·rw [q] at g;cases g
     ·have a6:=un.frzs b ob _ g;obtain ⟨e1,_⟩:=hok b _ g;obtain ⟨e2,_⟩:=G b _ a6;rw [e] at e1;cases e1;exact e2
 cases I:K.lookup a with
 | some o=>
  have e:=J a o I;rw [ha] at e;cases e
  refine core (λ _=>none) (λ _=>.inl rfl) (.inr ⟨_,vs.toArray,_,I,rfl,rfl,rfl,by rw [YY,E];exact hl,by simpa using Q⟩) (λ b u g=>by have p:(none:Option HO)=some u:=g;cases p) (λ b g=>absurd rfl g) λ g=>absurd rfl g
 | none=>
  refine core (λ b=>if b=a then some (.frz { cls:=.type "list",data:=.seq vs.toArray } (.lst (ns.map V.int))) else none) (λ b=>?_) (.inl (.inr ⟨{ cls:=.type "list",data:=.seq vs.toArray },if_pos rfl⟩)) (λ b u g=>?_) (λ b g=>?_) λ _=>I
  ·by_cases hb:b=a
   ·exact .inr ⟨_,_,if_pos hb⟩
   ·exact .inl (if_neg hb)
  ·by_cases hb:b=a
   ·have p:=(if_pos hb).symm.trans g;cases p
    subst hb;exact ⟨ha,by rw [Y6];exact hl,vs,_,Q,ha⟩
   ·have p:=(if_neg hb).symm.trans g;cases p
  ·by_cases hb:b=a
   ·exact hb
   ·exact absurd (if_neg hb) g
abbrev KOf {K:FrG}{h:Heap}(_:K.In h):FrG:=K
theorem walk_of {l:PySem.W.OpenLaw}{n k:Nat}{q:Yg}{i:List Str}{G:(Str->Option Value)->Heap->Prop}{y:World->Heap->Prop}{d:DefRec}{K:ub->FrG}{CX:World->CXT}{sp:World->Sp}{x:Str}
  (hn:l.most=some n) (z:n<=X2) (A:d.params.defaults=[]) (I:Room k GT)
  (J:∀(w:World) (h:Heap),y w h->(K w.params).In h)
  (R:∀(w:World) (mg:Str->Option Value) (j:Addr) (h:Heap),(K w.params).In h->h.Ns ZY mg->mg d.name=some (.ref j)->
   ∃fd:JN,((∀(s:X1) (u:Value),qq s fd ⟨[u],[]⟩ [(x,u)])/\fd.scope.names.lookup x=some .local)/\
    ∀base:Heap,(K w.params).In base->base.Ns ZY mg->FnOk l.prog w (K w.params) mg base (CX w) k j fd [x] (sp w))
  (B:∀(w:World) (H:Hp) (a:Addr) (ns:List Int),ns.length<=n->Only H->SqL (K w.params) H a (ns.map V.int)->sp w [.ref a] H (λ v _=>v=.bl true) λ _ _ _=>False)
  (C:∀(w:World) (H:Hp) (s:X1) (e:Value) (s':X1),CX w [] H s (λ _ _ _=>False) e s'->False):
  PySem.W.WalkO q i G y l.row.toRowW d [] (λ f vs=>PySem.call f vs):=by
 refine Att.pU hn A λ w s₀ p mg S j o U X P a vs ns D Y Z hd Q E r m c L=>?_
 have F:=J w _ Y;obtain ⟨fd,⟨hb,t⟩,M⟩:=R w mg j _ F D.T.g E;exact iK F D.T.g D.T.b D.T.builtins D.T.nolimit L r m (U2 c z) I M hb (λ H N O=>B w H a ns c N O) (λ H e s'=>C w H p e s') t
def inClass (s:Stmt)(j:Nat):Stmt:=match s with
 | .ClassDef _ _ _ a _ _ _ _ _ _ _=>a.getD j (.Pass ⟨0,0,0,0⟩)
 | _=>.Pass ⟨0,0,0,0⟩
def defArgs (s:Stmt):Arguments:=match s with
 | .FunctionDef _ a _ _ _ _ _ _ _ _=>a
 | _=>{ posonlyargs:=[],args:=[],vararg:=none,kwonlyargs:=[],kw_defaults:=[],kwarg:=none,defaults:=[] }
def defBody (s:Stmt):List Stmt:=match s with
 | .FunctionDef _ _ b _ _ _ _ _ _ _=>b
 | _=>[]
def defScope (s:Stmt):Scope:=match s with
 | .FunctionDef _ _ _ _ _ _ a _ _ _=>a
 | _=>{ kind:=.function,names:=[],isGenerator:=false,isCoroutine:=false }
abbrev E0:XK:=λ _ _ _=>False
structure Fun (K:FrG)(x qual:Str)(st:Stmt)(f:Addr)(fd:JN):Prop where
 ex:∃(oc:Value) (od:Option Addr) (kV doc pm:Value) (an:Option Addr) (cdv ct:Value) (osl:Array (Option Value)),
  fd=YR x qual (defArgs st) (defBody st) (defScope st) .none kV doc pm an cdv ct/\K.lookup f=some ⟨oc,od,.func fd,osl⟩/\XP K cdv qual=true
 kp:YN K (.ref f)=true
section
variable {P:Yg}{w:World}{K:FrG}{mg:Str->Option Value}{base:Heap}
theorem Fun.binds {x a:Str}{st:Stmt}{f:Addr}{fd:JN}{ps:List Str}(i:Fun K x a st f fd)
  (h:∀(kV b c:Value) (d:Option Addr) (cdv ct:Value) (us:List Value),us.length=ps.length->yR (YR x a (defArgs st) (defBody st) (defScope st) .none kV b c d cdv ct) ⟨us,[]⟩=pure (ps.zip us)):Binds K fd ps []:=by
 obtain ⟨j,k,kV,b,c,d,cdv,ct,e,rfl,l,g⟩:=i.ex;exact .all (h kV b c d cdv ct)
theorem Cq {x a:Str}{st:Stmt}{f:Addr}{h:Value}{i e:Option Addr}{d:Array (Option Value)}{kV b g cdv ct:Value}(l:K.lookup f=some ⟨h,i,.func (YR x a (defArgs st) (defBody st) (defScope st) .none kV b g e cdv ct),d⟩)
  (c:XP K cdv a=true) (k:YN K (.ref f)=true):Fun K x a st f (YR x a (defArgs st) (defBody st) (defScope st) .none kV b g e cdv ct):=⟨⟨h,i,kV,b,g,e,cdv,ct,d,rfl,l,c⟩,k⟩
end
theorem small1000 {n:Nat}(h:n<=1000):n < X2:=yU h (by decide)
section
variable {X:Cx}
theorem pv (i:Nat){x:Str}{pos:Pos}(b:X.N[i]?=some x:=by rfl)(hv:Vis X.env.scope x:=by first | exact Or.inl rfl | exact Or.inr (Or.inl rfl) | exact Or.inr (Or.inr rfl))(hd:(x == ("__debug__":Str))=false:=by decide)
  (a:(x == ("__classdict__":Str))=false:=by decide):PE X (.Name x pos) (tVar i):=jf b hv hd a
end
theorem iteF {A a:Prop}(h:a):if false=true then A else a:=by
 rw [if_neg ZE];exact h
theorem iteT {A a:Prop}(h:A):if true=true then A else a:=by
 rw [if_pos rfl];exact h
theorem ite2 {c A d:Prop}[Decidable c](a:c->A)(b:¬ c->d):if c then A else d:=by
 by_cases h:c
 ·rw [if_pos h];exact a h
 ·rw [if_neg h];exact b h
theorem iteNS {c A b:Prop}[Decidable c](a:c)(h:b):if (!decide c)=true then A else b:=by
 rw [decide_eq_true a];exact iteF h
def Same (H a:Hp):Prop:=∀b o,H b=some o->a b=some o
theorem Same.refl (H:Hp):Same H H:=λ _ _ h=>h
theorem Same.trans {H d e:Hp}(a:Same H d)(b:Same d e):Same H e:=λ c o h=>b c o (a c o h)
theorem Same.free {H a:Hp}(e:Same H a){l:Addr}(h:a l=Go):H l=Go:=by
 cases q:H l with
 | none=>rfl
 | some o=>
  rw [e l o q] at h;cases h
theorem Same.seq {K:FrG}{H b:Hp}{a:Addr}{xs:List V}(e:Same H b)(h:SqL K H a xs):SqL K b a xs:=by
 rcases h with (h | ⟨o,h⟩) | h
 ·exact .inl (.inl (e _ _ h))
 ·exact .inl (.inr ⟨o,e _ _ h⟩)
 ·exact .inr h
section
variable {X:Cx}
def iz (_ j:Int):Prop:=j≠0/\j.natAbs.log2 < 9000
theorem Zx:OpR X (zJ .FloorDiv) (rI iz λ i j=>.int (i.fdiv j)):=opI λ _ _ _ _ _ _ _ a q=>floordiv_int a.1 q (.inl (PyProof.noPylong_of_log2 a.2))
theorem Tu {i:Int}{k:Nat}(h:i.natAbs < 2 ^ k):GU i<=k:=by
 unfold GU
 split
 ·exact JI _
 ·rename_i b
  have a:i.natAbs≠0:=λ e=>b (beq_iff_eq.mpr (Int.natAbs_eq_zero.mp e))
  exact (Nat.log2_lt a).mpr h
def CMulW (i j:Int):Prop:=i.natAbs < 2 ^ 10000/\j.natAbs < 2 ^ 10000
theorem CMulW.ok {i j:Int}(h:CMulW i j):IntMulOk i j:=.of_bits (U2 (Tu h.1) (by decide)) (U2 (Tu h.2) (by decide))
theorem GF:OpR X (zJ .Mult) (rI CMulW λ i j=>.int (i * j)):=opI λ _ _ _ _ _ _ _ a q=>mul_int q a.ok
end
mutual
inductive DV (K:FrG)(H:Hp):V->WH->Prop
 | non:DV K H .non .none
 | bl (b:Bool):DV K H (.bl b) (.bool b)
 | int (i:Int):DV K H (.int i) (.int i)
 | str (x:Str):DV K H (.str x) (.str x)
 | lst {a:Addr} {xs:List V} {ds:List WH}:SqL K H a xs->DVs K H xs ds->DV K H (.ref a) (.list ds)
 | tup {a:Addr} {xs:List V} {ds:List WH}:SqT K H a xs->DVs K H xs ds->DV K H (.ref a) (.tuple ds)
 | dct {a:Addr} {kvs:List (Key×V)}:H a=some (.dK kvs)->DV K H (.ref a) (.dict [])
inductive DVs (K:FrG)(H:Hp):List V->List WH->Prop
 | nil:DVs K H [] []
 | cons {v:V} {vs:List V} {d:WH} {ds:List WH}:DV K H v d->DVs K H vs ds->DVs K H (v::vs) (d::ds)
end
section
variable {X:Cx}{pins:List (Addr×Obj)}{σ:St}{H:Hp}{s:X1}
mutual
theorem DV.reads (k:Inv X pins σ H s):∀{v:V} {d:WH},DV X.K H v d->d.canLay0=true->∀{u:Value},RelV v u->∃a,Reads s.heap u d a
 | _,_,.non,_,_,r=>by cases r;exact ⟨_,.none⟩
 | _,_,.bl b,_,_,r=>by cases r;exact ⟨_,.bool b⟩
 | _,_,.int i,_,_,r=>by obtain ⟨t,rfl⟩:=r;exact ⟨_,.int i t⟩
 | _,_,.str x,_,_,r=>by obtain ⟨t,rfl⟩:=r;exact ⟨_,.str x t⟩
 | _,_,.lst h q,c,_,r=>by
  cases r
  obtain ⟨its,e,pl,_⟩:=k.list h;obtain ⟨a,f⟩:=DVs.reads k q c e;obtain ⟨o,g,j,n,hd⟩:=id pl.isList;exact ⟨_,.list g j hd f⟩
 | _,_,.tup h q,c,_,r=>by
  cases r
  obtain ⟨its,e,pl,_⟩:=k.tuple h;obtain ⟨a,f⟩:=DVs.reads k q c e;obtain ⟨o,g,j,n,hd⟩:=id pl;exact ⟨_,.tuple g j hd f⟩
 | _,_,.dct h,c,_,r=>nomatch c
theorem DVs.reads (g:Inv X pins σ H s):∀{vs:List V} {ds:List WH},DVs X.K H vs ds->WH.canLayAll0 ds=true->∀{us:List Value},Vals vs us->∃a,ReadsAll s.heap us ds a
 | _,_,.nil,_,_,r=>by cases r;exact ⟨_,.nil⟩
 | _,_,.cons h q,c,_,r=>by
  rw [WH.canLayAll0] at c;cases r with
  | cons b d=>
   obtain ⟨i,e⟩:=DV.reads g h (XY.mp c).1 b;obtain ⟨j,f⟩:=DVs.reads g q (XY.mp c).2 d;exact ⟨_,.cons e f⟩
end
end
section
variable {X:Cx}
def mR (K:FrG):R2:=λ x a H Q=>∃d e,DV K H x d/\DV K H a e/\SeqAt.shaped d=true/\SeqAt.shaped e=true/\Q (.bl (!PyData.eqv d e)) H
theorem Yy (b:X.A.units+64 < cLine):OpR X (zm .NotEq) (mR X.K):=by
 intro c s l H x o v u Q f g ry h;obtain ⟨d,e,hd,i,sd,a,q⟩:=h;obtain ⟨m,j⟩:=hd.reads f (qa sd) g;obtain ⟨n,k⟩:=i.reads f (qa a) ry;exact ne_dataH j k sd a b ⟨.bl _,H,f,rfl,q⟩
end
structure TopFn (K:FrG)(mg:Str->Option Value)(x:Str)(st:Stmt):Prop where
 ex:∃(f:Addr) (fd:JN),Fun K x x st f fd/\mg x=some (.ref f)
theorem Al {H:Hp}{p:Addr}(h:H p=none)(o:HO):Same H (upd H p o):=λ b u q=>by rw [Ax (BZ q h)];exact q
theorem Iu:Jn "int"=some (.type "int"):=by decide+kernel
theorem sZ:Jn "bool"=some (.type "bool"):=by decide+kernel
theorem SN:Jn "tuple"=some (.type "tuple"):=by decide+kernel
theorem ie:Jn "list"=some (.type "list"):=by decide+kernel
theorem Es:Jn "str"=some (.type "str"):=by decide+kernel
theorem CK:Jn "len"=some (.builtin "len"):=by decide+kernel
theorem Lz:Jn "abs"=some (.builtin "abs"):=by decide+kernel
theorem Kc:Jn "all"=some (.builtin "all"):=by decide+kernel
theorem CQ:Jn "isinstance"=some (.builtin "isinstance"):=by decide+kernel
def Be (t T:String):Option Bool:=if (yv t == yv T)=true then some true else if PySem.W.kitMeta T=true then (fastBuiltinMro t).map (·.contains (yv T)) else none
theorem iI {K:FrG}{t T:String}{b:Bool}(h:Be t T=some b):ZJ K (.type t) (.type T)=some b:=h
theorem Ar {K:FrG}{h:Heap}{mg:Str->Option Value}{x:Str}{st:Stmt}{f:Addr}{d:Value}{e g:Option Addr}{i:Array (Option Value)}{kV j m b ct:Value}(X:K.In h)(n:h.Ns ZY mg)
  (a:Yv K ZY x=some (some (.ref f))) (l:K.lookup f=some ⟨d,e,.func (YR x x (defArgs st) (defBody st) (defScope st) .none kV j m g b ct),i⟩) (c:XP K b x=true) (k:YN K (.ref f)=true):TopFn K mg x st:=
 ⟨f,_,Cq l c k,ZN X n a⟩
section
variable {X:Cx}{es:List Expr}{te:TE}{t:TA}
theorem Ag {c:Const}{j:Nat}{p:Pos}(ha:PE X (.Constant c j p) te)(a:PA X es t):PA X (.Constant c j p::es) (tCons te t):=Dc ha a (by rfl)
theorem Ad {x:Str}{p:Pos}(ha:PE X (.Name x p) te)(a:PA X es t):PA X (.Name x p::es) (tCons te t):=Dc ha a (by rfl)
theorem mH {xs:List Expr}{p:Pos}(ha:PE X (.List xs p) te)(a:PA X es t):PA X (.List xs p::es) (tCons te t):=Dc ha a (by rfl)
theorem Ik {xs:List Expr}{k:Nat}{p:Pos}(ha:PE X (.Tuple xs k p) te)(a:PA X es t):PA X (.Tuple xs k p::es) (tCons te t):=Dc ha a (by rfl)
theorem Bg {f:Expr}{a:List Expr}{b:List GS}{p:Pos}(ha:PE X (.Call f a b p) te)(c:PA X es t):PA X (.Call f a b p::es) (tCons te t):=Dc ha c (by rfl)
theorem Bw {a:Expr}{o:GI}{b:Expr}{p:Pos}(ha:PE X (.BinOp a o b p) te)(c:PA X es t):PA X (.BinOp a o b p::es) (tCons te t):=Dc ha c (by rfl)
theorem WN {a:Expr}{os:List CmpOp}{bs:List Expr}{p:Pos}(ha:PE X (.Compare a os bs p) te)(b:PA X es t):PA X (.Compare a os bs p::es) (tCons te t):=Dc ha b (by rfl)
theorem BR {a b:Expr}{p:Pos}(ha:PE X (.Subscript a b p) te)(c:PA X es t):PA X (.Subscript a b p::es) (tCons te t):=Dc ha c (by rfl)
theorem Xk {a b c:Expr}{p:Pos}(ha:PE X (.IfExp a b c p) te)(d:PA X es t):PA X (.IfExp a b c p::es) (tCons te t):=Dc ha d (by rfl)
end
theorem cA (o:Obj)(f:Array Value->Array Value):(o.mapFields f).dict=o.dict:=by
 obtain ⟨c,d,a,b⟩:=o;cases a<;>rfl
inductive Chn (base h:Heap):Value->Prop
 | none:Chn base h .none
 | ref {b:Addr} {o:Obj} {vs:Array Value} {cx:Value}:base.get? b=none->h.get? b=some o->o.data=.fields vs->vs[2]?=some cx->Chn base h cx->Chn base h (.ref b)
theorem Chn.mono {base h h':Heap}(k:∀b o vs,h.get? b=some o->o.data=.fields vs->∃f a,h'.get? b=some f/\f.data=.fields a/\a[2]?=vs[2]?){v:Value}(c:Chn base h v):Chn base h' v:=by
 induction c with
 | none=>exact .none
 | ref n e d t _ g=>
  obtain ⟨f,a,i,d',t'⟩:=k _ _ _ e d;exact .ref n i d' (t'.trans t) g
theorem Chn.mem {base h:Heap}{v:Value}(c:Chn base h v):∃f:List Addr,(∀b∈f,base.get? b=(Go:Option Obj)/\∃o vs,h.get? b=some o/\o.data=.fields vs)/\∀a:Heap,(∀b∈f,a.get? b=(Go:Option Obj))->Chn a h v:=by
 induction c with
 | none=>exact ⟨[],λ _ m=>(nomatch m),λ _ _=>.none⟩
 | @ref b o vs k n e d t _ g=>
  obtain ⟨f,i,j⟩:=g;refine ⟨b::f,λ x m=>?_,λ a m=>.ref (m _ (ZU ..)) e d t (j a λ x l=>m x (Ya _ l))⟩
  rcases ZT.mp m with rfl | m
  ·exact ⟨n,o,vs,e,d⟩
  ·exact i x m
def cR (base:Heap)(e:Addr)(c:Value)(d:Option Addr)(g:Value)(h:Heap):Prop:=
 ∃(o a:Obj) (vs b:Array Value) (T:Addr),h.get? e=some o/\o.cls=c/\o.dict=d/\o.data=.fields vs/\vs[1]?=some (.ref T)/\base.get? T=none/\T≠e/\h.get? T=some a/\a.data=.fields b/\b[3]?=some g/\∃f,vs[2]?=some f/\Chn base h f
def FlyD (base:Heap)(l:List Env)(e:Addr)(c:Value)(d:Option Addr)(a:Value)(h:Heap):Prop:=
 base.StaysIn h/\base.get? e=none/\h.FunFrames base l/\cR base e c d a h
theorem FlyD.there {base h:Heap}{l:List Env}{e:Addr}{c:Value}{d:Option Addr}{a:Value}(x:FlyD base l e c d a h):∃ob,h.get? e=some ob/\ob.cls=c/\ob.dict=d/\∃vs,ob.data=.fields vs:=by
 obtain ⟨_,_,_,o,_,vs,_,_,b,f,g,i,_⟩:=x;exact ⟨o,b,f,g,vs,i⟩
theorem FlyD.pop {base h:Heap}{env:Env}{l:List Env}{e:Addr}{c:Value}{d:Option Addr}{a:Value}(x:FlyD base (env::l) e c d a h):FlyD base l e c d a h:=⟨x.1,x.2.1,x.2.2.1.2.2,x.2.2.2⟩
section
variable {M:Model}{A:XE}{E:Value->X1->Prop}{s:X1}{base:Heap}{env:Env}{outer l:List Env}{L e:Addr}{c:Value}{d:Option Addr}
theorem Pn {o:Obj}{vs:Array Value}{B:Value}{hn:Bool}{Q:Unit->X1->Prop}(D:A.frames=some (env::outer))(hf:env.frame=some L)(st:base.StaysIn s.heap)(ne:base.get? e=none)
  (fr:s.heap.FunFrames base (env::outer)) (v:s.heap.get? e=some o) (hd:o.data=.fields vs) (F:1 < vs.size) (G:∃w,vs[2]?=some w/\Chn base s.heap w)
  (h:∀h',FlyD base (env::outer) e o.cls o.dict (zC L) h'->s.heap.UpToSlots h'->Q () { s with heap:=h' }):
  wpAny M A (frameOf env >>= λ a=>entryPlaceOf L hn >>= λ pl=>GV B a .none (zC L) .none pl >>= λ b=>setField (.ref e) 1 b) Q E s:=by
 have O:e∉(env::outer).filterMap (·.frame):=λ m=>by
  obtain ⟨_,u,k,g⟩:=fr.mem m;rw [v] at k;cases k;exact g vs hd
 refine Y3 (wpAny_frameOf_fun D fr hf λ f p=>Y3 (wpAny_entryPlaceOf λ pl H=>?_))
 have y:f.get? e=some o:=(p.2.1 e O).trans v;have I:f.objs.size≠e:=WB (ZI y);have z:base.StaysIn f:=λ b u q=>(p.2.1 b λ m=>by rw [(fr.mem m).1] at q;cases q).trans (st b u q)
 have J:∀(i:Obj) (x:Array Value),i.data=.fields x->x[3]?=some (zC L)->wpAny M A (setField (.ref e) 1 (.ref f.objs.size)) Q E { s with heap:=f.push i }:=by
  intro i x dT t3;have r:=X9 (h:=f) i y;have K:(f.push i).get? f.objs.size=some i:=YL f (UD dT);have j:∀b u,b≠e->f.get? b=some u->((f.push i).update e (Xd (·.setIfInBounds 1 (YI f.objs.size)))).get? b=some u:=λ b u n q=>by
   rw [XG _ _ (WU n)];exact X9 _ q
  have t:∀b u,s.heap.get? b=some u->(∀xs,u.data≠.fields xs)->b≠e:=λ b u q g C=>by
   subst C;rw [v] at q;cases q;exact g vs hd
  refine QU r hd F (h _ ⟨λ b u q=>j b u (λ C=>by rw [C,ne] at q;cases q) (z b u q),ne,fr.of_keeps λ b u q g=>?_,_,i,_,x,f.objs.size,
   XB _ r (UD (XV hd _)),Obj.cls_mapFields _ _,cA _ _,XV hd _,by simp [F],z.fresh,I,?_,dT,t3,?_⟩ λ b u q g=>?_)
  ·obtain ⟨N,C⟩:=p.2.2 b u q;exact ⟨_,j b _ (t b u q g) C,rfl⟩
  ·rw [XG _ _ (WU I)];exact K
  ·obtain ⟨w,c1,P⟩:=G;refine ⟨w,by rw [UM (by decide)];exact c1,P.mono λ b u us q d=>?_⟩
   by_cases hb:b=e
   ·subst hb;rw [v] at q;cases q
    rw [hd] at d;cases d
    exact ⟨_,_,XB _ r (UD (XV hd _)),XV hd _,UM (by decide)⟩
   ·have R:b∉(env::outer).filterMap (·.frame):=λ m=>by
     obtain ⟨_,S,k,g⟩:=fr.mem m;rw [q] at k;cases k;exact g us d
    exact ⟨u,us,j b u hb ((p.2.1 b R).trans q),d,rfl⟩
  ·obtain ⟨N,C⟩:=p.2.2 b u q;exact ⟨N,j b _ (t b u q g) C⟩
 unfold GV newFields;refine Y3 (UU (J _ _ rfl ?_) (H.sizeOk5 _ _ _ _ _));rcases H with rfl | ⟨_,_,_,_,_,_,_,rfl⟩<;>simp
theorem G4 {y:Value}{Q:Unit->X1->Prop}(x:FlyD base l e c d y s.heap)(h:∀h',FlyD base l e c d .none h'->s.heap.UpToSlots h'->Q () { s with heap:=h' }):
  wpAny M A (jp (.ref e) none) Q E s:=by
 obtain ⟨st,ne,fr,o,G,vs,j,T,k,z,m,hd,p,r,t,f,dT,B,v,c1,C⟩:=x;have w:3 < j.size:=(UR.mp B).1;have a:∀b,b≠T->(s.heap.update T (Xd (·.setIfInBounds 3 WR))).get? b=s.heap.get? b:=λ b n=>XG _ _ (WU n)
 have g:∀b u,s.heap.get? b=some u->(∀xs,u.data≠.fields xs)->b≠T:=λ b u q i D=>by
  subst D;rw [f] at q;cases q;exact i j dT
 have F:Chn base (s.heap.update T (Xd (·.setIfInBounds 3 WR))) v:=C.mono λ b u us q d=>by
  by_cases hb:b=T
  ·subst hb;rw [f] at q;cases q
   exact ⟨_,_,XB _ f (UD (XV d _)),XV d _,UM (by decide)⟩
  ·exact ⟨u,us,(a b hb).trans q,d,rfl⟩
 unfold jp;refine Y3 (XZ k hd p ?_);rw [if_pos (show (YI T != WR)=true by simp)]
 refine QU f dT w (h _ ⟨λ b u q=>(a b λ D=>by rw [D,r] at q;cases q).trans (st b u q),ne,fr.of_keeps λ b u q i=>⟨u,(a b (g b u q i)).trans q,rfl⟩,
  o,_,vs,_,T,(a e (WU t)).trans k,z,m,hd,p,r,t,XB _ f (UD (XV dT _)),XV dT _,by simp [w],v,c1,F⟩ λ b u q i=>⟨u.slots,(a b (g b u q i)).trans q⟩)
theorem KH {Q:Unit->X1->Prop}(k:A.frames=some (env::outer))(hf:env.frame=some L)(x:FlyD base (env::outer) e c d .none s.heap)
  (h:∀h',FlyD base (env::outer) e c d (zC L) h'->s.heap.UpToSlots h'->Q () { s with heap:=h' }):wpAny M A (yo (.ref e) env) Q E s:=by
 obtain ⟨st,ne,fr,o,H,vs,w,T,m,y,p,hd,r,z,B,i,dT,t,v,c1,C⟩:=x;subst y p;have a:∀b,b≠T->(s.heap.update T (Xd (·.setIfInBounds 3 WR))).get? b=s.heap.get? b:=λ b n=>XG _ _ (WU n)
 have j:∀b u,s.heap.get? b=some u->(∀xs,u.data≠.fields xs)->b≠T:=λ b u q g D=>by
  subst D;rw [i] at q;cases q;exact g w dT
 have F:Chn base (s.heap.update T (Xd (·.setIfInBounds 3 WR))) v:=C.mono λ b u us q d=>by
  by_cases hb:b=T
  ·subst hb;rw [i] at q;cases q
   exact ⟨_,_,XB _ i (UD (XV d _)),XV d _,UM (by decide)⟩
  ·exact ⟨u,us,(a b hb).trans q,d,rfl⟩
 unfold yo;simp only [hf];refine Y3 (XZ m hd r ?_);rw [if_pos (show (YI T != WR)=true by simp)];refine Y3 (XZ i dT t ?_)
 rw [if_neg (show ¬ ((WR == zC L)=true) by simp [zC])];refine Y3 (QU i dT (UR.mp t).1 ?_)
 refine Pn (s:={ s with heap:=s.heap.update T (Xd (·.setIfInBounds 3 WR)) }) k hf (λ b u q=>(a b λ D=>by rw [D,z] at q;cases q).trans (st b u q)) ne (fr.of_keeps λ b u q g=>⟨u,(a b (j b u q g)).trans q,rfl⟩)
  ((a e (WU B)).trans m) hd (UR.mp r).1 ⟨v,c1,F⟩ λ h' f G=>h h' f λ b u q g=>G b u ((a b (j b u q g)).trans q) g
theorem jl {o:Obj}{vs:Array Value}{Q:Unit->X1->Prop}(a:A.frames=some (env::outer))(hf:env.frame=some L)(st:base.StaysIn s.heap)(ne:base.get? e=none)
  (fr:s.heap.FunFrames base (env::outer)) (b:s.heap.get? e=some o) (hd:o.data=.fields vs) (f:vs[1]?=some .none) (g:∃i,vs[2]?=some i/\Chn base s.heap i)
  (h:∀h',FlyD base (env::outer) e o.cls o.dict (zC L) h'->s.heap.UpToSlots h'->Q () { s with heap:=h' }):wpAny M A (yo (.ref e) env) Q E s:=by
 unfold yo;simp only [hf];refine Y3 (XZ b hd f ?_);rw [if_neg (by decide)]
 exact Pn a hf st ne fr b hd (UR.mp f).1 g h
theorem YC {o:Obj}{vs:Array Value}{Q:Unit->X1->Prop}(b:A.frames=some (env::outer))(hf:env.frame=some L)(st:base.StaysIn s.heap)(ne:base.get? e=none)
  (fr:s.heap.FunFrames base (env::outer)) (i:s.heap.get? e=some o) (hd:o.data=.fields vs) (a:vs[1]?=some .none) (f:∃g,vs[2]?=some g/\Chn base s.heap g)
  (h:∀h',FlyD base outer e o.cls o.dict .none h'->s.heap.UpToSlots h'->Q () { s with heap:=h' }):wpAny M A (leaving env (.ref e)) Q E s:=
 Y3 (jl b hf st ne fr i hd a f λ a j k=>G4 (s:={ s with heap:=a }) j λ m n p=>h m n.pop (k.trans p))
theorem uK {Q:Unit->X1->Prop}(a:A.frames=some (env::outer))(hf:env.frame=some L)(x:FlyD base (env::outer) e c d .none s.heap)
  (h:∀h',FlyD base outer e c d .none h'->s.heap.UpToSlots h'->Q () { s with heap:=h' }):wpAny M A (leaving env (.ref e)) Q E s:=
 Y3 (KH a hf x λ b f g=>G4 (s:={ s with heap:=b }) f λ i j k=>h i j.pop (g.trans k))
end
def ExcAt (a C:Addr)(h:Heap):Prop:=∃o,h.get? a=some o/\o.cls=.ref C
theorem ObjOk.some_of {P:Yg}{w:World}{H:Hp}{h:Heap}{a:Addr}{o:HO}(x:ObjOk P w H h a o):∃u,h.get? a=some u:=by
 cases o with
 | lst xs=>obtain ⟨_,_,_,_,e⟩:=x;exact ⟨_,e⟩
 | tup xs=>obtain ⟨_,_,_,p⟩:=x;obtain ⟨o,e,_⟩:=p;exact ⟨_,e⟩
 | dK b=>obtain ⟨_,_,_,_,o,_,_,e,_⟩:=x;exact ⟨_,e⟩
 | dT b=>obtain ⟨_,_,_,_,o,_,_,e,_⟩:=x;exact ⟨_,e⟩
 | set i n=>obtain ⟨o,_,_,_,e,_⟩:=x;exact ⟨_,e⟩
 | ins C dx fs=>obtain ⟨_,_,_,e,_⟩:=x;exact ⟨_,e⟩
 | own c=>obtain ⟨_,e⟩:=x;exact ⟨_,e⟩
 | xd fs=>obtain ⟨_,⟨_,_,_,e,_⟩,_⟩:=x;exact ⟨_,e⟩
 | rng lo d=>obtain ⟨_,_,_,e⟩:=x;exact ⟨_,e⟩
 | frz ob u=>obtain ⟨e,_⟩:=x;exact ⟨_,e⟩
 | tbl ps=>exact ⟨_,(show h.get? a=some _ from x)⟩
 | met f c=>exact ⟨_,(show h.get? a=some _ from x)⟩
 | ext g=>obtain ⟨_,⟨_,e⟩,_⟩:=x;exact ⟨_,e⟩
theorem HOk.none_of {P:Yg}{w:World}{H:Hp}{h:Heap}{a:Addr}(x:HOk P w H h)(e:h.get? a=none):H a=none:=by
 cases q:H a with
 | none=>rfl
 | some o=>
  obtain ⟨u,b⟩:=(x a o q).some_of;rw [e] at b;cases b
def Cz (P:Yg)(w:World):CXT:=λ outer H s E e s'=>∃(a C:Addr) (d:Option Addr) (c:Hp) (f:Heap),e=.ref a/\s'.os=s.os/\yG s'.gens/\
 (∀b:Heap,f.StaysIn b->s'.heap.UpToSlots b->Un (frs outer) [] H c s.heap b/\HOk P w c b)/\FlyD f outer a (.ref C) d .none s'.heap/\c a=none/\s.heap.get? a=none/\E (.ref C) d c
structure BodyCx (X:Cx)(E:XK):Prop where
 stk:X.stack=X.env::X.outer
 fr:X.env.frame=some X.env.locals
 ex:X.ex=[]
 xe:X.xe=λ e s'=>wpAny (model X.prog X.w) X.A (leaving X.env e) (λ _ s''=>Cz X.prog X.w X.outer X.H₀ X.s₀ E e s'') (λ e' s''=>Cz X.prog X.w X.outer X.H₀ X.s₀ E e' s'') s'
section
variable {X:Cx}{pins:List (Addr×Obj)}{σ:St}{H:Hp}{s:X1}
theorem Uq {E:XK}(Bd:BodyCx X E){b:Addr}:b∈frs X.stack↔b=X.env.locals\/b∈frs X.outer:=by
 rw [Bd.stk];show b∈List.filterMap (·.frame) (X.env::X.outer)↔_
 rw [QY,Bd.fr];exact ZT
theorem Sq {E:XK}(Bd:BodyCx X E)(d:Inv X pins σ H s){p r:Heap}(k:∀b o,s.heap.get? b=some o->p.get? b=some o)(y:p.UpToSlots r)(c:Heap)
  (st:(UF s.heap (frs X.stack)).StaysIn c) (t:r.UpToSlots c):Un (frs X.outer) [] X.H₀ H X.s₀.heap c/\HOk X.prog X.w H c:=by
 have f:∀b o,s.heap.get? b=some o->b∉frs X.stack->c.get? b=some o:=λ b o e n=>st b o (yI _ e n)
 have g:∀b o,s.heap.get? b=some o->b∈frs X.stack->∃g,c.get? b=some { o with slots:=g }:=λ b o e m=>by
  obtain ⟨_,h,j,v⟩:=d.stack.mem m;rw [e] at j;cases j
  exact (y.trans t) b o (k b o e) v
 have nx:∀b:Addr,b∉X.ex:=λ b l=>by rw [Bd.ex] at l;cases l
 have x:∀b o,X.s₀.heap.get? b=some o->b≠X.env.locals:=λ b o e=>YO (W1 (ZI e) d.ok.above)
 have any:∀b o,s.heap.get? b=some o->∃h,c.get? b=some h:=λ b o e=>by
  by_cases m:b∈frs X.stack
  ·obtain ⟨l,q⟩:=g b o e m;exact ⟨_,q⟩
  ·exact ⟨_,f b o e m⟩
 refine ⟨⟨λ b o e n hb _=>?_,λ b o e n hb _=>?_,λ b o e n _=>d.base.free b o e n (nx b),λ b o e _=>?_,d.base.tups,d.base.frzs,d.base.tbls⟩,λ a o e=>?_⟩
 ·exact f b o (d.base.keep b o e n hb (nx b)) λ m=>(Uq Bd).mp m |>.elim (x b o e) hb
 ·obtain ⟨l,q⟩:=d.base.slot b o e n hb (nx b);obtain ⟨z,A⟩:=g b _ q ((Uq Bd).mpr (.inr hb));exact ⟨z,A⟩
 ·obtain ⟨h,q⟩:=d.base.there b o e (nx b);exact any b h q
 ·refine (d.hok a o e).stay (λ b u i q=>f b u q λ m=>?_) (λ _ q=>q) λ _ _ q=>q
  have l:=d.stkFree b m;rcases i with rfl | i
  ·rw [l] at e;cases e
  ·rw [l] at i;cases i
theorem Gh {c:Hp}{a:Heap}{s':X1}(f:Inv X pins σ H s)(d:s'.os=s.os)(e:yG s'.gens)(u:Un (frs X.stack) [] H c s.heap a/\HOk X.prog X.w c a)(ht:1<=s'.toks:=by first | assumption | exact Inv.tk (by assumption) | exact YU _ _ | omega):Inv X pins σ c { s' with heap:=a }:=
 f.call' (s':={ s' with heap:=a }) (ch:=[]) d u.1 u.2 e λ b g=>nomatch g
theorem TJ (d:Inv X pins σ H s)(nx:∀b:Addr,b∉X.ex){a:Addr}(e:s.heap.get? a=none):X.s₀.heap.get? a=none:=by
 cases q:X.s₀.heap.get? a with
 | none=>rfl
 | some o=>
  obtain ⟨f,c⟩:=d.base.there a o q (nx a);rw [e] at c;cases c
theorem Bp {E:XK}(Bd:BodyCx X E):Passes (Cz X.prog X.w) X E:=by
 intro pins σ H s e s' m h ht;obtain ⟨a,C,t,g,n,rfl,os,bare,i,j,o,p,q⟩:=h;rw [Bd.xe];have k:X.A.frames=some (X.env::X.outer):=by rw [<- Bd.stk];exact m.ok.frames
 have f:FlyD n (X.env::X.outer) a (.ref C) t .none s'.heap:=by rw [<- Bd.stk];exact j
 refine uK k Bd.fr f λ h' r v=>?_
 have nx:∀b:Addr,b∉X.ex:=λ b y=>by rw [Bd.ex] at y;cases y
 have x:∀c:Heap,n.StaysIn c->h'.UpToSlots c->Inv X pins σ g { s' with heap:=c }:=λ c st d=>Gh m os bare (i c st (v.trans d))
 have l:s'.os=X.s₀.os:=os.trans m.os;refine ⟨a,C,t,g,n,rfl,l,bare,λ c st d=>?_,r,o,TJ m nx p,q⟩
 have z:=x c st d;have u:=z.base;rw [Bd.ex] at u;exact ⟨u,z.hok⟩
end
theorem Uc {K:FrG}{h₀:Heap}{C:Addr}{c:List Value}{newId:String}(X:K.In h₀)(q:yl K C c newId=true):
  ∃b N nm q bs hdct sn sub ab col dd k0 k1 k2 k3 k5 e,h₀.get? C=some (excClassObj nm q C N bs b hdct sn sub ab col dd k0 k1 k2 k3 k5 newId)/\h₀.Ns N e/\e "__init__"=none/\OwnTail h₀ c b:=by
 unfold yl at q
 split at q
 ·rename_i dd i f j
  split at q
  ·rename_i p b k0 k1 k2 k3 n k5 hm g
   simp only [zy,beq_iff_eq,Bool.not_eq_true'] at q;obtain ⟨⟨⟨⟨⟨rfl,rfl⟩,a⟩,ht⟩,hok⟩,d⟩:=q;obtain ⟨nm,bs,m,ns,k,hd,sn,sub,ab,col,o⟩:=i;dsimp only at hm a hok d
   subst hm a;have h:f=#[k0,k1,k2,k3,some (.builtin n),k5]:=by
    obtain ⟨l⟩:=f;simp only at g;rw [g]
   subst h;exact ⟨b,ns,nm,k,bs,hd,sn,sub,ab,col,dd,k0,k1,k2,k3,k5,_,X _ _ j,.of_isNs (PySem.W.isNs_of_in X hok),PySem.W.nsMap_none_of_in X hok d,PySem.W.tail_of_in X ht⟩
  ·cases q
 ·cases q
structure ExcCls (K:FrG)(mg:Str->Option Value)(x:Str)(C:Addr):Prop where
 mg:mg x=some (.ref C)
 ob:yl K C [.type "ValueError",.type "Exception",.type "BaseException",.type "object"] "ValueError.__new__"=true
section
variable {X:Cx}{x:Str}{C:Addr}{e₀:Expr}{t:TA}{np cpos pos:Pos}
def rK (E:XK)(C:Addr)(t:TA):TS:=λ _ a H=>t a H λ vs b=>vs.length<=X2/\E (.ref C) none b
theorem Ei {E:XK}(Bd:BodyCx X E)(G:X.calm=true)(U:ExcCls X.K X.mg x C)(ha:PA X [e₀] t)(I:Gl X x:=by rfl)(j:(x == ("__debug__":Str))=false:=by decide)
  (d:YM [e₀] X.env=[(false,eval e₀ X.env)]:=by rfl):
  PS X (.Raise (some (.Call (.Name x np) [e₀] [] cpos)) none pos) (rK E C t):=by
 intro g s J H a0 k h;obtain ⟨L,N,nm,M,bs,hdct,sn,sub,ab,col,dd,k0,k1,k2,k3,k5,V,O,P,l,m⟩:=Uc k.ok.mod.kin U.ob;have f:L.contains (.type "BaseException")=true:=m.hasType (X:="BaseException") (by decide+kernel)
 have n:(QK cpos (YM [e₀] X.env)).any (·.1)=false:=by rw [d];rfl
 refine wpAny_Raise_call_subT (nm:=nm) (q:=M) (N:=N) (bs:=bs) (hdct:=hdct) (sn:=sn) (sub:=sub) (ab:=ab) (col:=col) (dd:=dd) (k0:=k0) (k1:=k1) (k2:=k2) (k3:=k3) (k5:=k5) F.excBase_ValueError f (k.ok.hd G) n l (EY k I U.mg ⟨rfl,?_⟩ j);have p:=ha cpos g s J H _ k h;rw [d] at p ⊢;refine yy (thn p λ us c ⟨vs,Q,a,r,hl,q⟩=>⟨rfl,by rw [<- r.length];exact hl,a.bk _ _ O,P.keeps a.bk,m.keeps a.bk,λ h' e hm=>?_⟩)
 rw [Bd.xe];have u:X.A.frames=some (X.env::X.outer):=by rw [<- Bd.stk];exact k.ok.frames
 have v:∀env∈X.stack,∀b,env.frame=some b->b∈frs X.stack:=λ env d b hb=>yd.mpr ⟨env,d,hb⟩
 have R:c.heap.FunFrames (UF c.heap (frs X.stack)) (X.env::X.outer):=by
  have i:=qc a.stack v;rw [<- Bd.stk];exact i
 obtain ⟨Y,w,_,_⟩:=hm.there;have y:(UF c.heap (frs X.stack)).get? e=none:=by
  cases S:(UF c.heap (frs X.stack)).get? e with
  | none=>rfl
  | some o=>have i:=JG _ S;rw [hm.new] at i;cases i
 refine YC (s:={ c with heap:=h' }) u Bd.fr (λ b o q=>hm.keeps b o (JG _ q)) y (R.of_keeps λ b o q _=>⟨o,hm.keeps b o q,rfl⟩) w rfl rfl ⟨_,rfl,.none⟩ λ Z z T=>?_
 refine ⟨e,C,none,Q,_,rfl,?_,a.bare,λ B st D=>Sq Bd a hm.keeps T B st D,z,a.hok.none_of hm.new,TJ a (λ b i=>by rw [Bd.ex] at i;cases i) hm.new,q⟩
 exact a.os
end
structure RoomB (c:Bool)(k:Nat)(A:XE):Prop where
 hd:c=true->A.handled=none
 dp:A.depth+3 * k+5 < GL
 un:A.units+16 * k+200 < cLine
theorem RoomB.mono {c:Bool}{j k:Nat}{A:XE}(r:RoomB c k A)(h:j<=k):RoomB c j A:=⟨r.hd,by have:=r.dp;omega,by have:=r.un;omega⟩
theorem RoomB.m {c:Bool}{j k:Nat}{A:XE}(r:RoomB c k A)(h:j<=k:=by decide):RoomB c j A:=r.mono h
theorem RoomB.deeper {c:Bool}{k:Nat}{A:XE}(r:RoomB c (k+1) A)(env:Env):RoomB c k (A.deeper env):=
 ⟨r.hd,by have:=r.dp;show A.depth+1+3 * k+5 < _;omega,by have:=r.un;show A.units+3+16 * k+200 < _;omega⟩
theorem RoomB.depth {c:Bool}{k:Nat}{A:XE}(r:RoomB c k A):A.depth < GL:=by have:=r.dp;omega
theorem RoomB.units {c:Bool}{k:Nat}{A:XE}(r:RoomB c k A):A.units+64 < cLine:=by have:=r.un;omega
theorem RoomB.mark {c:Bool}{k:Nat}{A:XE}(r:RoomB c k A)(v:Option Value):RoomB false k (A.mark v):=⟨λ a=>(nomatch a),r.dp,r.un⟩
theorem Room.b {k:Nat}{A:XE}(r:Room k A):RoomB true k A:=⟨λ _=>r.hd,r.dp,r.un⟩
structure FnB (P:Yg)(w:World)(K:FrG)(mg:Str->Option Value)(base:Heap)(c:Bool)(k:Nat)(f:Addr)(fd:JN)(ps:List Str)(sp:Sp):Prop where
 len:∀vs H Q E,sp vs H Q E->vs.length=ps.length
 run:∀(A:XE) (outer:List Env) (s:X1) (H:Hp) (args:Args) (us:List Value) (vs:List V) (Q:VK) (E:XK),RoomB c k A->Env0 P w K mg base A outer s H->qq s fd args (ps.zip us)->Vals vs us->sp vs H Q E->(1<=s.toks\/∃x r,ps=x::r/\fd.scope.names.lookup x=some .local)->
  zK (model P w) A (.call (.ref f) args) (CR (Cz P w) outer P w H s Q E) s
theorem FnB.ok {P:Yg}{w:World}{K:FrG}{mg:Str->Option Value}{base:Heap}{k:Nat}{f:Addr}{fd:JN}{ps:List Str}{sp:Sp}(c:FnB P w K mg base true k f fd ps sp):FnOk P w K mg base (Cz P w) k f fd ps sp:=
 ⟨c.len,λ A outer s H args us vs Q E a=>c.run A outer s H args us vs Q E a.b⟩
def Cd (c:Bool)(P:Yg)(w:World)(K:FrG)(mg:Str->Option Value)(base:Heap)(N:List Str)(b:Str)(a:Scope)(f:Addr)(d:Value)(A:XE)(outer:List Env)(s:X1)(H:Hp)(E:XK):Cx:=
 { cxOf (Cz P w) P w K mg base N b a f d A outer s H E with calm:=c }
theorem Ba {c:Bool}{P:Yg}{w:World}{K:FrG}{mg:Str->Option Value}{base:Heap}{N:List Str}{b:Str}{a:Scope}{f:Addr}{d:Value}{A:XE}{outer:List Env}{s:X1}{H:Hp}{E:XK}:
  BodyCx (Cd c P w K mg base N b a f d A outer s H E) E:=⟨rfl,rfl,rfl,rfl⟩
theorem WF {c:Bool}{P:Yg}{w:World}{K:FrG}{mg:Str->Option Value}{base:Heap}{N ps:List Str}{l:Str}{d:Scope}{f:Addr}{z:Value}{A:XE}{outer:List Env}{s G:X1}{H:Hp}{E:XK}{us:List Value}{vs:List V}
  (I:FnScope N ps d) (hd:c=true->A.handled=none) (j:Env0 P w K mg base A outer s H) (hl:vs.length=ps.length) (r:Vals vs us)
  (x:InCallC s s.heap.objs.size (bindL (yC l d s.heap.objs.size f z).kindOf (ps.zip us) λ _=>none) (zn (s.heap.objs.size+1) d.names []) (bindC (yC l d s.heap.objs.size f z).kindOf (ps.zip us) λ _=>none) G) (J:1<=G.toks):
  Inv (Cd c P w K mg base N l d f z A outer s H E) [] (start N vs) H G:=by
 have Q:ps.length<=N.length:=by have:=congrArg Qf I.pre;rw [Uf] at this;omega
 obtain ⟨B,tk,rfl,L⟩:=x.done;have t:∀b:Addr,b∉(Cd c P w K mg base N l d f z A outer s H E).ex:=λ b D=>absurd (show b∈([]:List Addr) from D) (by simp)
 refine ⟨⟨j.mod,I.kind,rfl,rfl,YE _,λ o D c B g=>?_,λ o m=>?_,λ o c _ h=>?_,λ D=>hd D,XE.frames_deeper j.frames,.inr ⟨rfl,rfl⟩,λ b D=>absurd D (t b),j.bs,j.bsz,λ b _ _=>t b,λ b D=>absurd D (t b),j.funs,j.frf⟩,
  rfl,j.bare,Un.kept L,⟨_,x.toInCall.ns,λ i o v B g R=>?_⟩,λ o c h=>⟨_,x.cell o c h⟩,j.hok.fresh (YE _),λ o c h=>?_,λ p y=>absurd (show p∈([]:List (Addr×Obj)) from y) (by simp),j.hok.kept L,?_,J⟩
 ·exact name_of_addr x.apart (Jy B) (Jy g)
 ·have m:d.names.lookup o=some .cell\/d.names.lookup o=some .free:=m;rcases m with m | m
  ·exact Qj m
  ·exact absurd rfl (I.nofree _ (Jy m))
 ·exact JA (x.above o c (Jy h))
 ·have C:i < vs.length:=by
   unfold start at g;by_cases C:i < vs.length
   ·exact C
   ·rw [yz (by simpa using C)] at g
    rw [List.getElem?_replicate] at g
    split at g<;>cases g
  have ha:vs[i]?=some v:=by
   unfold start at g;rw [zd (by simpa using C),YA] at g
   cases e:vs[i]? with
   | none=>rw [e] at g;cases g
   | some a=>rw [e] at g;cases g;rfl
  obtain ⟨u,M,O⟩:=r.get ha;have y:ps[i]?=some o:=by
   rw [<- I.pre,List.getElem?_take_of_lt (by omega)];exact B
  have F:ps.Nodup:=by rw [<- I.pre];exact I.nd.sublist (List.take_sublist _ _)
  refine ⟨u,O,?_⟩;rcases I.par o (Xb y) with k | k
  ·exact .inl ⟨k,VL F y M k⟩
  ·obtain ⟨c,e⟩:=Qj (n:=s.heap.objs.size+1) k;refine .inr ⟨.inl k,c,e,?_⟩;have q:=x.cell o c e;rw [Tr F y M (by show d.names.lookup o≠_;rw [k];decide)] at q
   exact q
 ·exact j.hok.fresh (JA (x.above o c (Jy h)))
 ·unfold start;show _=N.length;rw [ZA,Y6,qE];omega
theorem Gn {c:Bool}{P:Yg}{w:World}{K:FrG}{mg:Str->Option Value}{base:Heap}{k:Nat}{f:Addr}{name d:Str}{g:Arguments}{i:List Stmt}{a:Scope}{I kV z J cdv ct Y:Value}{L Z:Option Addr}
  {M:Array (Option Value)} {N ps:List Str} {sp:Sp} (a0:K.lookup f=some ⟨Y,Z,.func (YR name d g i a I kV z J L cdv ct),M⟩) (O:XP K cdv d=true) (R:FnScope N ps a)
  (len:∀vs H Q E,sp vs H Q E->vs.length=ps.length)
  (p:∀(A:XE) (outer:List Env) (s:X1) (H:Hp) (vs:List V) (Q:VK) (E:XK),RoomB c k (A.deeper (yC d a s.heap.objs.size f cdv))->sp vs H Q E->
   ∃t,PSs (Cd c P w K mg base N d a f cdv A outer s H E) i t/\t { nx:=λ _ h=>Q .non h,rt:=Q } (start N vs) H):
  FnB P w K mg base c (k+1) f (YR name d g i a I kV z J L cdv ct) ps sp:=by
 refine ⟨len,λ A outer s H args us vs Q E F m hb r B S=>?_⟩
 have hl:=len _ _ _ _ B;have T:K.In s.heap:=m.mod.kin.keeps λ b o e=>(m.bs b o e).1
 have lim:s.heap.NoLimit:=m.mod.nolimit.keeps λ b o e=>(m.bs b o e).1
 have y:∀a1∈ps.zip us,a.names.lookup a1.1=some .local\/(a.names.lookup a1.1=some .cell/\((zn (s.heap.objs.size+1) a.names []).lookup a1.1).isSome=true):=λ ⟨n,v⟩ a2=>by
  rcases R.par n (xQ a2).1 with q | q
  ·exact .inl q
  ·exact .inr ⟨q,xm _ _ _ (.inl q)⟩
 refine codeAny_call_function F.depth (T _ _ a0) rfl R.co R.gen rfl (FA T O) (hb _ _ _ _ ?_);refine Xm R.kind y (lQ hl r S) λ env a3 U x X=>?_
 subst a3;refine ⟨lim.keeps x.toInCall.keep,codeAny_func ?_⟩;obtain ⟨t,ht,a4⟩:=p A outer s H vs Q E (F.deeper _) B;have a6:Inv (Cd c P w K mg base N d a f cdv A outer s H E) [] (start N vs) H U:=WF R F.hd m hl r x X;refine XW (ht [] U (start N vs) H _ a6 a4) (λ a5 s' l=>?_) λ e s' l=>l
 have C:∀{j:St} {h:Hp} {v:V} {u:Value},Inv (Cd c P w K mg base N d a f cdv A outer s H E) [] j h s'->RelV v u->Q v h->CE outer P w H s Q u s':=
  λ {j h v u} D G q=>⟨v,h,D.os,D.bare,D.base,D.hok,G,q⟩
 cases a5 with
 | ret u=>
  obtain ⟨v,j,h,D,G,q⟩:=l;exact C D G q
 | next=>
  obtain ⟨j,h,D,q⟩:=l;exact C (v:=V.non) (u:=WR) D rfl q
 | brk=>
  obtain ⟨_,_,_,q⟩:=l;exact UQ q
 | cont=>
  obtain ⟨_,_,_,q⟩:=l;exact UQ q
structure CalB (P:Yg)(w:World)(K:FrG)(mg:Str->Option Value)(base:Heap)(c:Bool)(k:Nat)(x:Str)(ps:List Str)(sp:Sp):Prop where
 ex:∃(f:Addr) (fd:JN),FnB P w K mg base c k f fd ps sp/\mg x=some (.ref f)/\YN K (.ref f)=true/\Binds K fd ps []
theorem TopFn.calB {c:Bool}{P:Yg}{w:World}{K:FrG}{mg:Str->Option Value}{base:Heap}{x:Str}{st:Stmt}{N ps:List Str}{k:Nat}{sp:Sp}(T:TopFn K mg x st)(m:FnScope N ps (defScope st))
  (hb:∀(kV b d:Value) (e:Option Addr) (cdv ct:Value) (us:List Value),us.length=ps.length->yR (YR x x (defArgs st) (defBody st) (defScope st) .none kV b d e cdv ct) ⟨us,[]⟩=pure (ps.zip us))
  (len:∀vs H Q E,sp vs H Q E->vs.length=ps.length)
  (a:∀(f:Addr) (cdv:Value) (A:XE) (outer:List Env) (s:X1) (H:Hp) (vs:List V) (Q:VK) (E:XK),RoomB c k (A.deeper (yC x (defScope st) s.heap.objs.size f cdv))->sp vs H Q E->
   ∃t,PSs (Cd c P w K mg base N x (defScope st) f cdv A outer s H E) (defBody st) t/\t { nx:=λ _ g=>Q .non g,rt:=Q } (start N vs) H):CalB P w K mg base c (k+1) x ps sp:=by
 obtain ⟨f,fd,h,hm⟩:=T.ex;obtain ⟨n,o,kV,b,d,e,cdv,ct,j,rfl,l,i⟩:=id h.ex;exact ⟨f,_,Gn l i m len (a f cdv),hm,h.kp,h.binds hb⟩
theorem Aw {P:Yg}{w:World}{X:Cx}:Passes (Cz P w) X E0:=λ _ _ _ _ _ _ _ h=>by
 obtain ⟨_,_,_,_,_,_,_,_,_,_,_,_,q⟩:=h;exact q.elim
section
variable {X:Cx}{c:Bool}{k:Nat}{ps:List Str}{sp:Sp}{x:Str}{p pos:Pos}{e:Expr}{es:List Expr}{t:TA}{E:XK}
theorem HY {a:List (Addr×Obj)}{d:St}{H:Hp}{s:X1}{Q:VK}{us:List Value}{vs:List V}{f:Addr}{fd:JN}{g:Value->X1->Prop}(o:FnB X.prog X.w X.K X.mg X.base c k f fd ps sp)(l:RoomB c k X.A)(hb:Binds X.K fd ps [])
  (i:Inv X a d H s) (r:Vals vs us) (h:sp (vs++[]) H Q E) (m:∀e s',Cz X.prog X.w X.stack H s E e s'->1<=s'.toks->g e s'):wpAny (model X.prog X.w) X.A (call (.ref f) us) (EP X a d Q) g s:=by
 have j:Vals (vs++[]) (us++[]):=r.append .nil;have hl:(us++[]).length=ps.length:=by rw [<- j.length];exact o.len _ _ _ _ h
 refine wpAny_call (xv i.tk (xw (o.run X.A X.stack s H ⟨us,[]⟩ (us++[]) (vs++[]) Q E l i.env0 (hb s us i.kIn hl) j h (.inl i.tk)) λ r s' b ht=>?_))
 cases r with
 | error e=>exact m e s' b ht
 | ok n=>
  cases n with
  | ret u=>exact i.after b
  | next=>exact UQ b
  | brk=>exact UQ b
  | cont=>exact UQ b
theorem Ao (C:CalB X.prog X.w X.K X.mg X.base c k x ps sp)(j:RoomB c k X.A)(l:Passes (Cz X.prog X.w) X E)(ha:PA X (e::es) t)(m:Gl X x:=by rfl)(d:(x == ("__debug__":Str))=false:=by decide)
  (n:YM (e::es) X.env=(false,eval e X.env)::YM es X.env:=by rfl) (g:(QK pos (YM es X.env)).any (·.1)=false:=by rfl):
  PE X (.Call (.Name x p) (e::es) [] pos) (tCall sp [] E t):=by
 obtain ⟨f,fd,z,hm,o,hb⟩:=C.ex;intro a s i H Q u h;refine JO (EY u m hm ?_ d);refine JJ (h₀:=X.base) u.ok.mod.kin o (thn (ha pos a s i H _ u h) λ us v ⟨vs,y,b,r,q⟩=>⟨b.kIn,?_⟩) n g
 exact HY z j hb b r q λ e s' h ht=>l a i y v e s' b h ht
end
abbrev Cx.hnd (X:Cx)(a:Addr):Cx:={ X with A:=X.A.mark (some (.ref a)),calm:=false,xe:=λ _ _=>False }
section
variable {X:Cx}{pins:List (Addr×Obj)}{σ:St}{H:Hp}{s:X1}
theorem Inv.hnd (b:Inv X pins σ H s)(a:Addr):Inv (X.hnd a) pins σ H s:=
 ⟨⟨b.ok.mod,b.ok.kind,b.ok.glob,b.ok.blt,b.ok.above,b.ok.inj,b.ok.has,b.ok.cab,(λ c=>nomatch c),b.ok.frames,b.ok.stk,b.ok.exf,b.ok.bs,b.ok.bsz,b.ok.noex,b.ok.exfs,b.ok.funs,b.ok.frf⟩,b.os,b.bare,b.base,b.loc,b.cell,b.free,b.freeC,b.pin,b.hok,b.len,b.tk⟩
theorem Inv.unhnd {a:Addr}(c:X.Ok)(b:Inv (X.hnd a) pins σ H s):Inv X pins σ H s:=⟨c,b.os,b.bare,b.base,b.loc,b.cell,b.free,b.freeC,b.pin,b.hok,b.len,b.tk⟩
theorem Kg {M:Model}{A:XE}{E:Value->X1->Prop}{i:Nat}{n:Str}{pos:Pos}{Q:Unit->X1->Prop}(a:Inv X pins σ H s)(G:X.N.Nodup)(B:X.N[i]?=some n)(I:X.env.scope.names.lookup n=some .local)
  (h:∀s',Inv X pins (σ.set i none) H s'->Q () s'):wpAny M A (do bindName X.env n .none;unbindBehindTheSuite X.env n pos) Q E s:=by
 obtain ⟨m,hn,hl⟩:=id a.loc;have u:(X.env.scope.kind == .class || (X.env.scope.kind == .module && X.env.locals != X.env.globals))=false:=by rw [a.ok.kind];rfl
 have x:i < σ.length:=by rw [a.len];exact (UE.mp B).1
 have cne:=a.cne;refine wpAny_nameGoes_keeps I hn u λ h' v C g=>?_
 obtain ⟨V,_,_,U,_⟩:=id hn;have l:HOk X.prog X.w H h':=λ b ob e=>by
  refine (a.hok b ob e).stay (λ c D r q=>(g.2 c ?_).trans q) (λ _ q=>q) λ _ _ q=>q
  intro F;have f:=a.free;rw [<- F] at f;rcases r with r | r
  ·rw [r] at f;rw [f] at e;cases e
  ·rw [f] at r;cases r
 refine h _ ⟨a.ok,a.os,a.bare,⟨λ b o e n hb t=>?_,λ b o e n hb t=>?_,a.base.free,λ b o e t=>?_,a.base.tups,a.base.frzs,a.base.tbls⟩,⟨_,C,λ j z J e1 e2 K=>?_⟩,λ z c e=>?_,a.free,a.freeC,λ p L=>?_,l,by simpa using a.len,YU _ _⟩
 ·exact (g.2 b (YO (W1 (ZI e) a.ok.above))).trans (a.base.keep b o e n hb t)
 ·obtain ⟨O,e1⟩:=a.base.slot b o e n hb t;exact ⟨O,(g.2 b (YO (W1 (ZI e) a.ok.above))).trans e1⟩
 ·obtain ⟨P,e1⟩:=a.base.there b o e t;exact ⟨P,(g.2 b (YO (W1 (ZI e) a.ok.above))).trans e1⟩
 ·by_cases y:j=i
  ·subst y;rw [xk x] at e2;cases e2
  ·rw [xJ (WU y)] at e2;obtain ⟨R,S,q⟩:=hl j z J e1 e2 K;refine ⟨R,S,?_⟩;rcases q with ⟨k,e⟩ | ⟨k,c,e,F⟩
   ·refine .inl ⟨k,?_⟩;have:z≠n:=λ e=>y (Sh G e1 (e▸B))
    simp [this,e]
   ·exact .inr ⟨k,c,e,F.sameBut g (cne z c e)⟩
 ·obtain ⟨D,F⟩:=a.cell z c e;exact ⟨D,F.sameBut g (cne z c e)⟩
 ·obtain ⟨e,n,ne,T,d⟩:=a.pin p L;exact ⟨(g.2 p.1 ne).trans e,n,ne,T,d⟩
theorem PA.any {a:List Expr}{t:TA}(h:PA X.nox a t){b:Value->X1->Prop}(pos:Pos){Q:List V->Hp->Prop}(f:Inv X pins σ H s)(q:t σ H Q):
  wpAny (model X.prog X.w) X.A (spliced (QK pos (YM a X.env))) (AP X pins σ Q) b s:=
 XW (h pos pins s σ H Q (f.wish _) q) (λ us g ⟨vs,c,d,r,e⟩=>⟨vs,c,d.unwish,r,e⟩) λ _ _ i=>i.elim
end
abbrev Ends.gone (b:Ends)(i:Nat):Ends:={ nx:=λ a H=>b.nx (a.set i none) H,rt:=b.rt,bk:=λ a H=>b.bk (a.set i none) H,ct:=λ a H=>b.ct (a.set i none) H }
section
variable {prog:Yg}{w:World}{A:XE}{E:Value->X1->Prop}{s:X1}{K:FrG}{x D:Addr}
theorem ExcAt.type {M:Model}{h:Heap}(c:ExcAt x D h):yj M h (typeOf (.ref x)) (.ref D):=by
 obtain ⟨o,a,b⟩:=c;exact b▸(ul a).andThen .now
structure ExcK (K:FrG)(D:Addr):Prop where
 cl:(Fa K D).isSome=true
 ga:ZO K (.ref D) "__getattribute__"=some (some (.builtin "BaseException.__getattribute__"))
 gt:ZO K (.ref D) "__getattr__"=some none
 ha:ZO K (.ref D) "__class__"=some (some (.builtin "object.__class__"))
 hn:xl K (.builtin "object.__class__") "__get__"=some (some (.builtin "getset_descriptor.__get__"))
 ht:xP K (.builtin "object.__class__")=some true
 hm:yk K D (.type "object")=some true
 hb:yk K D (.type "BaseException")=some true
end
end L2
namespace L2
open PySem PySem.Spec PySem.Calls PyProof.Rows PySem.W Builtin Builtin.ObjectAttr Builtin.Getset_descriptor
section
variable {prog:Yg}{w:World}{A:XE}{E:Value->X1->Prop}{s:X1}{K:FrG}{x D:Addr}
theorem dM {M:Model}{h:Heap}(X:K.In h)(a:ExcK K D):Looks M h (find (.ref x) (.ref D) "__class__") (.bind (.builtin "getset_descriptor.__get__") (.builtin "object.__class__")):=by
 have b:=looks_findIn (M:=M) X a.ha;have c:Looks M h (getOf (some (.builtin "object.__class__"))) (some (.builtin "getset_descriptor.__get__")):=looks_specialIn X a.hn;have d:Looks M h (dataDescriptor? (some (.builtin "object.__class__")) (some (.builtin "getset_descriptor.__get__"))) (some (.builtin "getset_descriptor.__get__",.builtin "object.__class__")):=(looks_takesIn (M:=M) X a.ht).andThen .now;exact b.andThen (c.andThen (d.andThen (Looks.tag .now)))
theorem sJ {b:Result->X1->Prop}{a:Value}(X:K.In s.heap)(c:ExcAt x D s.heap)(d:ExcK K D)(h:b (.ok (.ret (.ref D))) s):
  zK (model prog w) A (.call (.builtin "getset_descriptor.__get__") ⟨[.builtin "object.__class__",.ref x,a],[]⟩) b s:=by
 obtain ⟨e,i,dr,t,os⟩:=s;have f:=ExcAt.type (M:=model prog w) c;have g:=looks_mroIn (M:=model prog w) X d.hm;refine codeAny_call_builtin KF.slot_gs.plain KF.entry_gs (KF.slot_gs.check _ _ _ _ _ _ _ _ KF.type_class (KF.args_gs _ _ _) ?_);unfold Xy.«getset_descriptor.__get__» descrGet;rw [dga_obj];refine Y3 (ZH ?_);unfold descrGetter descrCheckInstance descrNameAndClass isInstance;simp only [KF.owner_class]
 repeat lk
 refine ⟨wu _ (by decide+kernel),codeAny_builtin KF.entry_class ?_⟩
 unfold Xy.«object.__class__» shownTypeOf
 repeat lk
 exact h
theorem qy {M:Model}{a:Value}{Q:Unit->X1->Prop}(X:K.In s.heap)(f:ExcAt x D s.heap)(g:ExcK K D)(c:Q () s):wpAny M A (checkBuiltinCall "BaseException.__getattribute__" ⟨[.ref x,a],[]⟩) Q E s:=by
 obtain ⟨h,k,d,t,os⟩:=s;have i:=ExcAt.type (M:=M) f;have j:=looks_mroIn (M:=M) X g.hb;have e:builtinKind "BaseException.__getattribute__"=some .slot:=by decide+kernel
 have b:splitId "BaseException.__getattribute__"=some ("BaseException","__getattribute__"):=by decide+kernel
 have ha:=PySem.F.args_bexc_ga (.ref x) a;simp only [checkBuiltinCall,e,b];refine Y3 ?_;unfold isInstance
 repeat (first | lk | wp_step)
 exact c
theorem jb {Q:Fin->X1->Prop}{tk:Tok}(X:K.In s.heap)(e:ExcAt x D s.heap)(f:ExcK K D)(g:Q (.done (.ret (.ref D))) s):
  wpAny (model prog w) A (Xy.«object.__getattribute__» ⟨[.ref x,.str "__class__" tk],[]⟩) Q E s:=by
 obtain ⟨c,h,d,t,os⟩:=s;have a:=ExcAt.type (M:=model prog w) e;have b:=dM (M:=model prog w) (x:=x) X f;unfold Xy.«object.__getattribute__»
 repeat (any_goals (first | assumption | (with_reducible refine a.at ?_) | (with_reducible refine b.at ?_) | wp_step))
 refine sJ (s:=⟨c,h,d,t,os⟩) X e f ?_
 repeat (any_goals (first | assumption | (with_reducible refine a.at ?_) | (with_reducible refine b.at ?_) | wp_step))
theorem iQ {Q:Option Value->X1->Prop}(X:K.In s.heap)(e:ExcAt x D s.heap)(c:ExcK K D)(q:Q (some (.ref D)) { s with toks:=s.toks+1 }):
  wpAny (model prog w) A (getAttr? (.ref x) "__class__") Q E s:=by
 obtain ⟨a,h,d,t,os⟩:=s;have f:=ExcAt.type (M:=model prog w) e;have g:=looks_findIn (M:=model prog w) X c.ga;have i:=looks_findIn (M:=model prog w) X c.gt;have j:=wv.ga.bind (.ref x);have b:(onTheHeap (YI D) && wZ "BaseException.__getattribute__" == wZ "object.__getattribute__")=false:=by
  rw [show (wZ "BaseException.__getattribute__" == wZ "object.__getattribute__")=false by decide+kernel];rfl
 unfold getAttr? getAttrBy? getAttrBy;refine Y3 (wpAny_mkText (Y3 (ug (WO (Y3 (f.at (Y3 (g.at ?_))))))));dsimp only
 rw [b];rw [if_neg ZE];unfold getAttrByItsOwn hookBefore
 repeat (any_goals (first | assumption | wp_step | lk))
 refine codeAny_call_builtin wv.ga.plain PySem.F.entry_bexc_ga (qy (s:=⟨a,h,d,t+1,os⟩) X e c (jb (s:=⟨a,h,d,t+1,os⟩) X e c ?_))
 repeat (any_goals (first | assumption | wp_step | lk))
theorem eY (g:ExcK K D):KitX K (.ref x) (.ref D) (ExcAt x D) where
 ty:=λ _ _ _ i=>i.type
 it:=λ M h X _=>by
  obtain ⟨j,a⟩:=zN.mp g.cl;unfold clsIn at a
  split at a
  ·rename_i l d' c d b
   intro o p r s' k q;unfold isType loadHead;exact Y3 (wpAny_loadPart (k _ _ (X _ _ b)) (ZH q))
  ·cases a
 ne:=λ h m dd its n t X f=>by
  obtain ⟨j,a⟩:=zN.mp g.cl;refine wN.mpr λ q=>?_
  have e:D=m:=YI.inj (beq_iff_eq.mp q);subst e;unfold clsIn at a
  split at a
  ·rename_i l d' c d b
   have u:=(X _ _ b).symm.trans f;cases u
  ·cases a
 ca:=λ X i k=>iQ X i g k
end
end L2
namespace L2
open PySem PySem.Spec PyProof.Rows PySem.Builtin PySem.Builtin.Str
section
variable {X:Cx}
def sW:V->List V->Hp->VK->Prop:=λ x vs H Q=>∃i j,x=.str i/\vs=[.str j]/\Q (.bl (yA i j)) H
theorem Ye:MtM X "str.startswith" sW:=by
 intro a s e H x vs v us Q f b c h;obtain ⟨i,j,rfl,rfl,q⟩:=h;obtain ⟨t,rfl⟩:=b;obtain ⟨u,rfl,d⟩:=c.one;obtain ⟨t',rfl⟩:=d;exact SC.startswith ⟨.bl _,H,f,rfl,q⟩
theorem vM {s:X1}{a:Str}{Q:Value->X1->Prop}:∀(l:List (Str×Tok)),(∀p∈l,p.2≠0)->1<=s.toks->((ww a (l.map (·.1))).length<=X2/\∀(t':NZ) k,1<=k->Q (.str (ww a (l.map (·.1))) t'.1) { s with toks:=k })->(joinMade a l).post Q s
 | [],_,hn,h=>⟨h.1,h.2 ⟨_,WB hn⟩ _ (YU _ _)⟩
 | [p],nz,hn,h=>h.2 ⟨p.2,nz p ZU⟩ s.toks hn
 | _::_::_,_,hn,h=>⟨h.1,h.2 ⟨_,WB hn⟩ _ (YU _ _)⟩
theorem cz {a:List Str}{its:List Value}{n:Nat}{v:Value}{x:Str}{t:Tok}(c:Vals (a.map V.str) its)(e:its[n]?=some v)(h:v=uj x t):t≠0:=by
 have b:=Vals.length c;have hb:n < (a.map V.str).length:=by rw [b];exact (UE.mp e).1
 rw [Y6] at hb;have g:(a.map V.str)[n]?=some (.str (a[n]'hb)):=by
  rw [YA,XU hb];rfl
 obtain ⟨u,d,⟨t',f⟩⟩:=c.get g;rw [e] at d;cases d
 rw [h] at f;cases f
 exact t'.2
theorem fQ {b:Type}{M:Model}{A:XE}{s:X1}{t:Sem b}{Q:b->X1->Prop}{E:Value->X1->Prop}{n:Nat}(hn:n<=s.toks)(h:wpAny M A t (λ a s'=>n<=s'.toks->Q a s') E s):wpAny M A t Q E s:=XW (wpAny_toks_of hn h) (λ _ _ x=>x.2 x.1) (λ _ _ x=>x.2)
theorem Kv:∀(l:List (Str×Tok)),(∀p∈l,p.2≠0)->Vals ((l.map (·.1)).map V.str) (xi l)
 | [],_=>.nil
 | p::r,h=>.cons ⟨⟨p.2,h p ZU⟩,rfl⟩ (Kv r λ q a=>h q (Ya _ a))
theorem Jc:∀(xs:List Str) (n:Nat),1<=n->∀p∈numbered n xs,p.2≠0
 | [],_,_,_,a=>nomatch a
 | x::r,n,hn,p,a=>by
  rcases ZT.mp a with rfl | h
  ·exact WB hn
  ·exact Jc r (n+1) (YU _ _) p h
theorem Mi {s:X1}{c:Prop}[Decidable c]{d e:Str}{t:NZ}{Q:Value->X1->Prop}(hn:1<=s.toks)(h:(if c then d else e).length<=X2/\∀(t':NZ) (k:Nat),1<=k->Q (.str (if c then d else e) t'.1) { s with toks:=k }):
  (if c then Made.val (.str d t.1) else Made.str e).post Q s:=by
 by_cases a:c
 ·rw [if_pos a];have q:=h.2 t s.toks hn;rw [if_pos a] at q;exact q
 ·rw [if_neg a];have q:=h.2 ⟨s.toks,WB hn⟩ (s.toks+1) (YU _ _);have b:=h.1;rw [if_neg a] at q b;exact ⟨b,q⟩
def bU:V->List V->Hp->VK->Prop:=λ x vs H Q=>∃i j,x=.str i/\vs=[.str j]/\(j.length == 0)=false/\i.length+2<=X2/\∀p,H p=none->Q (.ref p) (upd H p (.lst ((Xs i j).map V.str)))
theorem Ey:MtM X "str.split" bU:=by
 intro c s m H x vs v us Q f n o h;obtain ⟨i,j,rfl,rfl,g,y,q⟩:=h;obtain ⟨t,rfl⟩:=n;obtain ⟨u,rfl,r⟩:=o.one;obtain ⟨t',rfl⟩:=r;have hn:(zL i (Xt i j 0 i.length (i.length+1)) j.length).length<=X2:=by
  have e1:=xA i j 0 i.length (i.length+1);rw [length_partsBetween];omega
 have b:∀(l:List (Str×Tok)) (tk:Nat),l.map (·.1)=Xs i j->l.length<=X2->(∀p∈l,p.2≠0)->1<=tk->EP X c m Q (.ref s.heap.objs.size) { s with heap:=s.heap.push { cls:=.type "list",data:=.seq (xi l).toArray },toks:=tk }:=λ l tk e hl k w=>by
  refine ⟨.ref s.heap.objs.size,_,?_,rfl,q _ f.fresh⟩;rw [<- e];exact f.lnew (Kv l k) (by rw [Y6,Y6];exact hl)
 cases a:(decide (i.length < j.length) || decide (strKind i < strKind j))
 ·cases hf:(Xt i j 0 i.length (i.length+1)).isEmpty
  ·refine zQ XO (zz _ _ _) xb (wx _ _) (meets_str_split_sep i j t t' a g hf (by omega) hn) ?_
   show wants _ _ _ { s with toks:=_,heap:=s.heap.push { cls:=.type "list",data:=.seq (strsFrom s.toks (zL i (Xt i j 0 i.length (i.length+1)) j.length)).toArray } }
   rw [strsFrom_eq];refine b (numbered s.toks _) _ ((xx _ _).trans ((if_neg (ne_true_of_eq_false a)).trans (if_neg (ne_true_of_eq_false hf))).symm) ?_ (Jc _ _ f.tk) (by have:=f.tk;omega)
   have:=congrArg Qf (xx s.toks (zL i (Xt i j 0 i.length (i.length+1)) j.length));rw [Y6] at this;omega
  ·exact zQ XO (zz _ _ _) xb (wx _ _) (meets_str_split_not_found i j t t' a g hf)
    (b [(i,t)] s.toks ((if_neg (ne_true_of_eq_false a)).trans (if_pos hf)).symm (by show 1<=X2;decide) (λ p d=>by rw [Zu.mp d];exact t.2) f.tk)
 ·exact zQ XO (zz _ _ _) xb (wx _ _) (meets_str_split_cannot_occur i j t t' a)
   (b [(i,t)] s.toks (if_pos a).symm (by show 1<=X2;decide) (λ p d=>by rw [Zu.mp d];exact t.2) f.tk)
def tU:V->Option Int->Option Int->Hp->VK->Prop:=λ x lo a H Q=>∃b,x=.str b/\b.length<=X2/\Q (.str (UA b lo a)) H
theorem HD:SlR X tU:=by
 intro e s r H x v C D lo g E Q m w y pl n h;obtain ⟨A,rfl,z,q⟩:=h;obtain ⟨t,rfl⟩:=w;refine ⟨"str",_,F.slot_str_getitem.lookup,zz _ _ _,?_⟩;obtain ⟨o,c,d,hd⟩:=y;have a:∀(t':NZ) k,1<=k->EP X e r Q (.str (UA A lo g) t'.1) { s with toks:=k }:=λ t' k B=>⟨.str _,H,m.tok _,⟨t',rfl⟩,q⟩
 have b:=U2 (xp A lo g) z;cases pl with
 | none=>
  cases n with
  | none=>exact yb (l:=none) (u:=none) (st:=none) ⟨o,c,d,hd⟩ rfl (Mi m.tk ⟨b,a⟩)
  | int j f=>exact yb (l:=none) (u:=some (j,f)) (st:=none) ⟨o,c,d,hd⟩ rfl (Mi m.tk ⟨b,a⟩)
 | int i p=>
  cases n with
  | none=>exact yb (l:=some (i,p)) (u:=none) (st:=none) ⟨o,c,d,hd⟩ rfl (Mi m.tk ⟨b,a⟩)
  | int j f=>exact yb (l:=some (i,p)) (u:=some (j,f)) (st:=none) ⟨o,c,d,hd⟩ rfl (Mi m.tk ⟨b,a⟩)
def PJ (X:Cx)(d:List Expr)(t:Str->St->Hp->VK->Prop):Prop:=
 ∀(b:Str) (a:List (Addr×Obj)) (s:X1) (c:St) (H:Hp) (Q:VK),Inv X a c H s->t b c H Q->wpAny (model X.prog X.w) X.A (joinParts b (evalEach d X.env)) (EP X a c Q) X.xe s
def rF (x:V)(a:Str):Prop:=(∃i:Int,x=.int i/\i.natAbs.log2 < 1920/\a=((toString i:String):Str))\/(x=.str a/\a.length<=X2)
variable {a:Expr}{ta:TE}{es:List Expr}{tr:Str->St->Hp->VK->Prop}{p pos:Pos}
theorem qw:PJ X [] (λ b _ H Q=>b.length<=X2/\Q (.str b) H):=λ b _ s d H Q c h=>joinParts_nil ⟨.str b,H,c.tok _,⟨⟨_,WB c.tk⟩,rfl⟩,h.2⟩ h.1
theorem V2 (ha:PE X a ta)(g:PJ X es tr):PJ X (.FormattedValue a (-1) none p::es) (λ d c H Q=>ta c H λ x e=>∃l,rF x l/\(d++l).length<=X2/\tr (d++l) c e Q):=by
 intro d b s c H Q o h;refine joinParts_cons (FormattedValue_plain (thn (ha b s c H _ o h) λ v r ⟨x,e,f,j,l,m,k,q⟩=>?_))
 rcases m with ⟨i,rfl,hl,rfl⟩ | ⟨rfl,hl⟩
 ·obtain ⟨t,rfl⟩:=j;exact formatField_int_small hl ⟨k,g _ b _ c e Q (f.tok _) q⟩
 ·obtain ⟨t,rfl⟩:=j;exact zq f.tk (formatField_str (λ t' tk n=>⟨k,g _ b _ c e Q (f.tok _) q⟩) hl)
theorem qd {e:Str}{k:Nat}(f:PJ X es tr):PJ X (.Constant (.str e) k p::es) (λ b c H Q=>(b++e).length<=X2/\tr (b++e) c H Q):=by
 intro b d s c H Q g h;exact joinParts_cons (wm ⟨h.1,f _ d _ c H Q (g.tok _) h.2⟩)
theorem fu {e1 e2:Expr}{t:Str->St->Hp->VK->Prop}(h:PJ X (e1::e2::es) t):PE X (.JoinedStr (e1::e2::es) pos) (t xS):=λ b s c H Q d q=>JoinedStr_many (h _ b s c H Q d q)
theorem Ua:CallR X (.type "int") (λ xs H Q=>∃x n,xs=[.str x]/\x.length<=640/\PySem.intText? x=some n/\Q (.int n) H):=by
 intro b s d H xs us Q e r h;obtain ⟨x,n,rfl,hl,hn,q⟩:=h;obtain ⟨u,rfl,c⟩:=vals1 r;obtain ⟨t,rfl⟩:=c;exact call_int_1 (PySem.W.KIN.gives_text hl hn).meets ⟨rfl,⟨.int n,H,e.tok _,⟨_,rfl⟩,q⟩⟩
theorem Ks (w:X.calm=true):CallR X (.builtin "all") (λ xs H Q=>∃(p:Addr) (bs:List Bool),xs=[.ref p]/\SqL X.K H p (bs.map V.bl)/\Q (.bl (bs.all id)) H):=by
 intro x s F H xs us Q t r h;obtain ⟨p,bs,rfl,g,q⟩:=h;obtain ⟨u,rfl,d⟩:=vals1 r;cases d
 obtain ⟨its,f,pl,y⟩:=t.list g;have c:its.toArray.size=bs.length:=by
  have:=f.length;rw [Y6] at this;rw [YY];exact this.symm
 have j:p < s.heap.objs.size:=by
  obtain ⟨o,e,_⟩:=pl.isList;exact ZI e
 have z:X.A.in1.handled=none:=t.ok.hd w;refine zq t.tk (call_all_walk (yu pl.isList ⟨s.heap.objs.size,_,_,_,_,_,λ i=>bs.getD i false,rfl,Walks.list z s.heap.objs.size p (YO j) its.toArray,⟨⟨_,YL _ rfl,rfl,rfl⟩,pl.isList.push _⟩,?_,λ h' tk k E=>?_⟩))
 ·intro i v G I J B C;have l:its[i]?=some v:=by simpa using B
  have hb:bs[i]?=some (bs.getD i false)/\RelV (.bl (bs.getD i false)) v:=by
   have m:i < bs.length:=by
    have:=(UE.mp l).1;rw [<- c,YY];exact this
   have e1:(bs.map V.bl)[i]?=some (.bl (bs.getD i false)):=by
    rw [YA,wy,XU m];rfl
   obtain ⟨u,n,d⟩:=f.get e1;rw [l] at n;cases n
   refine ⟨?_,d⟩;rw [wy,XU m];rfl
  obtain ⟨_,d⟩:=hb;cases d
  exact QR C
 ·have e:(UP its.toArray.size).all (λ i=>bs.getD i false)=bs.all id:=by
   rw [c];clear c f q k g y
   induction bs with
   | nil=>rfl
   | cons b r D=>
    rw [U1,qf,wY,FG,wY,<- D];rfl
  rw [e];exact ⟨.bl _,H,t.kept (h':=h') (t':=tk) λ b o e=>k b o (by
   intro hb;have:b=s.heap.objs.size:=by simpa using hb
   exact absurd (ZI e) (by rw [this];exact zu _)) (X9 _ e),rfl,q⟩
end
theorem Zi {c:Str}:∀{vs:List Value} {zs:List Str} {a:List Value},AreOf .str vs zs->yK (λ v r=>∃b t,v=.str b t/\r=.bool (!(Xt c b 0 c.length 1).isEmpty)) vs a->
  Vals (zs.map λ b=>V.bl (!(Xt c b 0 c.length 1).isEmpty)) a
 | _,_,_,.nil,r=>by cases r;exact .nil
 | _,_,_,.cons h d,r=>by
  cases r with
  | cons f g=>
   obtain ⟨t,rfl⟩:=h;obtain ⟨b,t',e,rfl⟩:=f;cases e
   exact .cons rfl (Zi d g)
section
variable {X:Cx}
theorem Inv.laidN {d:List (Addr×Obj)}{f:St}{H:Hp}{s:X1}{a:Addr}{o:HO}{h':Heap}{tk:Nat}(i:Inv X d f H s)(k:∀b u,s.heap.get? b=some u->h'.get? b=some u)(g:s.heap.get? a=none)
  (h:ObjOk X.prog X.w (upd H a o) h' a o) (ht:1<=tk:=by first | assumption | exact Inv.tk (by assumption) | exact YU _ _ | omega):Inv X d f (upd H a o) { s with heap:=h',toks:=tk }:=by
 have hn:H a=none:=i.hok.none_of g;refine Gh (s':={ s with heap:=h',toks:=tk }) i rfl i.bare ⟨⟨λ b u e _ _ _=>k b u e,λ b u e _ _ _=>⟨u.slots,k b u e⟩,λ b u e n _=>?_,λ b u e _=>⟨u,k b u e⟩,λ b xs e=>?_,λ b u x e=>?_,λ b ps e=>?_⟩,λ b u e=>?_⟩
 ·have:b≠a:=λ j=>by rw [j,g] at e;cases e
  rw [Ax this];exact n
 ·rw [Ax (BZ e hn)];exact e
 ·rw [Ax (BZ e hn)];exact e
 ·exact ⟨#[],by rw [Ax (BZ e hn),Array.append_empty];exact e⟩
 ·by_cases hb:b=a
  ·subst hb;rw [Aj] at e;cases e
   exact h
  ·rw [Ax hb] at e;exact (i.hok b u e).stay (λ c v _ q=>k c v q) (λ c q=>by rw [Ax (BZ q hn)];exact q) λ c xs q=>by rw [Ax (BZ q hn)];exact q
theorem R3 {x R:Str}{a7 a8 S a9 pos:Pos}{iter:Expr}{T:TE}{d:Scope}{F:Str}{b0:Tok}(b1:X.calm=true)(b2:PE X iter T)(hm:X.mg R=some (.str F b0))
  (z:∀n∈d.names,n.2≠.free) (hcell:∀n∈d.names,n.2≠.cell) (j:d.kind=.function) (y:∀n∈d.names,n.2=.local->d.names.lookup n.1=some .local)
  (U:d.names.lookup x=some .local) (b3:d.names.lookup R=some .globalImplicit) (hd:(x == ("__debug__":Str))=false) (W:(R == ("__debug__":Str))=false) (b4:∀x,UW iter X.env x=pure x:=by intro _;rfl) (Y:yP .In (.Name R S)=false:=by rfl):
  PE X (.ListComp (.Compare (.Name x a8) [.In] [.Name R S] a9) [⟨.Name x a7,iter,[],0⟩] d pos)
   (λ G H Q=>T G H λ v I=>∃n,v=.str n/\n.length<=X2/\∀p,I p=none->Q (.ref p) (upd I p (.lst ((signs n).map λ B=>V.bl (!(Xt F B 0 F.length 1).isEmpty))))):=by
 intro J s G H Q b9 h;refine fQ b9.tk (wpAny_ListComp_walk (λ _=>true) (λ v r=>∃B t,v=.str B t/\r=.bool (!(Xt F B 0 F.length 1).isEmpty)) z hcell j y U (thn (b2 J s G H _ b9 h) λ c3 g ⟨v,I,w,b5,n,e,Z,q⟩=>?_) b4)
 subst e;obtain ⟨t,rfl⟩:=b5;refine wpAny_pyIter_str λ o St c4 a0=>?_
 have a1:∀(h':Heap),(∀b l,b∉[g.heap.objs.size]->(g.heap.push o).get? b=some l->h'.get? b=some l)->∀b l,g.heap.get? b=some l->h'.get? b=some l:=
  λ h' K b l e=>K b l (old_not_new e) (X9 _ e)
 refine ⟨g.heap.objs.size,[g.heap.objs.size],[g.heap.objs.size],n.cps.size,SignAt n,St,rfl,c4 X.A (w.ok.hd b1),Z,a0,?_,⟨?_,?_⟩,?_⟩
 ·intro b hb;show b < (g.heap.push o).objs.size;rw [UC,Zu.mp hb];exact zw _
 ·intro C i v f L b6 D hn E _ _;exact ZH ⟨rfl,f.heap,f.toks,rfl,λ _ _ e=>e⟩
 ·intro C i v f L b6 D c5 hn E k _;obtain ⟨c,u,c0,rfl⟩:=D;have ns:f.heap.Ns ZY X.mg:=(w.mod.glob.keeps w.bk).keeps (a1 f.heap k);refine wpAny_Compare1 (wpAny_Name (xL j U hn E ?_) hd) Y;refine yw j b3 (uk (by show f.heap.Ns X.env.globals X.mg;rw [w.ok.glob];exact ns) hm ?_) W
  exact in_str ⟨⟨_,_,rfl,rfl⟩,f.heap,f.toks,rfl,λ _ _ e=>e⟩
 ·intro M h' tk a2 vs N c1 O P D a3 K c2;have a4:g.heap.get? M=none:=by
   cases e:g.heap.get? M with
   | none=>rfl
   | some ob=>
    have B:(g.heap.push o).get? M=some ob:=X9 _ e;have m:(g.heap.push o).get? M=none:=N;rw [B] at m;cases m
  have a5:yK (λ v r=>∃B t,v=.str B t/\r=.bool (!(Xt F B 0 F.length 1).isEmpty)) vs a2.toList:=by
   rw [List.filter_eq_self.mpr (λ _ _=>rfl)] at a3
   exact a3
  have b7:=Zi (areOf_signs P D) a5;obtain ⟨b8,a6⟩:=O;refine ⟨.ref M,_,w.laidN (a:=M) (o:=.lst _) (tk:=tk) (a1 h' K) a4 ⟨?_,a2.toList,b8,b7,?_⟩,rfl,q M (w.hok.none_of a4)⟩
  ·rw [Y6,signs_length];exact Z
  ·rw [a6]
end
end L2
namespace Tx
open PySem PySem.Builtin PySem.Builtin.Str PySem.NumText PyProof.Rows
abbrev cl (x:Y2):List Nat:=x.cps.toList
theorem ext {x a:Y2}(h:cl x=cl a):x=a:=Y2.ext' (Array.toList_inj.mp h)
theorem Bh (x a:Y2):cl (x++a)=cl x++cl a:=PySem.W.KT.app_list x a
theorem Ci (x:Y2):(cl x).length=x.length:=Jq
def dg (m:Nat):List Nat:=(qh 10 m).map Char.toNat
theorem Hd (m:Nat):zG (dg m):=by
 intro c b;obtain ⟨ch,a,e⟩:=Jb.mp b;have r:=digit_range (Nat.isDigit_of_mem_toDigits (by decide) (by decide) a)
 rw [<- e];exact r
theorem X8 (m:Nat):dg m≠[]:=by
 intro e;have h:=toDigits_len_ge 10 m;rw [List.map_eq_nil_iff.mp e] at h;exact absurd h (by decide)
theorem Ff (m:Nat):JY (dg m)=m:=PySem.W.KIN.val_back m
theorem LC (i:Int):cl (Y1 (toString i))=(if i < 0 then [45] else [])++dg i.natAbs:=by
 cases i with
 | ofNat m=>
  rw [if_neg (by show ¬ ((m:Int) < 0);omega)]
  exact PySem.W.KIN.signs_num m
 | negSucc m=>
  rw [if_pos (by omega),cl,signs_ofString]
  show (("-"++Nat.repr (m+1)).toList.map Char.toNat)=_;rw [String.toList_append,YP,Nat.toList_repr];rfl
def sh (q:Rat):List Nat:=(if q.num < 0 then [45] else [])++dg q.num.natAbs++(if q.den=1 then [] else 47::dg q.den)
def Am (q:Rat):Y2:=⟨(sh q).toArray⟩
theorem Do (q:Rat):cl (Am q)=sh q:=zT
def cut (c:Nat):List Nat->List (List Nat)
 | []=>[[]]
 | a::r=>if a=c then []::cut c r else match cut c r with
  | []=>[[a]]
  | p::ps=>(a::p)::ps
theorem KQ {c:Nat}:∀{p:List Nat},c∉p->cut c p=[p]
 | [],_=>rfl
 | a::r,h=>by
  have b:a≠c:=λ e=>h (e▸ZU ..)
  have d:c∉r:=λ e=>h (Ya _ e)
  unfold cut;rw [if_neg b,KQ d]
theorem Hi {c:Nat}(r:List Nat):∀{p:List Nat},c∉p->cut c (p++c::r)=p::cut c r
 | [],_=>by
  show cut c (c::r)=_;rw [cut,if_pos rfl]
 | a::p,h=>by
  have b:a≠c:=λ e=>h (e▸ZU ..)
  have d:c∉p:=λ e=>h (Ya _ e)
  show cut c (a::(p++c::r))=_;rw [cut,if_neg b,Hi r d]
theorem Mj {c:Nat}:∀{ps:List Y2},ps≠[]->(∀p∈ps,c∉cl p)->cut c (cl (XI ⟨#[c]⟩ ps))=ps.map cl
 | [],h,_=>absurd rfl h
 | [p],_,h=>by
  rw [join_one,KQ (h p (ZU ..))];rfl
 | p::q::r,_,h=>by
  rw [join_cons_cons,Bh,Bh];show cut c (cl p++[c]++cl (XI ⟨#[c]⟩ (q::r)))=_;rw [US];show cut c (cl p++c::cl (XI ⟨#[c]⟩ (q::r)))=_;rw [Hi _ (h p (ZU ..)),Mj (by simp) λ p a=>h p (Ya _ a)]
  rfl
theorem Dr (x:Y2)(c:Nat):(Xs x ⟨#[c]⟩).map cl=cut c (cl x):=by
 have a:=split_pos x ⟨#[c]⟩;have b:=Mj (c:=c) (ps:=Xs x ⟨#[c]⟩) (λ e=>by rw [e] at a;exact absurd a (by decide)) (StrLaws.split_free x c)
 rw [StrLaws.join_split] at b;exact b.symm
theorem Vw (x:Y2)(c:Nat):yA x ⟨#[c]⟩=decide ((cl x).head?=some c):=by
 obtain ⟨⟨l⟩⟩:=x;cases l with
 | nil=>rfl
 | cons a r=>
  show (decide (0+1<=(a::r).toArray.size) && ((a::r).toArray.extract 0 (0+1) == #[c]))=decide (some a=some c);by_cases h:a=c
  ·subst h;simp
  ·simp [h]
theorem Oz:∀r:List Nat,(UP r.length).filterMap (λ k=>r[k]?)=r
 | []=>rfl
 | a::r=>by
  rw [U1,qf,List.filterMap_cons_some (by rfl),wt]
  show a::(UP r.length).filterMap (λ k=>r[k]?)=_
  rw [Oz r]
theorem aR (x:Y2):cl (UA x (some 1) none)=(cl x).drop 1:=by
 obtain ⟨⟨l⟩⟩:=x;cases l with
 | nil=>rfl
 | cons a r=>
  have e:xV (some 1) none 1 (r.length+1)=(UP r.length).map (·+1):=by
   unfold xV sliceRange;simp only [show (1:Int) > 0 by decide,if_true]
   have b:max 0 (min (if (1:Int) < 0 then 1+((r.length+1:Nat):Int) else 1) ((r.length+1:Nat):Int))=1:=by
    rw [if_neg (by decide)]
    omega
   rw [b];have c:(if (1:Int) < ((r.length+1:Nat):Int) then (((r.length+1:Nat):Int) - 1+1 - 1) / 1 else 0).toNat=r.length:=by
    split<;>simp<;>omega
   rw [c]
   apply xY
   intro k _;omega
  have hl:(QN (a::r).toArray).length=r.length+1:=by
   show (a::r).toArray.size=_;simp
  show cl (UA (QN (a::r).toArray) (some 1) none)=r;unfold UA;rw [hl,e];rw [if_neg (by simp)]
  show ((((UP r.length).map (·+1)).filterMap (λ k=>(a::r).toArray[k]?)).toArray).toList=r
  rw [zT,wt];have:((λ k=>(a::r).toArray[k]?) ∘ λ x=>x+1)=λ k=>r[k]?:=by
   funext k
   simp
  rw [this,Oz]
theorem uz (c:Nat):(!(Xt (Y1 "0123456789") ⟨#[c]⟩ 0 (Y1 "0123456789").length 1).isEmpty)=decide (48<=c/\c<=57):=by
 rw [StrLaws.found_one,signs_ofString];show decide (c∈[48,49,50,51,52,53,54,55,56,57])=_
 apply decide_eq_decide.mpr
 simp only [ZT,WE,or_false];omega
end Tx
namespace Fr
theorem Jp (i:Int):(if i < 0 then -i else i)=(i.natAbs:Int):=by omega
theorem Wy (m n:Nat):we n (m % n)=we m n:=by
 rw [FH n (m % n),<- Nat.gcd_rec n m,FH]
def gcd (a b:Int):Int:=((we a.natAbs b.natAbs:Nat):Int)
theorem bQ (a b:Int):0<=gcd a b:=Int.natCast_nonneg _
theorem K5 {a b:Int}(h:b≠0):0 < gcd a b:=by
 unfold gcd;have:0 < we a.natAbs b.natAbs:=Nat.gcd_pos_of_pos_right _ (by omega)
 omega
theorem gr {a b:Int}(h:b≠0):gcd a b<=(b.natAbs:Int):=by
 unfold gcd;have:we a.natAbs b.natAbs<=b.natAbs:=Nat.gcd_le_right _ (by omega)
 omega
theorem T7 (a b:Int):gcd a b ∣ a:=by
 unfold gcd;exact Int.ofNat_dvd_left.mpr (Nat.gcd_dvd_left _ _)
theorem Tw (a b:Int):gcd a b ∣ b:=by
 unfold gcd;exact Int.ofNat_dvd_left.mpr (Nat.gcd_dvd_right _ _)
def sg (t b:Int):Int:=if b < 0 then 0 - gcd t b else gcd t b
def lt (t b:Int):Int:=t.fdiv (sg t b)
def lb (t b:Int):Int:=b.fdiv (sg t b)
theorem K9 {t b:Int}(h:b≠0):sg t b≠0:=by
 unfold sg;have:=K5 (a:=t) h
 split<;>omega
theorem cH {t b:Int}:(sg t b).natAbs=(gcd t b).natAbs:=by
 unfold sg
 split<;>omega
theorem kO (t b:Int):sg t b ∣ t:=by
 unfold sg
 split
 ·rw [FI];exact Int.neg_dvd.mpr (T7 t b)
 ·exact T7 t b
theorem sO (t b:Int):sg t b ∣ b:=by
 unfold sg
 split
 ·rw [FI];exact Int.neg_dvd.mpr (Tw t b)
 ·exact Tw t b
theorem Vk {a b:Int}(h:b ∣ a):a.fdiv b * b=a:=by
 rw [Int.fdiv_eq_ediv_of_dvd h];exact Int.ediv_mul_cancel h
theorem Nb (t b:Int):lt t b * sg t b=t:=Vk (kO t b)
theorem Ml (t b:Int):lb t b * sg t b=b:=Vk (sO t b)
theorem lB {t b:Int}(h:b≠0):0 < lb t b:=by
 have e:=Ml t b;have f:=K5 (a:=t) h;have c:sg t b=if b < 0 then 0 - gcd t b else gcd t b:=rfl
 rcases wO (lb t b) 0 with d | d | d
 ·exfalso;by_cases hb:b < 0
  ·rw [if_pos hb] at c;have:0 < lb t b * sg t b:=by
    rw [c];exact Int.mul_pos_of_neg_of_neg d (by omega)
   omega
  ·rw [if_neg hb] at c;have:lb t b * sg t b < 0:=by
    rw [c];exact Int.mul_neg_of_neg_of_pos d f
   omega
 ·rw [d] at e;omega
 ·exact d
theorem gq {t b:Int}(h:0 < b):(lt t b=t/\lb t b=b)↔gcd t b=1:=by
 have c:sg t b=gcd t b:=if_neg (by omega)
 have g:=K5 (a:=t) (b:=b) (by omega)
 have e:=Ml t b
 constructor
 ·rintro ⟨-,d⟩
  rw [d,c] at e;have:b * gcd t b=b * 1:=by omega
  exact wI (by omega) this
 ·intro f;unfold lt lb;rw [c,f,Int.fdiv_one,Int.fdiv_one];exact ⟨rfl,rfl⟩
theorem Tv {n k:Nat}(h:n < 2 ^ k)(a:0 < k):n.log2 < k:=by
 by_cases b:n=0
 ·subst b;simpa using a
 ·exact (Nat.log2_lt b).mpr h
theorem gY {t b:Int}(h:b≠0):(lb t b).natAbs<=b.natAbs:=by
 have e:=Ml t b;have d:=K9 (t:=t) h;have a:(lb t b).natAbs * (sg t b).natAbs=b.natAbs:=by rw [<- xq,e]
 have c:1<=(sg t b).natAbs:=by omega
 calc (lb t b).natAbs=(lb t b).natAbs * 1:=(Nat.mul_one _).symm
  _<=(lb t b).natAbs * (sg t b).natAbs:=Nat.mul_le_mul_left _ c
  _=b.natAbs:=a
end Fr
namespace Fr
theorem eU (t b:Int):((b.gcd t:Nat):Int)=gcd t b:=by
 unfold gcd Int.gcd;rw [FH]
theorem Jm {t b:Int}(h:b≠0):lt t b=(WS t b).num:=by
 have i:=K5 (a:=t) h;rw [Rat.num_divInt,eU];have e:=Nb t b;have d:gcd t b ∣ b.sign * t:=Int.dvd_mul_of_dvd_right (T7 t b);refine (Int.ediv_eq_of_eq_mul_left (by omega) ?_).symm
 have f:sg t b=b.sign * gcd t b:=by
  unfold sg;rcases wO b 0 with c | c | c
  ·rw [if_pos c,wA c];omega
  ·exact absurd c h
  ·rw [if_neg (by omega),qk c];omega
 have g:b.sign * b.sign=1:=by
  rcases wO b 0 with c | c | c
  ·rw [wA c];rfl
  ·exact absurd c h
  ·rw [qk c];rfl
 calc b.sign * t=b.sign * (lt t b * sg t b):=by rw [e]
  _=(b.sign * b.sign) * (lt t b * gcd t b):=by rw [f];grind
  _=lt t b * gcd t b:=by rw [g];omega
theorem PQ {t b:Int}(h:b≠0):lb t b=((WS t b).den:Int):=by
 have e1:=Nb t b;have e2:=Ml t b;have i:=K9 (t:=t) h;have n:=Jm (t:=t) h;have c:(WS t b).num * b=t * ((WS t b).den:Int):=by
  have j:WS (WS t b).num ((WS t b).den:Int)=WS t b:=Rat.num_divInt_den _;have e:(((WS t b).den:Nat):Int)≠0:=by
   have:=(WS t b).den_nz;omega
  exact (Rat.divInt_eq_divInt_iff e h).mp j
 by_cases a:t=0
 ·subst a;have:WS 0 b=0:=Rat.zero_divInt b;rw [this];have k:gcd 0 b=(b.natAbs:Int):=by unfold gcd;simp
  have l:=lB (t:=0) h;have d:(lb 0 b).natAbs * (sg 0 b).natAbs=b.natAbs:=by rw [<- xq,e2]
  rw [cH,k] at d;have f:0 < b.natAbs:=by omega
  have m:(lb 0 b).natAbs=1:=by
   have:(lb 0 b).natAbs * b.natAbs=1 * b.natAbs:=by simpa using d
   exact Nat.eq_of_mul_eq_mul_right f this
  show lb 0 b=1;omega
 ·rw [<- n] at c;have g:t * lb t b=t * ((WS t b).den:Int):=by
   rw [<- c]
   calc t * lb t b=(lt t b * sg t b) * lb t b:=by rw [e1]
    _=lt t b * (lb t b * sg t b):=by grind
    _=lt t b * b:=by rw [e2]
  exact wI a g
theorem den_pos (q:Rat):0 < (q.den:Int):=by
 have:=q.den_pos;omega
theorem Mg (q:Rat):WS q.num (q.den:Int)=q:=Rat.num_divInt_den q
theorem HF (q:Rat):(q.den:Int)≠0:=by have:=den_pos q;omega
theorem Xi (p q:Rat):WS (p.num * q.den+q.num * p.den) (p.den * q.den)=p+q:=by
 rw [<- Rat.divInt_add_divInt _ _ (HF p) (HF q),Mg,Mg]
theorem jX (p q:Rat):WS (p.num * q.den - q.num * p.den) (p.den * q.den)=p - q:=by
 rw [<- Rat.divInt_sub_divInt _ _ (HF p) (HF q),Mg,Mg]
theorem Z2 (p q:Rat):p.num * q.den < q.num * p.den↔p < q:=(Rat.lt_iff p q).symm
end Fr
namespace Fr
theorem rn (t b:Int)(h:b≠0):(lt t b).natAbs<=t.natAbs:=by
 have e:=Nb t b;have d:=K9 (t:=t) h;have a:(lt t b).natAbs * (sg t b).natAbs=t.natAbs:=by rw [<- xq,e]
 have c:1<=(sg t b).natAbs:=by omega
 calc (lt t b).natAbs=(lt t b).natAbs * 1:=(Nat.mul_one _).symm
  _<=(lt t b).natAbs * (sg t b).natAbs:=Nat.mul_le_mul_left _ c
  _=t.natAbs:=a
end Fr
namespace L2
open PySem PySem.Spec PyProof.Rows
theorem TopFn.calN {c:Bool}{P:Yg}{w:World}{K:FrG}{mg:Str->Option Value}{base:Heap}{x:Str}{st:Stmt}{N ps:List Str}{k:Nat}{sp:Sp}(T:TopFn K mg x st)(m:FnScope N ps (defScope st))
  (hb:∀(kV b d:Value) (e:Option Addr) (cdv ct:Value) (us:List Value),us.length=ps.length->yR (YR x x (defArgs st) (defBody st) (defScope st) .none kV b d e cdv ct) ⟨us,[]⟩=pure (ps.zip us))
  (len:∀vs H Q E,sp vs H Q E->vs.length=ps.length)
  (a:∀(f:Addr) (cdv:Value) (A:XE) (outer:List Env) (s:X1) (H:Hp) (vs:List V) (Q:VK) (E:XK),RoomB c k (A.deeper (yC x (defScope st) s.heap.objs.size f cdv))->sp vs H Q E->
   ∃t,PSs (Cd c P w K mg base N x (defScope st) f cdv A outer s H E).nox (defBody st) t/\t { nx:=λ _ g=>Q .non g,rt:=Q } (start N vs) H):CalB P w K mg base c (k+1) x ps sp:=
 T.calB m hb len λ f cdv A outer s H vs Q E i h=>by
  obtain ⟨t,j,l⟩:=a f cdv A outer s H vs Q E i h;exact ⟨t,j.nox,l⟩
theorem tu:Jn "ValueError"=some (.type "ValueError"):=by decide+kernel
theorem Fun.okB {c:Bool}{P:Yg}{w:World}{K:FrG}{mg:Str->Option Value}{base:Heap}{x:Str}{st:Stmt}{f:Addr}{fd:JN}{N ps:List Str}{k:Nat}{sp:Sp}(n:Fun K x x st f fd)(o:FnScope N ps (defScope st))
  (len:∀vs H Q E,sp vs H Q E->vs.length=ps.length)
  (a:∀(cdv:Value) (A:XE) (outer:List Env) (s:X1) (H:Hp) (vs:List V) (Q:VK) (E:XK),RoomB c k (A.deeper (yC x (defScope st) s.heap.objs.size f cdv))->sp vs H Q E->
   ∃t,PSs (Cd c P w K mg base N x (defScope st) f cdv A outer s H E).nox (defBody st) t/\t { nx:=λ _ b=>Q .non b,rt:=Q } (start N vs) H):FnB P w K mg base c (k+1) f fd ps sp:=by
 obtain ⟨p,q,kV,j,r,u,cdv,ct,m,rfl,l,d⟩:=id n.ex;exact Gn l d o len λ A outer s H vs Q E e h=>by
  obtain ⟨t,g,i⟩:=a cdv A outer s H vs Q E e h;exact ⟨t,g.nox,i⟩
end L2
namespace Lib
open PySem L2
def lim:Nat:=2 ^ 9000
theorem dG {n:Nat}(h:n < lim):n.log2 < 9000:=Fr.Tv h (by decide)
theorem Vc {n:Nat}(h:n < lim):n < 2 ^ 10000:=zt h (by unfold lim;decide+kernel)
def vd:Sp:=λ vs H Q _=>∃a b:Int,vs=[.int a,.int b]/\Q (.int (Fr.gcd a b)) H
def spLaw (K:FrG):Sp:=λ vs H Q _=>∃(a:Addr) (ns:List Int),vs=[.ref a]/\SqL K H a (ns.map V.int)/\ns.length<=63/\∀b,Q (.bl true) b
theorem Dj (i j:Int):decide (V.int i=V.int j)=decide (i=j):=by
 by_cases h:i=j
 ·subst h;simp
 ·have:¬ V.int i=V.int j:=λ a=>h (V.int.inj a)
  rw [decide_eq_false h,decide_eq_false this]
theorem Jr {xs:List V}{r:Int}(b:0<=r)(c:r < (xs.length:Int)):∃v,atI xs r=some v/\v∈xs:=by
 have a:r.toNat < xs.length:=by omega
 have e:((r.toNat:Nat):Int)=r:=by omega
 have q:atI xs ((r.toNat:Nat):Int)=some xs[r.toNat]:=Bb (XU a);rw [e] at q;exact ⟨_,q,List.getElem_mem a⟩
theorem V0 (ns:List Int)(lo b:Option Int):∀x∈cutV (ns.map V.int) lo b,∃c:Int,x=.int c:=λ x a=>by
 unfold cutV at a;have d:=GA (GB a);obtain ⟨c,_,rfl⟩:=Jb.mp d;exact ⟨c,rfl⟩
abbrev Fz (q:Rat):HO:=.tup [.int q.num,.int (q.den:Int)]
def CZ:Nat:=2 ^ 4000
theorem aQ:(10:Nat) ^ 40 < CZ:=by unfold CZ;decide+kernel
theorem Yc:CZ < lim:=by unfold lim CZ;decide+kernel
theorem oA:CZ * CZ+CZ * CZ < lim:=by unfold lim CZ;decide+kernel
structure Sm (q:Rat):Prop where
 n:q.num.natAbs < CZ
 d:q.den < CZ
theorem Sm.neg {q:Rat}(h:Sm q):Sm (-q):=⟨by rw [Rat.neg_num,Int.natAbs_neg];exact h.n,by rw [Rat.neg_den];exact h.d⟩
theorem qC {a b:Nat}(ha:a < CZ)(hb:b < CZ):a * b < CZ * CZ:=Nat.mul_lt_mul'' ha hb
theorem nH {x c:Int}(a:x.natAbs < CZ)(b:c.natAbs < CZ):(x * c).natAbs < lim:=by
 rw [xq];have:=qC a b;have:=oA;omega
theorem GC {x c:Int}(a:x.natAbs < CZ)(b:c.natAbs < CZ):CMulW x c:=⟨Vc (zt a Yc),Vc (zt b Yc)⟩
theorem Sm.dn {q:Rat}(h:Sm q):((q.den:Int)).natAbs < CZ:=by rw [ze];exact h.d
theorem Yd (q:Rat):((q.den:Nat):Int)≠0:=by have:=q.den_nz;omega
theorem Le (q:Rat):(0:Int) < ((q.den:Nat):Int):=by have:=q.den_nz;omega
theorem ux (p q:Rat):((p.den:Int)) * (q.den:Int)≠0:=Int.mul_ne_zero (Yd p) (Yd q)
theorem qD {t b:Int}(h:b≠0):(HO.tup [.int (Fr.lt t b),.int (Fr.lb t b)])=Fz (WS t b):=by
 rw [Fr.Jm h,Fr.PQ h]
theorem ZW (q:Rat):Fr.gcd q.num (q.den:Int)=1:=by
 unfold Fr.gcd;have:=q.reduced;unfold Nat.Coprime at this;rw [ze,this];rfl
end Lib
namespace Tx
open PySem PySem.Builtin PySem.Builtin.Str PySem.NumText PyProof.Rows
theorem Dw {m k:Nat}(a:0 < k):(dg m).length<=k↔m < 10 ^ k:=by
 unfold dg;rw [Y6];exact Nat.length_toDigits_le_iff (by decide) a
theorem Mv (m:Nat):1<=(dg m).length:=by
 have:=X8 m;cases h:dg m with
 | nil=>exact absurd h this
 | cons a r=>simp
theorem UV:∀(b:List Nat) (a:Nat),zG b->b.foldl (λ d c=>d * 10+(c - 48)) a < (a+1) * 10 ^ b.length
 | [],a,_=>by simp
 | c::r,a,h=>by
  have f:=h.head;have e:=UV r (a * 10+(c - 48)) h.tail;rw [List.foldl_cons,U1];refine W1 e ?_;have:a * 10+(c - 48)+1<=(a+1) * 10:=by omega
  calc (a * 10+(c - 48)+1) * 10 ^ r.length<=(a+1) * 10 * 10 ^ r.length:=QE _ this
   _=(a+1) * 10 ^ (r.length+1):=by rw [Nat.mul_assoc,FK,Nat.mul_comm 10]
theorem V7 {a:List Nat}(h:zG a)(hl:a.length<=15):JY a < 10 ^ 15:=by
 have b:=UV a 0 h;have c:(10:Nat) ^ a.length<=10 ^ 15:=xK (by decide) hl
 unfold JY;omega
structure Short (q:Rat):Prop where
 n:q.num.natAbs < 10 ^ 15
 d:q.den < 10 ^ 15
theorem Qn (m:Nat):47∉dg m:=λ h=>by have:=Hd m 47 h;omega
theorem jx (m:Nat):45∉dg m:=λ h=>by have:=Hd m 45 h;omega
theorem gZ (m:Nat)(r:List Nat):(dg m++r).head?≠some 45:=by
 cases h:dg m with
 | nil=>exact absurd h (X8 m)
 | cons a l=>
  intro e;have b:some a=some 45:=e;cases b
  exact jx m (by rw [h];exact ZU ..)
theorem JL (q:Rat):decide ((sh q).head?=some 45)=decide (q.num < 0):=by
 apply decide_eq_decide.mpr
 unfold sh;by_cases h:q.num < 0
 ·rw [if_pos h];simp [h]
 ·rw [if_neg h,xR];exact ⟨λ e=>absurd e (gZ _ _),λ e=>absurd e h⟩
def bd (q:Rat):List Nat:=dg q.num.natAbs++(if q.den=1 then [] else 47::dg q.den)
theorem Hq (q:Rat):(if q.num < 0 then (sh q).drop 1 else sh q)=bd q:=by
 unfold sh bd;by_cases h:q.num < 0
 ·rw [if_pos h,if_pos h];rfl
 ·rw [if_neg h,if_neg h];rfl
theorem HN (q:Rat):cut 47 (bd q)=if q.den=1 then [dg q.num.natAbs] else [dg q.num.natAbs,dg q.den]:=by
 unfold bd;by_cases h:q.den=1
 ·rw [if_pos h,if_pos h,UB,KQ (Qn _)]
 ·rw [if_neg h,if_neg h,Hi _ (Qn _),KQ (Qn _)]
theorem Qe (q:Rat)(h:Short q):(sh q).length<=40:=by
 have a:=(Dw (m:=q.num.natAbs) (k:=15) (by decide)).mpr h.n
 have b:=(Dw (m:=q.den) (k:=15) (by decide)).mpr h.d
 unfold sh;rw [ZA,ZA]
 split<;>split<;>simp only [U1,WA]<;>omega
theorem oh (q:Rat):(xS++Y1 (toString q.num))++(Y1 "/")++Y1 (toString ((q.den:Nat):Int))=(⟨((if q.num < 0 then [45] else [])++dg q.num.natAbs++47::dg q.den).toArray⟩:Y2):=by
 apply ext
 rw [Bh,Bh,Bh,LC,LC];show []++_++[47]++_=_;rw [cl,zT,if_neg (show ¬ (((q.den:Nat):Int) < 0) by omega)]
 simp
end Tx
namespace Lib
open PySem L2 Tx PySem.NumText
def iw (C:Addr):Sp:=λ vs H Q E=>∃x:Y2,vs=[.str x]/\x.length<=100000/\
 ((zG (cl x)/\1<=x.length/\x.length<=15/\∀a,Same H a->Q (.int ((JY (cl x):Nat):Int)) a)\/
   (¬ (zG (cl x)/\1<=x.length/\x.length<=15)/\∀a,Same H a->E (.ref C) none a))
theorem U4 (x:Y2):((zf x).map λ a=>V.bl (!(Xt (Y1 "0123456789") a 0 (Y1 "0123456789").length 1).isEmpty))=((cl x).map λ c=>decide (48<=c/\c<=57)).map V.bl:=by
 unfold zf;rw [xr,xr]
 apply xY
 intro c _;show V.bl (!(Xt (Y1 "0123456789") ⟨#[c]⟩ 0 (Y1 "0123456789").length 1).isEmpty)=V.bl (decide (48<=c/\c<=57));rw [uz]
theorem Rz (l:List Nat):((l.map λ c=>decide (48<=c/\c<=57)).all id)=true↔zG l:=by
 unfold zG;rw [FG,zX];simp
theorem Vr {i:Int}(h:i.natAbs.log2 < 1920):(Y1 (toString i)).length<=2000:=by
 rw [<- Ci,LC,ZA];have a:i.natAbs < 10 ^ 1900:=by
  by_cases c:i.natAbs=0
  ·rw [c];exact Nat.pow_pos (by decide)
  ·have b:i.natAbs < 2 ^ 1920:=(Nat.log2_lt c).mp h;exact zt b (by decide+kernel)
 have d:=(Dw (m:=i.natAbs) (k:=1900) (by decide)).mpr a
 split<;>simp only [U1,WA]<;>omega
theorem Ds (x a:Y2):(x++a).length=x.length+a.length:=by
 rw [<- Ci,Bh,ZA,Ci,Ci]
theorem Cp {n:Nat}(h:n<=10000):n<=X2:=U2 h (by decide)
end Lib
namespace Tx
theorem ZM (c:Nat):∀l:List Nat,cut c l≠[]
 | []=>by simp [cut]
 | a::r=>by
  unfold cut
  split
  ·simp
  ·split<;>simp
theorem W5:Y1 "-"=⟨#[45]⟩:=by rfl
theorem Y0:Y1 "/"=⟨#[47]⟩:=by rfl
end Tx
namespace Lib
open PySem L2 Tx PySem.NumText
theorem pX {i j:Int}(f:1<=j)(c:Fr.gcd i j=1):∃q:Rat,q.num=i/\((q.den:Nat):Int)=j:=by
 have a:j≠0:=by omega
 obtain ⟨d,e⟩:=(Fr.gq (t:=i) (b:=j) (by omega)).mpr c
 exact ⟨WS i j,by rw [<- Fr.Jm a,d],by rw [<- Fr.PQ a,e]⟩
end Lib
namespace Lib
open PySem L2 Tx
theorem Sm.zero:Sm 0:=⟨by show (0:Int).natAbs < CZ;exact zt (by decide) aQ,by show 1 < CZ;exact zt (by decide) aQ⟩
end Lib
namespace L2
open PySem PySem.Spec PyProof.Rows
section
variable {prog:Yg}{w:World}{A:XE}{R:Result->X1->Prop}{s:X1}
theorem Vd {g a iter:Expr}{i:List Expr}{e:Scope}{pos:Pos}{it j:Value}{env:Env}(C:Nat->X1->Prop)
  (turn:∀n s,C n s->wpAny (model prog w) A (yV it) (λ r b=>match r with
   | none=>R (.ok .next) b
   | some v=>wpAny (model prog w) A (zc a it v) (λ _ f=>wpAny (model prog w) A (yL a env v) (λ _ k=>
     wpAny (model prog w) A (forIn i true λ c r=>if r=true then do let ok <- GH c env (eval c env);pure (UH ok) else pure (UH r)) (λ ok d=>
      if ok=true then wpAny (model prog w) A (eval g env) (λ x l=>
       wpAny (model prog w) A (call (.builtin "list.append") [j,x]) (λ _ o=>∃m,m < n/\C m o) (λ _ _=>False) l) (λ _ _=>False) d
      else ∃m,m < n/\C m d) (λ _ _=>False) k) (λ _ _=>False) f) (λ _ _=>False) b) (λ _ _=>False) s)
  (n:Nat) (h:C n s):
  zK (model prog w) A (.compLoop (.ListComp g [⟨a,iter,i,0⟩] e pos) 0 it j env) R s:=by
 refine codeAny_loop rfl C (λ n s D=>?_) n h
 show wpAny _ A ((compTurn (.ListComp g [⟨a,iter,i,0⟩] e pos) 0 it j env).onRaise (λ x=>do yo x env;theTreesLotGoes x)) _ _ s
 refine wpAny_noted ?_;rw [compTurn_list];refine Y3 (Qu (Y3 (XW (turn n s D) (λ r b p=>?_) λ _ _ q=>q.elim)))
 cases r with
 | none=>exact ZH p
 | some v=>
  refine Y3 (XW p (λ _ f u=>?_) λ _ _ q=>q.elim)
  refine Y3 (XW u (λ _ k y=>Y3 (XW y (λ ok d t=>?_) λ _ _ q=>q.elim)) λ _ _ q=>q.elim)
  cases ok with
  | false=>exact ZH ⟨rfl,t⟩
  | true=>
   exact Y3 (Y3 (XW t (λ x l z=>Y3 (XW z (λ _ o B=>ZH (ZH ⟨rfl,B⟩)) λ _ _ q=>q.elim)) λ _ _ q=>q.elim))
end
def BP (X:Cx)(a:Scope)(cl:List (Str×Addr))(c:List Str)(C:Addr)(d:List Addr)(b:List (Addr×Obj))(e:X1)(f:Hp):Cx:=
 { X with N:=c,s₀:=e,H₀:=f,env:=zk a cl C X.env,outer:=X.stack,ex:=d,fn:=λ _=>false,pn:=X.pn++b,xe:=λ _ _=>False }
structure CapOk (X:Cx)(scope:Scope)(cl:List (Str×Addr)):Prop where
 clos:closureFor scope X.env=pure cl
 sub:∀y c,cl.lookup y=some c->X.env.cells.lookup y=some c
 has:∀y,((zV scope X.env).names.lookup y=some .cell\/(zV scope X.env).names.lookup y=some .free)->∃c,cl.lookup y=some c
theorem gU {a:Scope}{env:Env}(b:∀d∈a.names,d.2≠.free):(zV a env).names=a.names:=by
 unfold zV;exact map_eq_self (l:=a.names) λ x c=>by
  obtain ⟨n,k⟩:=x;have:(k == ym)=false:=by simpa using b _ c
  simp [this]
theorem Fj {X:Cx}{a:Scope}(b:∀d∈a.names,d.2≠.free)(hcell:∀d∈a.names,d.2≠.cell):CapOk X a []:=by
 refine ⟨closureFor_none b,λ d c e=>(by simp at e),λ d e=>?_⟩
 rw [gU b] at e;exfalso;rcases e with e | e
 ·exact hcell _ (Jy e) rfl
 ·exact b _ (Jy e) rfl
def Fg (a:List (Option Nat))(b:St):St:=a.map λ o=>o.bind λ j=>(b[j]?).join
section
variable {X:Cx}{pins:List (Addr×Obj)}{σ:St}{H2:Hp}{s2:X1}{scope:Scope}{cl:List (Str×Addr)}{N':List Str}{C:Addr}{fp:List Addr}{caps:List (Option Nat)}
theorem JH (d:Inv X pins σ H2 s2){b:Addr}(a:b≠X.env.locals)(c:b∉X.fs):b∉frs X.stack:=λ e=>(ZT.mp (d.stkSub b e)).elim a c
theorem Px (g:Inv X pins σ H2 s2)(hf:∀b∈fp,FpOk X pins H2 b)(hl:∀b∈fp,b < s2.heap.objs.size)(H:scope.kind=.function)(a:CapOk X scope cl)(z:s2.heap.objs.size<=C){s:X1}(os:s.os=s2.os)(bare:yG s.gens)
  (k:∀b o,s2.heap.get? b=some o->s.heap.get? b=some o) (ns:s.heap.Ns C λ _=>none) (I:caps.length=N'.length)
  (A:∀(i j:Nat),caps[i]?=some (some j)->∃f:Str,N'[i]?=some f/\X.N[j]?=some f/\(zV scope X.env).names.lookup f=some .cell/\X.env.scope.names.lookup f=some .cell) (ht:1<=s.toks:=by first | assumption | exact Inv.tk (by assumption) | exact YU _ _ | omega):
  Inv (BP X scope cl N' C fp pins s2 H2) [] (Fg caps σ) H2 s:=by
 have x:∀b:Addr,b < s2.heap.objs.size->b≠C:=λ b h=>YO (W1 h z)
 refine ⟨⟨g.ok.mod,?_,g.ok.glob,g.ok.blt,z,λ f r c t l=>g.ok.inj f r c (a.sub f c t) (a.sub r c l),λ f h=>a.has f h,(λ f c r=>nomatch r),g.ok.hd,g.ok.frames,.inl rfl,λ b hb=>⟨x b (hl b hb),λ f c e=>(hf b hb).2.2.2.2.1 f c (a.sub f c e)⟩,
  λ b o e=>g.bs b o e,U2 g.ok.bsz g.sz,λ b o e hb=>?_,λ b hb=>JH g (hf b hb).2.1 (hf b hb).2.2.1,g.stack,g.stkFree⟩,
  os,bare,Un.kept k,⟨_,ns,λ i f v t l S=>?_⟩,λ f c e=>?_,g.hok.fresh z,λ f c e=>g.freeC f c (a.sub f c e),λ p w=>?_,g.hok.kept k,?_,ht⟩
 ·show (zV scope X.env).kind=.function;exact H
 ·rcases (hf b hb).2.2.2.1 with r | r
  ·exact g.ok.noex b o e r
  ·exact absurd (W1 (ZI e) (U2 g.ok.bsz r)) (zu _)
 ·have t:N'[i]?=some f:=t;unfold Fg at l;rw [YA] at l;cases B:caps[i]? with
  | none=>rw [B] at l;cases l
  | some o=>
   rw [B] at l;cases o with
   | none=>cases l
   | some j=>
    obtain ⟨T,e1,e2,D,E⟩:=A i j B;rw [t] at e1;cases e1
    have J:σ[j]?=some (some v):=by
     have r:(σ[j]?).join=some v:=by simpa using l
     cases q:σ[j]? with
     | none=>rw [q] at r;cases r
     | some U=>rw [q] at r;exact congrArg some r
    obtain ⟨m,hn,hm⟩:=g.loc;obtain ⟨u,K,L⟩:=hm j f v e2 J (.inr (.inl E));refine ⟨u,K,.inr ⟨.inl D,?_⟩⟩;rcases L with ⟨r,_⟩ | ⟨_,c,M,O,F,G⟩
    ·rw [show X.env.kindOf f=X.env.scope.names.lookup f from rfl,E] at r;cases r
    ·obtain ⟨P,y⟩:=a.has f (.inl D);have:=a.sub f P y;rw [M] at this;cases this
     exact ⟨c,y,O,k _ _ F,G⟩
 ·obtain ⟨v,o,Q,hd⟩:=g.cell f c (a.sub f c e);exact ⟨v,o,k _ _ Q,hd⟩
 ·have w:p∈(X.pn++pins)++[]:=w;rw [UB] at w;obtain ⟨e,n,ne,R,d⟩:=g.pin p w;exact ⟨k _ _ e,n,x _ (ZI e),JH g ne R,d⟩
 ·show (Fg caps σ).length=N'.length;unfold Fg;rw [Y6];exact I
theorem Ly {pl:List (Addr×Obj)}{s:St}{j:Hp}{s':X1}{l:Addr}{items:Array Value}{p:List V}{f:Heap}(L:Inv X pins σ H2 s2)(hf:∀b∈fp,FpOk X pins H2 b)(a:Inv (BP X scope cl N' C fp pins s2 H2) pl s j s')
  (t:s'.heap.PlainList l items) (g:j l=none) (r:s2.heap.get? l=none) (w:l≠C) (y:Vals p items.toList) (z:p.length<=X2) (h:JT C s'.heap f):Inv X pins σ (upd j l (.lst p)) { s' with heap:=f }:=by
 have A:s2.heap.objs.size<=C:=a.ok.above;have i:∀b o,s2.heap.get? b=some o->b≠C:=λ b o e=>YO (W1 (ZI e) A)
 have x:j C=none:=a.free;obtain ⟨B,D⟩:=t;refine L.call' (s':={ s' with heap:=f }) (ch:=fp) (ht:=a.tk) a.os ⟨λ b o e n hb d=>h.extBut b o (i b o e) (a.base.keep b o e n hb d),λ b o e n hb d=>?_,λ b o e n d=>?_,λ b o e d=>?_,λ b xs e=>?_,λ b o u e=>?_,λ b ps e=>?_⟩ (λ b o e=>?_) a.bare λ b hb=>?_
 ·obtain ⟨E,q⟩:=a.base.slot b o e n hb d;exact ⟨E,h.extBut b _ (i b o e) q⟩
 ·have:b≠l:=λ k=>by rw [k,r] at e;cases e
  rw [Ax this];exact a.base.free b o e n d
 ·obtain ⟨F,q⟩:=a.base.there b o e d;exact ⟨F,h.extBut b _ (i b o e) q⟩
 ·have q:=a.base.tups b xs e;rw [Ax (BZ q g)];exact q
 ·have q:=a.base.frzs b o u e;rw [Ax (BZ q g)];exact q
 ·obtain ⟨m,q⟩:=a.base.tbls b ps e;exact ⟨m,by rw [Ax (BZ q g)];exact q⟩
 ·by_cases hb:b=l
  ·subst hb;rw [Aj] at e;cases e
   exact ⟨z,items.toList,B,y,h.extBut _ _ w D⟩
  ·rw [Ax hb] at e;refine (a.hok b o e).stay (λ c v G q=>h.extBut c v ?_ q) (λ c q=>by rw [Ax (BZ q g)];exact q) λ c xs q=>by rw [Ax (BZ q g)];exact q
   intro k;subst k;rcases G with k | k
   ·rw [<- k,x] at e;cases e
   ·rw [x] at k;cases k
 ·obtain ⟨M,H,N,I,J,K⟩:=hf b hb;exact ⟨I,H,J,K⟩
end
def Bo (X:Cx)(d:List Expr)(t:TT):Prop:=
 ∀(a:List (Addr×Obj)) (s:X1) (b:St) (H:Hp) (Q:Bool->Hp->Prop),Inv X a b H s->t b H Q->
  wpAny (model X.prog X.w) X.A (forIn d true λ c r=>if r=true then do let ok <- GH c X.env (eval c X.env);pure (UH ok) else pure (UH r)) (TP X a b Q) X.xe s
def Gd:TT:=λ _ H Q=>Q true H
theorem Em {X:Cx}:Bo X [] Gd:=λ a s b H Q c h=>by
 simp only [wB];exact ZH ⟨H,c,h⟩
theorem uf {X:Cx}{c:Expr}{t:TT}(d:PT X c t):Bo X [c] t:=λ a s e H Q f h=>by
 simp only [zb,wB,if_true];exact Y3 (Y3 (XW (d a s e H Q f h) (λ b s' hb=>ZH (ZH hb)) λ _ _ x=>x))
def Fe (r:TG)(tt:TT)(j:TE)(k:It)(l:St)(n:Hp)(Q:VK):Prop:=∃h:Nat->Nat->St->List V->Hp->Prop,(∃m,h 0 m l [] n)/\∀i m e c H,h i m e c H->c.length<=X2/\
 ((k.stop i H/\∀p,H p=none->Q (.ref p) (upd H p (.lst c)))\/
   (k.go i H/\∀x f,k.yld i H x f->r x e f λ a o=>tt a o λ b g=>if b=true then j a g λ s q=>∃d,d < m/\h (i+1) d a (c++[s]) q else ∃d,d < m/\h (i+1) d a c g))
def FJ (c:TI)(f:TG)(tt:TT)(d:TE)(a:List (Option Nat)):TE:=λ b H Q=>c b H λ g e=>Fe f tt d g (Fg a b) e Q
theorem Yz {X:Cx}{tg a5 iter:Expr}{W:List Expr}{a:Scope}{pos:Pos}{f1:TI}{k5:TG}{tt:TT}{f2:TE}{cl:List (Str×Addr)}(y:List Str)(M:List (Option Nat))(f3:X.calm=true)(h1:PI X tg iter f1)
  (h2:∀C k g O l,PG (BP X a cl y C k g O l) tg k5) (ht:∀C k g O l,Bo (BP X a cl y C k g O l) W tt) (h3:∀C k g O l,PE (BP X a cl y C k g O l) a5 f2)
  (a6:CapOk X a cl) (hcell:∀K∈a.names,K.2≠.cell) (P:a.kind=.function) (b2:∀K∈a.names,K.2=.local->a.names.lookup K.1=some .local) (h4:M.length=y.length)
  (d6:∀(i j:Nat),M[i]?=some (some j)->∃K:Str,y[i]?=some K/\X.N[j]?=some K/\(zV a X.env).names.lookup K=some .cell/\X.env.scope.names.lookup K=some .cell)
  (h5:∀x,UW iter X.env x=pure x) {g:List (Addr×Obj)} {s:X1} {b3:St} {H:Hp} {Q:VK} {use:Option (Value->Sem Unit)} {QQ:Value->X1->Prop}
  (f4:∀(C D:Addr) (k:List Addr) (O b1:X1) (l c1:Hp) (pl:List (Addr×Obj)) (B:St) (items:Array Value) (q:List V),Inv X g b3 l O->(∀b∈k,FpOk X g l b)->Inv (BP X a cl y C k g O l) pl B c1 b1->b1.heap.PlainList D items->c1 D=none->O.heap.get? D=none->D≠C->
   Vals q items.toList->q.length<=X2->(∀p,c1 p=none->Q (.ref p) (upd c1 p (.lst q)))->xy (model X.prog X.w) X.A X.xe use QQ (.ref D) C (.ok .next) b1)
  (k8:Inv X g b3 H s) (h:FJ f1 k5 tt f2 M b3 H Q):wpAny (model X.prog X.w) X.A (xG (.ListComp a5 [⟨tg,iter,W,0⟩] a pos) a X.env (firstIterPos [⟨tg,iter,W,0⟩] pos) (newList []) false (eval iter X.env) use) QQ X.xe s:=by
 refine yS (use:=use) rfl h5 a6.clos P b2 (thn (h1 g s b3 H _ k8 h) λ k9 a1 E=>thn E λ k6 f d7=>?_)
 obtain ⟨it,k,b4,l2,l,rfl,R,T,c8,c2,h6,⟨h7,h8⟩,turn⟩:=d7;have b5:∀b∈k,b < f.heap.objs.size:=λ b hb=>by obtain ⟨o,e,_⟩:=T.obj _ _ c8 b hb;exact ZI e
 refine UU (xM hcell (by intro K h9;simp at h9) (λ E I F=>?_) P)
 dsimp only at I F ⊢
 generalize b6:f.heap.push { cls:=.type "list",dict:=none,data:=.seq ([]:List Value).toArray }=Y at I F ⊢;have d8:Y.objs.size=f.heap.objs.size+1:=by rw [<- b6,UC]
 have a7:f.heap.objs.size≠Y.objs.size:=by rw [d8];exact YO (zw _)
 have d9:f.heap.objs.size<=Y.objs.size:=by rw [d8];exact xa _
 have a8:∀b,b < f.heap.objs.size->b≠Y.objs.size:=λ b hb=>by rw [d8];exact YO (wP hb)
 have c9:∀b o,f.heap.get? b=some o->E.get? b=some o:=λ b o e=>F.extBut b o (a8 b (ZI e)) (X9 _ (b6▸X9 _ e))
 have e0:E.PlainList f.heap.objs.size #[]:=⟨_,F.extBut _ _ a7 (X9 _ (b6▸YL _ rfl))⟩;have S:f.heap.get? f.heap.objs.size=none:=zH (YE _);have f5:l f.heap.objs.size=none:=R.hok.fresh (YE _);generalize a9:f.heap.objs.size=D at *;generalize k7:Y.objs.size=C at *;have d0:∀b∈k,b≠D:=λ b hb=>YO (b5 b hb)
 have U:∀{t:Hp} {pl:List (Addr×Obj)},(∀p∈pl,p.1=D)->(∀b∈k,t b=none)->∀b∈k,FpOk (BP X a cl y C k g f l) pl t b:=λ {t pl} f6 hn b hb=>by
  obtain ⟨l0,i0,f7,l1,i1,i2⟩:=c2 b hb;refine ⟨hn b hb,a8 b (b5 b hb),JH R i0 f7,.inl hb,λ K c e=>i1 K c (a6.sub K c e),λ p G=>?_⟩
  rcases XA.mp G with G | G
  ·exact i2 p G
  ·rw [f6 p G];exact (d0 b hb).symm
 have f8:∀n s',(∃i B q,∃(items:Array Value),∃t,Inv (BP X a cl y C k g f l) [] B t s'/\b4 i s'.heap/\(∀b∈k,t b=none)/\s'.heap.PlainList D items/\Vals q items.toList/\t D=none/\h6 i n B q t)->
   wpAny (model X.prog X.w) X.A (yV (.ref it)) (λ r a1=>match r with
   | none=>xy (model X.prog X.w) X.A X.xe use QQ (.ref D) C (.ok .next) a1
   | some v=>wpAny (model X.prog X.w) X.A (zc tg (.ref it) v) (λ _ c3=>wpAny (model X.prog X.w) X.A (yL tg (zk a cl C X.env) v) (λ _ c4=>
     wpAny (model X.prog X.w) X.A (forIn W true λ c r=>if r=true then do let ok <- GH c (zk a cl C X.env) (eval c (zk a cl C X.env));pure (UH ok) else pure (UH r)) (λ ok z=>
      if ok=true then wpAny (model X.prog X.w) X.A (eval a5 (zk a cl C X.env)) (λ x e1=>
       wpAny (model X.prog X.w) X.A (call (.builtin "list.append") [.ref D,x]) (λ _ a2=>∃m,m < n/\∃i B q,∃(items:Array Value),∃t,Inv (BP X a cl y C k g f l) [] B t a2/\b4 i a2.heap/\(∀b∈k,t b=none)/\a2.heap.PlainList D items/\Vals q items.toList/\t D=none/\h6 i m B q t) (λ _ _=>False) e1) (λ _ _=>False) z
      else ∃m,m < n/\∃i B q,∃(items:Array Value),∃t,Inv (BP X a cl y C k g f l) [] B t z/\b4 i z.heap/\(∀b∈k,t b=none)/\z.heap.PlainList D items/\Vals q items.toList/\t D=none/\h6 i m B q t) (λ _ _=>False) c4) (λ _ _=>False) c3) (λ _ _=>False) a1) (λ _ _=>False) s':=by
  rintro n e2 ⟨i,L,q,items,b7,i3,d1,d2,f9,b0,g0,i4⟩
  obtain ⟨i5,i6⟩:=turn i n L q b7 i4;obtain ⟨a3,c5⟩:=id f9;have e3:D∉frs X.stack:=λ e4=>by
   obtain ⟨_,o,e,_⟩:=R.stack.mem e4;rw [S] at e;cases e
  have d3:Inv (BP X a cl y C k g f l) [(D,{ cls:=.type "list",data:=.seq items a3 })] L b7 e2:=i3.pins_of λ p G=>by
   have e:p=(D,{ cls:=.type "list",data:=.seq items a3 }):=by simpa using G
   subst e;exact ⟨c5,g0,a7,e3,λ v e4=>by cases e4⟩
  have one:∀p∈[(D,({ cls:=.type "list",data:=.seq items a3 }:Obj))],p.1=D:=λ p G=>by
   have e:p=(D,{ cls:=.type "list",data:=.seq items a3 }):=by simpa using G
   subst e;rfl
  rcases i6 with ⟨stop,i7⟩ | ⟨go,step⟩
  ·refine thn (T.done (BP X a cl y C k g f l) rfl rfl rfl f3 i _ e2 L b7 (λ _ _=>False) d3 (U one d2) d1 stop) λ r b1 ⟨e5,g1⟩=>?_
   subst e5;obtain ⟨i8,g2,_⟩:=g1.pin _ (ZB _ (Zu.mpr rfl));exact f4 C D k f b1 l b7 _ L items q R c2 g1 ⟨a3,i8⟩ g2 (a9▸S) a7 b0 i5 i7
  ·refine thn (T.item (BP X a cl y C k g f l) rfl rfl rfl f3 i _ e2 L b7 (λ _ _=>False) d3 (U one d2) d1 go) λ r b1 ⟨u,e5,i9⟩=>?_
   subst e5;refine thn i9 λ _ g3 ⟨x,g4,j0,j1,j2,b8,g5⟩=>?_
   have g6:=j0.pinned (U one g5) (T.obj _ _ b8);refine thn (h2 C k g f l _ g3 L g4 x u _ g6 j1 (step x g4 j2)) λ _ j3 ⟨J,j4,j5,j6⟩=>?_
   refine thn (ht C k g f l _ j3 J j4 _ j5 j6) λ b j7 ⟨g7,g8,c6⟩=>?_
   have b9:∀{Z:Hp} {a0:X1},Inv (BP X a cl y C k g f l) ([(D,({ cls:=.type "list",data:=.seq items a3 }:Obj))]++pinsAt k g3.heap) J Z a0->
     Inv (BP X a cl y C k g f l) [] J Z a0/\b4 (i+1) a0.heap/\(∀b∈k,Z b=none)/\a0.heap.PlainList D items/\Z D=none:=λ {Z a0} a4=>by
    refine ⟨a4.pins_of (λ p G=>nomatch G),T.keep _ _ _ b8 λ b hb o e=>(a4.pin (b,o) (ZB _ (ZB _ (Ft hb e)))).1,λ b hb=>?_,?_,?_⟩
    ·obtain ⟨o,e,d⟩:=T.obj _ _ b8 b hb;exact (a4.pin (b,o) (ZB _ (ZB _ (Ft hb e)))).2.1
    ·exact ⟨a3,(a4.pin _ (ZB _ (UX _ (Zu.mpr rfl)))).1⟩
    ·exact (a4.pin _ (ZB _ (UX _ (Zu.mpr rfl)))).2.1
   cases b with
   | false=>
    rw [if_neg ZE] at c6;obtain ⟨e6,hm,j8⟩:=c6;obtain ⟨e7,e8,e9,f0,c7⟩:=b9 g8;rw [if_neg ZE];exact ⟨e6,hm,i+1,J,q,items,g7,e7,e8,e9,f0,b0,c7,j8⟩
   | true=>
    rw [if_pos rfl] at c6;rw [if_pos rfl];refine thn (h3 C k g f l _ j7 J g7 _ g8 c6) λ v a0 ⟨K,Z,a4,j9,e6,hm,k0⟩=>?_
    obtain ⟨e7,e8,e9,f0,c7⟩:=b9 a4;have g9:items.size<=X2:=by
     have e:q.length=items.size:=by simpa using b0.length
     omega
    refine xj (hsz:=g9) f0 λ k1 h0 d4=>?_
    have k2:∀K c,cl.lookup K=some c->c≠D:=λ K c e e4=>by
     obtain ⟨v,o,c5,_⟩:=R.cell K c (a6.sub K c e);rw [e4,S] at c5;cases c5
    have np:∀p∈(X.pn++g)++[],p.1≠D:=λ p G e4=>by
     rw [UB] at G;have e:=(R.pin p G).1;rw [e4,S] at e;cases e
    have k3:Inv (BP X a cl y C k g f l) [] J Z { a0 with heap:=k1 }:=e7.turned (it:=D) (t':=a0.toks) (λ b o hb e=>d4.extBut b o hb e) c7 a7 (.inr (wb a9)) k2 np
    refine ⟨e6,hm,i+1,J,q++[K],items.push v,Z,k3,T.keep _ _ _ e8 λ b hb o e=>d4.extBut b o (d0 b hb) e,e9,h0,?_,c7,k0⟩
    rw [wQ];exact b0.append (.cons j9 .nil)
 have k4:Inv (BP X a cl y C k g f l) [] (Fg M b3) l { f with heap:=E,toks:=f.toks+([]:List (Str×Value)).length }:=
  Px R c2 (λ b hb=>a9▸b5 b hb) P a6 (by rw [a9];exact d9) rfl R.bare c9 I h4 d6 (ht:=R.tk)
 have d5:b4 0 E:=T.keep _ _ _ c8 λ b _ o e=>c9 b o e
 have c0:∀z:X1,z={ f with heap:=E,toks:=f.toks+([]:List (Str×Value)).length }->
   zK (model X.prog X.w) X.A (.compLoop (.ListComp a5 [⟨tg,iter,W,0⟩] a pos) 0 (.ref it) (.ref D) (zk a cl C X.env)) (xy (model X.prog X.w) X.A X.xe use QQ (.ref D) C) z:=by
  rintro z rfl
  exact Vd _ f8 h7 ⟨0,_,[],#[],l,k4,d5,λ b hb=>(c2 b hb).1,e0,.nil,f5,h8⟩
 exact xz (c0 _ rfl) (T.self X.A 0 _ _ _ d5 (c0 _ rfl))
theorem HB {X:Cx}{tg o iter:Expr}{p:List Expr}{a:Scope}{pos:Pos}{t:TI}{R:TG}{tt:TT}{u:TE}{cl:List (Str×Addr)}(d:List Str)(c:List (Option Nat))(B:X.calm=true)(D:PI X tg iter t)
  (E:∀C e b f g,PG (BP X a cl d C e b f g) tg R) (ht:∀C e b f g,Bo (BP X a cl d C e b f g) p tt) (F:∀C e b f g,PE (BP X a cl d C e b f g) o u)
  (v:CapOk X a cl) (hcell:∀l∈a.names,l.2≠.cell) (n:a.kind=.function) (k:∀l∈a.names,l.2=.local->a.names.lookup l.1=some .local) (G:c.length=d.length)
  (q:∀(i j:Nat),c[i]?=some (some j)->∃l:Str,d[i]?=some l/\X.N[j]?=some l/\(zV a X.env).names.lookup l=some .cell/\X.env.scope.names.lookup l=some .cell)
  (I:∀x,UW iter X.env x=pure x:=by intro _;rfl):
  PE X (.ListComp o [⟨tg,iter,p,0⟩] a pos) (FJ t R tt u c):=by
 intro b s U H Q V h;rw [eval_ListComp];refine Yz (use:=none) d c B D E ht F v hcell n k G q I (λ C S e f W g Y pl T items Z J K w y z r A L M O=>?_) V h
 obtain ⟨m,hn,_⟩:=w.loc;exact ⟨m,hn,λ h' P=>⟨.ref S,_,Ly J K w y z r A L M P,rfl,O S z⟩⟩
def Sx (i:Nat)(t:TE):TS:=λ c a H=>t a H λ v b=>c.nx (a.set i (some v)) b
theorem Wa {X:Cx}{tg q iter:Expr}{r:List Expr}{a:Scope}{pos z B:Pos}{T:TI}{c8:TG}{tt:TT}{U:TE}{cl:List (Str×Addr)}{f:Str}{i:Nat}(V:X.N.Nodup)(W:X.N[i]?=some f)(a7:Loc X.env.scope f)(t:List Str)(g:List (Option Nat))(a8:X.calm=true)(a9:PI X tg iter T)
  (b0:∀C u d l w,PG (BP X a cl t C u d l w) tg c8) (ht:∀C u d l w,Bo (BP X a cl t C u d l w) r tt) (b1:∀C u d l w,PE (BP X a cl t C u d l w) q U)
  (Y:CapOk X a cl) (hcell:∀f∈a.names,f.2≠.cell) (F:a.kind=.function) (D:∀f∈a.names,f.2=.local->a.names.lookup f.1=some .local) (b2:g.length=t.length)
  (O:∀(i j:Nat),g[i]?=some (some j)->∃f:Str,t[i]?=some f/\X.N[j]?=some f/\(zV a X.env).names.lookup f=some .cell/\X.env.scope.names.lookup f=some .cell)
  (b3:∀x,UW iter X.env x=pure x:=by intro _;rfl) (Z:xf (.ListComp q [⟨tg,iter,r,0⟩] a pos) (some (.Name f B)) z.line X.env=pure true:=by rfl)
  (a0:X.fn f=true\/X.env.scope.names.lookup f=some .local:=by first | exact .inl rfl | exact .inr rfl | assumption):
  PS X (.Assign [.Name f B] (.ListComp q [⟨tg,iter,r,0⟩] a pos) z) (Sx i (FJ T c8 tt U g)):=by
 intro d s P H d1 d2 h;rw [exec_Assign_Name_used _ _ _ _ Z];refine Y3 (Qu (Y3 ?_));show wpAny _ X.A (do let _ <- xG (.ListComp q [⟨tg,iter,r,0⟩] a pos) a X.env _ (newList []) false (eval iter X.env) (some (yL (.Name f B) X.env))) _ _ s
 refine Y3 (XW (Yz (use:=some (yL (.Name f B) X.env)) (QQ:=λ _ s'=>SP X d d1 .next s') t g a8 a9 b0 ht b1 Y hcell F D b2 O b3
  (λ C k u l Q w G pl c9 items I y b4 J a1 a2 R L b5 b6 b7=>?_) d2 h) (λ _ s' b8=>ZH (ZH b8)) λ _ _ e=>e)
 have E:l.heap.objs.size<=C:=J.ok.above;obtain ⟨m,hn,_⟩:=J.loc;obtain ⟨K,b9,c0,a3,M,hrest⟩:=id hn;have d0:Inv X d P (upd G k (.lst I)) Q:=Ly y b4 J a1 a2 R L b5 b6 (wR ..);have a4:upd G k (.lst I) C=none:=by rw [Ax (WU L)];exact J.free
 have c1:C≠X.env.locals:=WB (W1 y.lt E);have c2:C∉X.fs:=y.nofs E;have c3:Inv X (d++[(C,K)]) P (upd G k (.lst I)) Q:=d0.pins_of λ p n=>by
  rcases XA.mp n with n | n
  ·exact d0.pin p (ZB _ n)
  ·have e:p=(C,K):=by simpa using n
   subst e;exact ⟨a3,a4,c1,c2,λ v S=>by rw [M] at S;cases S⟩
 show wpAny _ X.A (yL (.Name f B) X.env (.ref k)) _ _ Q;refine wU (Fo c3 V W a7 (show RelV (.ref k) (YI k) from rfl) (λ a5 a6=>?_) a0)
 obtain ⟨c4,_⟩:=a6.pin (C,K) (ZB _ (ZB _ (Zu.mpr rfl)));refine ⟨m,⟨K,b9,c0,c4,M,hrest⟩,λ h' c5=>?_⟩
 have c6:Inv X d (P.set i (some (.ref k))) (upd G k (.lst I)) a5:=a6.unpinned;refine ⟨_,_,c6.turned (it:=C) (t':=a5.toks) (λ b o hb e=>c5.extBut b o hb e) a4 c1 (.inr (U2 y.sz E)) (λ x c e S=>?_) (λ p n S=>?_),b7 k a2⟩
 ·obtain ⟨v,o,c7,_⟩:=y.cell x c e;exact absurd (ZI c7) (by rw [S];exact wC.mpr E)
 ·have e:=(y.pin p n).1;exact absurd (ZI e) (by rw [S];exact wC.mpr E)
theorem SqT.keep {K:FrG}{H b:Hp}{a:Addr}{xs:List V}(s:Same H b)(h:SqT K H a xs):SqT K b a xs:=by
 rcases h with (h | ⟨o,h⟩) | h
 ·exact .inl (.inl (s _ _ h))
 ·exact .inl (.inr ⟨o,s _ _ h⟩)
 ·exact .inr h
theorem SqL.keep {K:FrG}{H b:Hp}{a:Addr}{xs:List V}(s:Same H b)(h:SqL K H a xs):SqL K b a xs:=s.seq h
mutual
theorem DV.keep {K:FrG}{H a:Hp}(s:Same H a):∀{v:V} {d:WH},DV K H v d->DV K a v d
 | _,_,.non=>.non
 | _,_,.bl b=>.bl b
 | _,_,.int i=>.int i
 | _,_,.str x=>.str x
 | _,_,.lst h q=>.lst (h.keep s) (DVs.keep s q)
 | _,_,.tup h q=>.tup (h.keep s) (DVs.keep s q)
 | _,_,.dct h=>.dct (s _ _ h)
theorem DVs.keep {K:FrG}{H a:Hp}(s:Same H a):∀{vs:List V} {ds:List WH},DVs K H vs ds->DVs K a vs ds
 | _,_,.nil=>.nil
 | _,_,.cons h q=>.cons (DV.keep s h) (DVs.keep s q)
end
section
variable {K:FrG}{H:Hp}{v:V}{vs:List V}{d d1 d2 d3 d4:WH}{ds:List WH}
theorem DVs.len:∀{vs:List V} {ds:List WH},DVs K H vs ds->vs.length=ds.length
 | _,_,.nil=>rfl
 | _,_,.cons _ q=>by rw [U1,U1,DVs.len q]
theorem DVs.cons_of (h:DVs K H vs (d::ds)):∃x xs,vs=x::xs/\DV K H x d/\DVs K H xs ds:=by
 cases h with
 | cons h q=>exact ⟨_,_,rfl,h,q⟩
theorem DV.tup_of (h:DV K H v (.tuple ds)):∃a xs,v=.ref a/\SqT K H a xs/\DVs K H xs ds:=by
 cases h with
 | tup h q=>exact ⟨_,_,rfl,h,q⟩
theorem DV.lst_of (h:DV K H v (.list ds)):∃a xs,v=.ref a/\SqL K H a xs/\DVs K H xs ds:=by
 cases h with
 | lst h q=>exact ⟨_,_,rfl,h,q⟩
theorem DVs.one (h:DVs K H vs [d1]):∃x,vs=[x]/\DV K H x d1:=by
 cases h with
 | cons h q=>cases q;exact ⟨_,rfl,h⟩
theorem DVs.two (h:DVs K H vs [d1,d2]):∃x a,vs=[x,a]/\DV K H x d1/\DV K H a d2:=by
 cases h with
 | cons h q=>
  obtain ⟨a,rfl,b⟩:=q.one;exact ⟨_,_,rfl,h,b⟩
theorem DVs.three (h:DVs K H vs [d1,d2,d3]):∃x a b,vs=[x,a,b]/\DV K H x d1/\DV K H a d2/\DV K H b d3:=by
 cases h with
 | cons h q=>
  obtain ⟨a,b,rfl,c,e⟩:=q.two;exact ⟨_,_,_,rfl,h,c,e⟩
theorem DV.t2 (h:DV K H v (.tuple [d1,d2])):∃a x b,v=.ref a/\SqT K H a [x,b]/\DV K H x d1/\DV K H b d2:=by
 obtain ⟨a,xs,rfl,ha,q⟩:=h.tup_of;obtain ⟨x,b,rfl,c,e⟩:=q.two;exact ⟨a,x,b,rfl,ha,c,e⟩
theorem DV.t3 (h:DV K H v (.tuple [d1,d2,d3])):∃a x b c,v=.ref a/\SqT K H a [x,b,c]/\DV K H x d1/\DV K H b d2/\DV K H c d3:=by
 obtain ⟨a,xs,rfl,ha,q⟩:=h.tup_of;obtain ⟨x,b,c,rfl,e,f,g⟩:=q.three;exact ⟨a,x,b,c,rfl,ha,e,f,g⟩
theorem DV.int_of {i:Int}(h:DV K H v (.int i)):v=.int i:=by cases h;rfl
theorem DV.str_of {x:Str}(h:DV K H v (.str x)):v=.str x:=by cases h;rfl
theorem DV.bl_of {b:Bool}(h:DV K H v (.bool b)):v=.bl b:=by cases h;rfl
theorem DVs.get:∀{vs:List V} {ds:List WH} {i:Nat} {v:V},DVs K H vs ds->vs[i]?=some v->∃d,ds[i]?=some d/\DV K H v d
 | _,_,_,_,.nil,e=>by simp at e
 | _,_,0,_,.cons h _,e=>by simp at e;subst e;exact ⟨_,rfl,h⟩
 | _,_,i+1,v,.cons _ q,e=>by
  obtain ⟨d,a,b⟩:=DVs.get (i:=i) (v:=v) q (by simpa using e)
  exact ⟨d,by simpa using a,b⟩
theorem DVs.append:∀{vs a:List V} {ds b:List WH},DVs K H vs ds->DVs K H a b->DVs K H (vs++a) (ds++b)
 | _,_,_,_,.nil,q=>q
 | _,_,_,_,.cons h t,q=>.cons h (DVs.append t q)
end
def Gu:WH->String
 | .none=>"NoneType"
 | .bool _=>"bool"
 | .int _=>"int"
 | .str _=>"str"
 | .list _=>"list"
 | .tuple _=>"tuple"
 | .dict _=>"dict"
section
variable {X:Cx}
theorem Dh:CallR X (.builtin "isinstance") (λ xs H Q=>∃x d c b,xs=[x,.ty c]/\DV X.K H x d/\Be (Gu d) c=some b/\Q (.bl b) H):=by
 intro k s m H xs us Q j r h;obtain ⟨x,d,c,b,rfl,hd,e,q⟩:=h;obtain ⟨u,v,rfl,f,l⟩:=vals2 r;cases (show v=yv c from l)
 have g:=iI (K:=X.K) e;refine zq j.tk ?_;have a:∀tk,1<=tk->EP X k m Q (.bool b) { s with toks:=tk }:=λ tk t=>⟨.bl b,H,j.tok _,rfl,q⟩
 cases hd with
 | non=>exact JD j f .non g a
 | bl b=>exact JD j f (.bl b) g a
 | int i=>exact JD j f (.int i) g a
 | str x=>exact JD j f (.str x) g a
 | lst h _=>
  cases f
  obtain ⟨its,l,⟨o,n,e1,e2,_⟩,_⟩:=j.list h;exact UO wL j.kIn ⟨o,e1,e2⟩ g (λ p=>nomatch p) a
 | tup h _=>
  cases f
  obtain ⟨its,l,⟨o,e1,e2,_⟩,_⟩:=j.tuple h;exact UO Fu j.kIn ⟨o,e1,e2⟩ g (λ p=>nomatch p) a
 | dct h=>exact JD j f (.dK h) g a
end
section
variable {X:Cx}{K:FrG}
theorem jK (a:X.K=K:=by rfl):IxR X (rIxL K):=a▸Ay
end
def JK (K:FrG)(a:Addr):It:=
 ⟨λ i H=>∃xs x,SqL K H a xs/\xs[i]?=some x,λ i H x b=>∃p v,H p=none/\x=.ref p/\(∀xs,SqL K H a xs->xs[i]?=some v)/\b=upd H p (.tup [.int i,v]),λ i H=>∃xs,SqL K H a xs/\xs.length<=i⟩
theorem jD {P:Yg}{w:World}{K:FrG}{J:List Expr}{x1}{L:Pos}(a e it:Addr)(G:e≠it):Turn P w K (.Tuple J x1 L) (JK K a) [e,it] e (λ i h=>(∃g,IsEnum h e it (i:Int) g)/\h.IsListIter it a i) where
 mem:=by simp
 obj:=λ i h ⟨⟨g,st⟩,b0,b1,c5,d'⟩ b hb=>by
  rcases ZT.mp hb with d | d
  ·subst d;exact ⟨_,st,λ v q=>by cases q⟩
  ·have d:b=it:=by simpa using d
   subst d;exact ⟨b0,b1,λ v q=>by rw [d'] at q;cases q⟩
 keep:=λ i h h' ⟨⟨g,st⟩,j⟩ k=>⟨⟨g,k e (by simp) _ st⟩,j.at λ o q=>k it (by simp) o q⟩
 item:=by
  intro X M N O Z i t s a0 H E A hf ⟨⟨g,st⟩,j⟩ Q;subst M N O;obtain ⟨xs,x,B,R⟩:=Q;obtain ⟨its,S,p,b2⟩:=A.list B;obtain ⟨u,b3,b4⟩:=S.get R;obtain ⟨a1,a2,c6,b5,b6,b7⟩:=hf e (by simp)
  obtain ⟨C,D,b8,T,U,V⟩:=hf it (by simp)
  refine wpAny_pyNext_enum_item st j p.isList (x:=u) (by simpa using b3) G λ c7 a3 W a4 c4 a5=>?_
  refine ⟨_,rfl,?_⟩;refine wpAny_letOwnedTupleGo_enum a3 λ Y a6 y=>?_
  have z:∀b o,s.heap.get? b=some o->b≠s.heap.objs.size:=λ b o q=>YO (ZI q)
  have k2:∀b o,b≠e->b≠it->s.heap.get? b=some o->Y.get? b=some o:=λ b o I a7 q=>y.extBut b o I (a5 b o I a7 q)
  have F:∀b o,H b=some o->b≠e/\b≠it:=λ b o q=>⟨(λ d=>by rw [d,a1] at q;cases q),λ d=>by rw [d,C] at q;cases q⟩
  have l:H s.heap.objs.size=none:=A.hok.fresh (YE _);have a8:Y.get? s.heap.objs.size=some { cls:=.type "tuple",data:=.seq #[.int i s.toks,u] }:=y.extBut _ _ (WB (ZI st)) a4;have c8:Inv X t a0 (upd H s.heap.objs.size (.tup [.int i,x])) { s with heap:=Y,toks:=s.toks+1 }:=by
   refine A.step (g':=s.gens) (d':=s.drawn) (ch:=[e,it]) (λ b hb=>?_) (λ b o _ _ f q n=>k2 b o (λ d=>f (by simp [d])) (λ d=>f (by simp [d])) q) (λ b o _ _ f q n=>⟨o.slots,k2 b o (λ d=>f (by simp [d])) (λ d=>f (by simp [d])) q⟩)
    (λ b o _ q n=>by rw [Ax (z b o q)];exact n) (λ b o f q=>⟨o,k2 b o (λ d=>f (by simp [d])) (λ d=>f (by simp [d])) q⟩)
    (λ b a9 q=>by rw [Ax (BZ q l)];exact q) (λ b o c9 q=>by rw [Ax (BZ q l)];exact q) (λ b ps q=>⟨#[],by rw [Ax (BZ q l),q];simp⟩) (λ m hm=>?_) (λ b o q=>?_) A.bare
   ·rcases ZT.mp hb with d | d
    ·subst d;exact ⟨b5,a2,b6,b7⟩
    ·have d:b=it:=by simpa using d
     subst d;exact ⟨T,D,U,V⟩
   ·obtain ⟨o,b9,c0,c1,r⟩:=hm;exact ⟨o,b9,c0,k2 _ o (WU a2) (WU D) c1,r⟩
   ·by_cases hb:b=s.heap.objs.size
    ·subst hb;rw [Aj] at q;cases q
     exact ⟨by show 2<=X2;decide,[.int i s.toks,u],.cons ⟨_,rfl⟩ (.cons b4 .nil),_,a8,rfl,_,rfl⟩
    ·rw [Ax hb] at q;refine (A.hok b o q).stay (λ c v f d=>k2 c v ?_ ?_ d) (λ c d=>by rw [Ax (BZ d l)];exact d) λ c a9 d=>by rw [Ax (BZ d l)];exact d
     ·rcases f with d | d
      ·rw [d];exact (F b o q).1
      ·exact (F c _ d).1
     ·rcases f with d | d
      ·rw [d];exact (F b o q).2
      ·exact (F c _ d).2
  refine ⟨.ref s.heap.objs.size,_,c8,rfl,⟨s.heap.objs.size,x,l,rfl,(λ a9 c2=>by rw [A.list_inj c2 B];exact R),rfl⟩,⟨⟨u,?_⟩,?_⟩,λ b hb=>?_⟩
  ·have d:((i+1:Nat):Int)=(i:Int)+1:=by push_cast;rfl
   rw [d];exact a6
  ·exact W.extBut y.extBut (WU G)
  ·rcases ZT.mp hb with d | d
   ·subst d;rw [Ax (z _ _ st)];exact a1
   ·have d:b=it:=by simpa using d
    subst d;obtain ⟨o,q,_⟩:=j;rw [Ax (z _ _ q)];exact C
 done:=by
  intro X M N O Z i t s a0 H E A hf ⟨⟨g,st⟩,j⟩ Q;subst M N O;obtain ⟨xs,B,R⟩:=Q;obtain ⟨its,S,p,b2⟩:=A.list B;obtain ⟨C,D,b8,T,U,V⟩:=hf it (by simp)
  have hl:=S.length;exact wpAny_pyNext_enum_end (A.ok.hd Z) st j p.isList (by simp;omega) λ h' c3=>⟨rfl,A.turned (t':=s.toks) (λ b o hb e=>c3 b o hb e) C D T U V⟩
 self:=λ _ _ _ _ _ ⟨⟨g,st⟩,_⟩ h=>wpAny_pyIter_enum st h
section
variable {X:Cx}{elts:List Expr}{x1:Nat}{tpos:Pos}
def nG (K:FrG)(c:TA):TI:=λ d H e=>c d H λ vs b=>∃a,vs=[.ref a]/\(∃xs,SqL K b a xs)/\e (JK K a) b
theorem rO {a:Expr}{g:TA}{p pos:Pos}(m:Gl X "enumerate")(hm:X.mg "enumerate"=none)(ha:PA X [a] g)(n:YM [a] X.env=[(false,eval a X.env)]:=by rfl):PI X (.Tuple elts x1 tpos) (.Call (.Name "enumerate" p) [a] [] pos) (nG X.K g):=by
 intro f s i H C z h;refine Call_ (HR z m hm boot_enumerate (zr (thn (ha pos f s i H _ z h) λ us c ⟨vs,j,d,o,t⟩=>?_) n rfl))
 obtain ⟨a,e,⟨xs,v⟩,q⟩:=t;subst e;obtain ⟨u,rfl,r⟩:=vals1 o;cases r
 obtain ⟨its,A,p,B⟩:=d.list v;refine call_enumerate_list p.isList λ h' k w hsz x=>?_
 have y:Inv X f i j { c with heap:=h' }:=d.kept (t':=c.toks) x
 refine wpAny_pyIter_enum k ⟨c.heap.objs.size+1,[c.heap.objs.size+1,c.heap.objs.size],_,_,j,rfl,y,jD a _ _ (Nat.succ_ne_self _),⟨⟨_,k⟩,w⟩,λ b hb=>?_,q⟩
 rcases ZT.mp hb with l | l
 ·subst l;exact d.fpOk (xa _) (d.hok.fresh (xa _))
 ·have l:b=c.heap.objs.size:=by simpa using l
  subst l;exact d.fpOk (YE _) (d.hok.fresh (YE _))
end
theorem lX {K:FrG}{a:Addr}{xs:List V}{A:TG}{l:TS}{k:Ends}{b:St}{H:Hp}(c:Nat->St->Hp->Prop)(s:c 0 b H)(hl:∀i b H,i<=xs.length->c i b H->SqL K H a xs)
  (t:∀i x b H p,xs[i]?=some x->c i b H->H p=none->A (.ref p) b (upd H p (.tup [.int i,x])) λ f j=>l { k with nx:=c (i+1),ct:=c (i+1),bk:=k.nx } f j) (hd:∀b H,c xs.length b H->k.nx b H):
  ∃u:Nat->Nat->St->Hp->Prop,(∃m,u 0 m b H)/\∀i m b H,u i m b H->
   ((JK K a).stop i H/\k.nx b H)\/((JK K a).go i H/\∃N:St->Hp->Prop,(∀g d,N g d->∃o,o < m/\u (i+1) o g d)/\∀x d,(JK K a).yld i H x d->A x b d λ f j=>l { k with nx:=N,ct:=N,bk:=k.nx } f j):=by
 refine ⟨λ i m b H=>m=xs.length - i/\i<=xs.length/\c i b H,⟨xs.length,by simp,JI _,s⟩,?_⟩
 rintro i m b H ⟨rfl,w,p⟩
 have q:=hl i b H w p;by_cases h:i < xs.length
 ·refine .inr ⟨⟨xs,xs[i],q,by simp [h]⟩,c (i+1),λ g d y=>⟨xs.length - (i+1),by omega,rfl,h,y⟩,λ x d z=>?_⟩
  obtain ⟨r,v,n,rfl,z,rfl⟩:=z;exact t i v b H r (z xs q) p n
 ·have e:i=xs.length:=by omega
  subst e;exact .inl ⟨⟨xs,q,YE _⟩,hd b H p⟩
def Nx (n:Nat)(b:Nat->St->List V->Hp->Prop)(i:Nat)(c:St)(d:List V)(H:Hp):Prop:=∃a,a < n - i/\(a=n - (i+1)/\i+1<=n/\b (i+1) c d H)
theorem nx {n:Nat}{a:Nat->St->List V->Hp->Prop}{i:Nat}{b:St}{c:List V}{H:Hp}(d:i < n)(h:a (i+1) b c H):Nx n a i b c H:=⟨n - (i+1),by omega,rfl,d,h⟩
theorem Cg {a:Type}{xs:List a}{i:Nat}{x:a}(h:xs[i]?=some x):i < xs.length:=(UE.mp h).1
theorem rW {K:FrG}{a:Addr}{xs:List V}{z:TG}{tt:TT}{j:TE}{Q:VK}{d:St}{H:Hp}(f:Nat->St->List V->Hp->Prop)(s:f 0 d [] H)(t:∀i d c H,i<=xs.length->f i d c H->c.length<=X2/\SqL K H a xs)
  (u:∀i x d c H,xs[i]?=some x->f i d c H->z x d H λ g v=>tt g v λ b k=>if b=true then j g k λ l w=>Nx xs.length f i g (c++[l]) w else Nx xs.length f i g c k)
  (hd:∀d c H p,f xs.length d c H->H p=none->Q (.ref p) (upd H p (.lst c))):
  Fe z tt j (Itl K a) d H Q:=by
 refine ⟨λ i m d c H=>m=xs.length - i/\i<=xs.length/\f i d c H,⟨xs.length,by simp,JI _,s⟩,?_⟩
 rintro i m h c H ⟨rfl,y,p⟩
 obtain ⟨A,q⟩:=t i h c H y p;refine ⟨A,?_⟩;by_cases o:i < xs.length
 ·refine .inr ⟨⟨xs,xs[i],q,by simp [o]⟩,λ x B l=>?_⟩
  obtain ⟨rfl,l⟩:=l;exact u i x h c _ (l xs q) p
 ·have e:i=xs.length:=by omega
  subst e;exact .inl ⟨⟨xs,q,YE _⟩,λ r n=>hd h c _ r p n⟩
theorem pH {K:FrG}{a:Addr}{xs:List V}{z:TG}{tt:TT}{j:TE}{Q:VK}{d:St}{H:Hp}(f:Nat->St->List V->Hp->Prop)(s:f 0 d [] H)(t:∀i d c H,i<=xs.length->f i d c H->c.length<=X2/\SqT K H a xs)
  (u:∀i x d c H,xs[i]?=some x->f i d c H->z x d H λ g v=>tt g v λ b k=>if b=true then j g k λ l w=>Nx xs.length f i g (c++[l]) w else Nx xs.length f i g c k)
  (hd:∀d c H p,f xs.length d c H->H p=none->Q (.ref p) (upd H p (.lst c))):
  Fe z tt j (Itt K a) d H Q:=by
 refine ⟨λ i m d c H=>m=xs.length - i/\i<=xs.length/\f i d c H,⟨xs.length,by simp,JI _,s⟩,?_⟩
 rintro i m h c H ⟨rfl,y,p⟩
 obtain ⟨A,q⟩:=t i h c H y p;refine ⟨A,?_⟩;by_cases o:i < xs.length
 ·refine .inr ⟨⟨xs,xs[i],q,by simp [o]⟩,λ x B l=>?_⟩
  obtain ⟨rfl,l⟩:=l;exact u i x h c _ (l xs q) p
 ·have e:i=xs.length:=by omega
  subst e;exact .inl ⟨⟨xs,q,YE _⟩,λ r n=>hd h c _ r p n⟩
theorem sI {lo:Int}{n:Nat}{w:TG}{tt:TT}{j:TE}{Q:VK}{c:St}{H:Hp}(d:Nat->St->List V->Hp->Prop)(l:d 0 c [] H)(o:∀i c a H,i<=n->d i c a H->a.length<=X2)
  (q:∀i c a H,i < n->d i c a H->w (.int (lo+i)) c H λ f s=>tt f s λ b k=>if b=true then j f k λ t u=>Nx n d i f (a++[t]) u else Nx n d i f a k)
  (hd:∀c a H p,d n c a H->H p=none->Q (.ref p) (upd H p (.lst a))):
  Fe w tt j (Itr lo n) c H Q:=by
 refine ⟨λ i m c a H=>m=n - i/\i<=n/\d i c a H,⟨n,by simp,JI _,l⟩,?_⟩
 rintro i m g a H ⟨rfl,v,p⟩
 refine ⟨o i g a H v p,?_⟩;by_cases h:i < n
 ·refine .inr ⟨h,λ x y t=>?_⟩
  obtain ⟨rfl,rfl⟩:=t;exact q i g a _ h p
 ·have e:i=n:=by omega
  subst e;exact .inl ⟨YE _,λ r n=>hd g a _ r p n⟩
theorem HH {K:FrG}{a:Addr}{xs:List V}{o:TG}{f:TE}{Q:VK}{b:St}{H:Hp}(d:Nat->St->List V->Hp->Prop)(g:d 0 b [] H)(h:∀i b c H,i<=xs.length->d i b c H->c.length<=X2/\SqL K H a xs)
  (j:∀i x b c H,xs[i]?=some x->d i b c H->o x b H λ e k=>f e k λ q l=>Nx xs.length d i e (c++[q]) l)
  (hd:∀b c H p,d xs.length b c H->H p=none->Q (.ref p) (upd H p (.lst c))):Fe o Gd f (Itl K a) b H Q:=
 rW d g h (λ i x b c H m n=>by
  have:=j i x b c H m n
  simpa only [Gd,if_true] using this) hd
theorem S7 {K:FrG}{a:Addr}{xs:List V}{o:TG}{f:TE}{Q:VK}{b:St}{H:Hp}(d:Nat->St->List V->Hp->Prop)(g:d 0 b [] H)(h:∀i b c H,i<=xs.length->d i b c H->c.length<=X2/\SqT K H a xs)
  (j:∀i x b c H,xs[i]?=some x->d i b c H->o x b H λ e k=>f e k λ q l=>Nx xs.length d i e (c++[q]) l)
  (hd:∀b c H p,d xs.length b c H->H p=none->Q (.ref p) (upd H p (.lst c))):Fe o Gd f (Itt K a) b H Q:=
 pH d g h (λ i x b c H m n=>by
  have:=j i x b c H m n
  simpa only [Gd,if_true] using this) hd
theorem pG {lo:Int}{n:Nat}{o:TG}{e:TE}{Q:VK}{a:St}{H:Hp}(c:Nat->St->List V->Hp->Prop)(f:c 0 a [] H)(g:∀i a b H,i<=n->c i a b H->b.length<=X2)
  (h:∀i a b H,i < n->c i a b H->o (.int (lo+i)) a H λ d j=>e d j λ q k=>Nx n c i d (b++[q]) k)
  (hd:∀a b H p,c n a b H->H p=none->Q (.ref p) (upd H p (.lst b))):Fe o Gd e (Itr lo n) a H Q:=
 sI c f g (λ i a b H l m=>by
  have:=h i a b H l m
  simpa only [Gd,if_true] using this) hd
theorem FZ {a:List (Option Nat)}{P:Nat->Nat->Prop}(h:a.all (·.isNone)=true):∀i j,a[i]?=some (some j)->P i j:=λ i j e=>by
 have:=zX.mp h _ (Xb e);cases this
theorem RoomB.room {k:Nat}{A:XE}(r:RoomB true k A):Room k A:=⟨r.hd rfl,r.dp,r.un⟩
structure MC (P:Yg)(w:World)(K:FrG)(mg:Str->Option Value)(base:Heap)(k:Nat)(C:Addr)(m:Str)(ps:List Str)(sp:Sp):Prop where
 ex:∃(f:Addr) (fd:JN),FnB P w K mg base true k f fd ps sp/\Meth K C m f/\Binds K fd ps []
 cl:Cls K C
structure MtFn (K:FrG)(C:Addr)(m qual:Str)(st:Stmt):Prop where
 ex:∃(f:Addr) (fd:JN),Fun K m qual st f fd/\Meth K C m f
 cl:Cls K C
theorem MtFn.mc {P:Yg}{w:World}{K:FrG}{mg:Str->Option Value}{base:Heap}{C:Addr}{m a:Str}{st:Stmt}{N ps:List Str}{k:Nat}{sp:Sp}(T:MtFn K C m a st)(r:FnScope N ps (defScope st))
  (hb:∀(kV c d:Value) (e:Option Addr) (cdv ct:Value) (us:List Value),us.length=ps.length->yR (YR m a (defArgs st) (defBody st) (defScope st) .none kV c d e cdv ct) ⟨us,[]⟩=pure (ps.zip us))
  (len:∀vs H Q E,sp vs H Q E->vs.length=ps.length)
  (b:∀(f:Addr) (cdv:Value) (A:XE) (outer:List Env) (s:X1) (H:Hp) (vs:List V) (Q:VK) (E:XK),RoomB true k (A.deeper (yC a (defScope st) s.heap.objs.size f cdv))->sp vs H Q E->
   ∃t,PSs (Cd true P w K mg base N a (defScope st) f cdv A outer s H E).nox (defBody st) t/\t { nx:=λ _ g=>Q .non g,rt:=Q } (start N vs) H):MC P w K mg base (k+1) C m ps sp:=by
 obtain ⟨f,fd,p,hm⟩:=T.ex;obtain ⟨u,v,kV,c,d,e,cdv,ct,q,rfl,l,i⟩:=id p.ex;refine ⟨⟨f,_,Gn l i r len λ A outer s H vs Q E j h=>?_,hm,p.binds hb⟩,T.cl⟩
 obtain ⟨t,n,o⟩:=b f cdv A outer s H vs Q E j h;exact ⟨t,n.nox,o⟩
structure MkC (P:Yg)(w:World)(K:FrG)(mg:Str->Option Value)(base:Heap)(k:Nat)(x:Str)(C:Addr)(ps:List Str)(sp:Sp):Prop where
 ex:∃(f:Addr) (fd:JN),FnB P w K mg base true k f fd ps sp/\Mk K C f/\Binds K fd ps []
 mg:mg x=some (.ref C)
structure MkFn (K:FrG)(mg:Str->Option Value)(x:Str)(C:Addr)(qual:Str)(st:Stmt):Prop where
 ex:∃(f:Addr) (fd:JN),Fun K "__init__" qual st f fd/\Mk K C f
 mg:mg x=some (.ref C)
theorem MkFn.mkc {P:Yg}{w:World}{K:FrG}{mg:Str->Option Value}{base:Heap}{x:Str}{C:Addr}{a:Str}{st:Stmt}{N ps:List Str}{k:Nat}{sp:Sp}(T:MkFn K mg x C a st)(q:FnScope N ps (defScope st))
  (hb:∀(kV c d:Value) (e:Option Addr) (cdv ct:Value) (us:List Value),us.length=ps.length->yR (YR "__init__" a (defArgs st) (defBody st) (defScope st) .none kV c d e cdv ct) ⟨us,[]⟩=pure (ps.zip us))
  (len:∀vs H Q E,sp vs H Q E->vs.length=ps.length)
  (b:∀(f:Addr) (cdv:Value) (A:XE) (outer:List Env) (s:X1) (H:Hp) (vs:List V) (Q:VK) (E:XK),RoomB true k (A.deeper (yC a (defScope st) s.heap.objs.size f cdv))->sp vs H Q E->
   ∃t,PSs (Cd true P w K mg base N a (defScope st) f cdv A outer s H E).nox (defBody st) t/\t { nx:=λ _ g=>Q .non g,rt:=Q } (start N vs) H):MkC P w K mg base (k+1) x C ps sp:=by
 obtain ⟨f,fd,o,hm⟩:=T.ex;obtain ⟨r,u,kV,c,d,e,cdv,ct,p,rfl,l,i⟩:=id o.ex;refine ⟨⟨f,_,Gn l i q len λ A outer s H vs Q E j h=>?_,hm,o.binds hb⟩,T.mg⟩
 obtain ⟨t,m,n⟩:=b f cdv A outer s H vs Q E j h;exact ⟨t,m.nox,n⟩
section
variable {X:Cx}{k:Nat}{C:Addr}{ps:List Str}{sp:Sp}{x m:Str}{p pos apos:Pos}{e o:Expr}{es:List Expr}{ta:TE}{t:TA}
def Xo (P:Yg)(w:World)(K:FrG)(mg:Str->Option Value)(base:Heap)(k:Nat)(m:Str)(ta:TE)(t:TA):TE:=λ b H Q=>ta b H λ x c=>∃a C dx fs ps sp,x=.ref a/\c a=some (.ins C dx fs)/\fs.lookup m=none/\
 MC P w K mg base k C m ps sp/\t b c λ vs d=>sp (x::vs) d Q E0
theorem Cr {pl:Sem Bool}(v:PE X o ta)(y:RoomB true k X.A)(ha:PA X (e::es) t)
  (c:YM (e::es) X.env=(false,eval e X.env)::YM es X.env:=by rfl) (d:(QK pos (YM es X.env)).any (·.1)=false:=by rfl)
  (ht:eval (.Call (.Attribute o m apos) (e::es) [] pos) X.env=(do
   let g <- eval o X.env
   GP apos.atName
   let (f,first) <- wh [g] (jo g m pl)
   GN pos f first (QK pos (YM (e::es) X.env)) (wG pos (yD [] X.env))):=by rfl):
  PE X (.Call (.Attribute o m apos) (e::es) [] pos) (Xo X.prog X.w X.K X.mg X.base k m ta t):=by
 intro b s i H Q I h;refine yp (pl:=pl) (thn (v b s i H _ I h) λ u z ⟨x,B,j,D,a,C,dx,fs,ps,sp,ex,F,l,M,q⟩=>?_) ht
 subst ex;obtain rfl:u=YI a:=D;obtain ⟨f,fd,J,hm,hb⟩:=M.ex;refine Jd j F M.cl hm l ?_;refine JJ (first:=[.ref a]) (h₀:=X.base) I.ok.mod.kin hm.kp (thn (ha pos b z i B _ j q) λ us L ⟨vs,N,n,r,G⟩=>⟨n.kIn,?_⟩) c d
 exact QS (us:=.ref a::us) (vs:=.ref a::vs) (dvs:=[]) (ds:=[]) (E:=E0) J.ok y.room hb .nil Aw n (.cons rfl r) (by rw [UB];exact G)
theorem GR {pl:Sem Bool}(g:PE X o ta)(i:RoomB true k X.A)
  (ht:eval (.Call (.Attribute o m apos) [] [] pos) X.env=(do
   let d <- eval o X.env
   GP apos.atName
   let (f,first) <- wh [d] (jo d m pl)
   GN pos f first (QK pos (YM [] X.env)) (wG pos (yD [] X.env))):=by rfl):
  PE X (.Call (.Attribute o m apos) [] [] pos) (Xo X.prog X.w X.K X.mg X.base k m ta tNil):=by
 intro b s j H Q v h;refine yp (pl:=pl) (thn (g b s j H _ v h) λ u y ⟨x,z,c,n,a,C,dx,fs,ps,sp,ex,r,l,M,q⟩=>?_) ht
 subst ex;obtain rfl:u=YI a:=n;obtain ⟨f,fd,B,hm,hb⟩:=M.ex;refine Jd c r M.cl hm l ?_;exact xX (first:=[.ref a]) c.kIn hm.kp (QS (us:=[.ref a]) (vs:=[.ref a]) (dvs:=[]) (ds:=[]) (E:=E0) B.ok i.room hb .nil Aw c (.cons rfl .nil) q)
theorem qx (M:MkC X.prog X.w X.K X.mg X.base k x C ps sp)(c:RoomB true (k+1) X.A)(ha:PA X (e::es) t)(d:Gl X x:=by rfl)(a:(x == ("__debug__":Str))=false:=by decide)
  (g:YM (e::es) X.env=(false,eval e X.env)::YM es X.env:=by rfl) (b:(QK pos (YM es X.env)).any (·.1)=false:=by rfl):
  PE X (.Call (.Name x p) (e::es) [] pos) (tMake C sp [] E0 t):=by
 obtain ⟨f,fd,h,hm,hb⟩:=M.ex;exact qG hm h.ok c.room d M.mg hb .nil Aw ha a g b
theorem Ek {f:Str}(a:PE X e ta)(hb:yn e f X.env (eval e X.env)=eval e X.env:=by rfl):PE X (.Attribute e f pos) (tFld X.K ta f):=qM a hb
theorem SJ {f:Str}{b:Pos}{a:Expr}{c:TE}(ha:PE X o ta)(hv:PE X a c)(d:xf a (some (.Attribute o f b)) pos.line X.env=pure false:=by rfl):PS X (.Assign [.Attribute o f b] a pos) (sFld X.K ta c f):=uc ha hv d
end
end L2
namespace Fr
theorem ZR {r:Rat}{t b:Int}(h:b≠0)(e:r=WS t b):r.num.natAbs<=t.natAbs/\r.den<=b.natAbs:=by
 subst e;have a:=rn t b h;have c:=gY (t:=t) h;rw [Jm h] at a;rw [PQ h,ze] at c;exact ⟨a,c⟩
structure Bd (k:Nat)(q:Rat):Prop where
 n:q.num.natAbs < 2 ^ k
 d:q.den < 2 ^ k
theorem Fp {m n:Nat}(h:m<=n):2 ^ m<=2 ^ n:=xK (by decide) h
theorem Bd.mono {m n:Nat}{q:Rat}(h:Bd m q)(le:m<=n):Bd n q:=⟨W1 h.n (Fp le),W1 h.d (Fp le)⟩
theorem Bd.of {n:Nat}{t b:Int}(a:b≠0)(ht:t.natAbs < 2 ^ n)(hb:b.natAbs < 2 ^ n):Bd n (WS t b):=by
 obtain ⟨c,d⟩:=ZR a (rfl:WS t b=WS t b);exact ⟨by omega,by omega⟩
theorem ji {a b m n:Nat}(ha:a < 2 ^ m)(hb:b < 2 ^ n):a * b < 2 ^ (m+n):=by
 rw [Nat.pow_add];exact Nat.mul_lt_mul'' ha hb
theorem HS {x c:Int}{m n:Nat}(a:x.natAbs < 2 ^ m)(b:c.natAbs < 2 ^ n):(x * c).natAbs < 2 ^ (m+n):=by
 rw [xq];exact ji a b
theorem jT {x a:Int}{n:Nat}(b:x.natAbs < 2 ^ n)(c:a.natAbs < 2 ^ n):(x+a).natAbs < 2 ^ (n+1):=by
 have:=Int.natAbs_add_le x a;rw [FK];omega
theorem qQ {x a:Int}{n:Nat}(b:x.natAbs < 2 ^ n)(c:a.natAbs < 2 ^ n):(x - a).natAbs < 2 ^ (n+1):=by
 rw [FK];omega
theorem Bd.dn {n:Nat}{q:Rat}(h:Bd n q):((q.den:Int)).natAbs < 2 ^ n:=by rw [ze];exact h.d
theorem Y9 (p q:Rat):(p.den:Int) * (q.den:Int)≠0:=Int.mul_ne_zero (HF p) (HF q)
section
variable {m n:Nat}{p q:Rat}(hp:Bd m p)(hq:Bd n q)
include hp hq
theorem Bd.add:Bd (m+n+1) (p+q):=by
 rw [<- Xi];refine Bd.of (Y9 p q) (jT (HS hp.n hq.dn) ?_) (W1 (HS hp.dn hq.dn) (Fp (by omega)))
 have:=HS hq.n hp.dn;rw [wc m n];exact this
theorem Bd.sub:Bd (m+n+1) (p - q):=by
 rw [<- jX];refine Bd.of (Y9 p q) (qQ (HS hp.n hq.dn) ?_) (W1 (HS hp.dn hq.dn) (Fp (by omega)))
 have:=HS hq.n hp.dn;rw [wc m n];exact this
end
end Fr
namespace Op
open Fr
inductive Pc where
 | gap (d:Rat)
 | glass (p:Rat)
 | stop (lo hi:Rat)
abbrev eF:=Rat×Rat
def Pc.lets:Pc->eF->Bool
 | .stop lo a,r=>!decide (r.1 < lo) && !decide (a < r.1)
 | _,_=>true
def Pc.ok:Pc->Prop
 | .stop lo a=>¬ a < lo
 | _=>True
def Pc.bd (m:Nat):Pc->Prop
 | .gap d=>Bd m d
 | .glass p=>Bd m p
 | .stop lo a=>Bd m lo/\Bd m a
end Op
namespace Lib
open PySem L2 Fr Op
def BK (q:Rat):WH:=.tuple [.int q.num,.int (q.den:Int)]
def Bv:Pc->WH
 | .gap d=>.tuple [.str "gap",BK d]
 | .glass p=>.tuple [.str "glass",BK p]
 | .stop lo a=>.tuple [.str "stop",BK lo,BK a]
def Fx (ps:List Pc):WH:=.list (ps.map Bv)
section
variable {K:FrG}{H:Hp}{v:V}
theorem _root_.L2.DV.fr {q:Rat}(h:DV K H v (BK q)):∃a,v=.ref a/\SqT K H a [.int q.num,.int (q.den:Int)]:=by
 obtain ⟨a,x,d,rfl,ha,b,c⟩:=DV.t2 h;rw [b.int_of,c.int_of] at ha;exact ⟨a,rfl,ha⟩
theorem uR {q:Rat}{a:Addr}(h:SqT K H a [.int q.num,.int (q.den:Int)]):DV K H (.ref a) (BK q):=.tup h (.cons (.int _) (.cons (.int _) .nil))
theorem TV {t b:Int}{p:Addr}(a:b≠0):DV K (upd H p (.tup [.int (Fr.lt t b),.int (Fr.lb t b)])) (.ref p) (BK (WS t b)):=by
 rw [qD a];exact uR (SqT.of Aj)
end
theorem _root_.Fr.Bd.sm {n:Nat}{q:Rat}(h:Bd n q)(hn:n<=4000):Sm q:=⟨W1 h.n (by unfold CZ;exact Fp hn),W1 h.d (by unfold CZ;exact Fp hn)⟩
mutual
def Gf:WH->Bool
 | .list _=>false
 | .dict _=>false
 | .tuple ds=>G9 ds
 | .none=>true
 | .bool _=>true
 | .int _=>true
 | .str _=>true
def G9:List WH->Bool
 | []=>true
 | d::ds=>Gf d && G9 ds
end
def Ex (H a:Hp):Prop:=∀b xs,(H b=some (.tup xs)->a b=some (.tup xs))/\∀o,H b=some (.frz o (.tup xs))->a b=some (.frz o (.tup xs))
theorem Z3 {H:Hp}{l:Addr}{xs:List V}(h:H l=some (.lst xs))(o:HO):Ex H (upd H l o):=λ b c=>⟨λ e=>by rw [Ax (λ a=>by rw [a,h] at e;cases e)];exact e,λ o e=>by rw [Ax (λ a=>by rw [a,h] at e;cases e)];exact e⟩
mutual
theorem Ma {K:FrG}{H a:Hp}(s:Ex H a):∀{v:V} {d:WH},Gf d=true->DV K H v d->DV K a v d
 | _,_,_,.non=>.non
 | _,_,_,.bl b=>.bl b
 | _,_,_,.int i=>.int i
 | _,_,_,.str x=>.str x
 | _,_,n,.lst h q=>nomatch n
 | _,_,n,.tup h q=>.tup (by
   rcases h with (h | ⟨o,h⟩) | h
   ·exact .inl (.inl ((s _ _).1 h))
   ·exact .inl (.inr ⟨o,(s _ _).2 o h⟩)
   ·exact .inr h) (Ep s n q)
 | _,_,n,.dct h=>nomatch n
theorem Ep {K:FrG}{H a:Hp}(s:Ex H a):∀{vs:List V} {ds:List WH},G9 ds=true->DVs K H vs ds->DVs K a vs ds
 | _,_,_,.nil=>.nil
 | _,_,n,.cons h q=>.cons (Ma s (by rw [G9] at n;exact (XY.mp n).1) h) (Ep s (by rw [G9] at n;exact (XY.mp n).2) q)
end
theorem Ew {a:Type}{f:a->WH}(h:∀x,Gf (f x)=true):∀l:List a,G9 (l.map f)=true
 | []=>rfl
 | x::l=>by rw [YV,G9,h x,Ew h l];rfl
theorem JV:∀p:Pc,Gf (Bv p)=true
 | .gap _=>rfl
 | .glass _=>rfl
 | .stop _ _=>rfl
def PR (K:FrG)(b:List WH->WH->Prop):Sp:=λ vs H Q _=>∃ds d,DVs K H vs ds/\b ds d/\∀v a,Same H a->DV K a v d->Q v a
def Zj (a:Rat->Rat->Rat):List WH->WH->Prop:=λ ds d=>∃p q,ds=[BK p,BK q]/\Sm p/\Sm q/\d=BK (a p q)
def WL:List WH->WH->Prop:=λ ds d=>∃p q,ds=[BK p,BK q]/\Sm p/\Sm q/\d=.bool (decide (p < q))
theorem DV.upd2 {K:FrG}{H:Hp}{r:Addr}{x f:V}{a b:WH}(c:H r=none)(d:DV K H x a)(e:DV K H f b):DV K (upd H r (.tup [x,f])) (.ref r) (.tuple [a,b]):=
 .tup (SqT.of Aj) (.cons (d.keep (Al c _)) (.cons (e.keep (Al c _)) .nil))
theorem DV.upd3 {K:FrG}{H:Hp}{r:Addr}{x h i:V}{b c d:WH}(a:H r=none)(e:DV K H x b)(f:DV K H h c)(g:DV K H i d):DV K (upd H r (.tup [x,h,i])) (.ref r) (.tuple [b,c,d]):=
 .tup (SqT.of Aj) (.cons (e.keep (Al a _)) (.cons (f.keep (Al a _)) (.cons (g.keep (Al a _)) .nil)))
def Gw:WH->Bool
 | .tuple [.int t,.int b]=>decide (1<=b) && decide (Fr.gcd t b=1)
 | _=>false
def Et:WH->Bool
 | .int _=>true
 | _=>false
def MK:WH->Bool
 | .tuple _=>true
 | _=>false
theorem Ww {d:WH}(h:Et d=true):∃i,d=.int i:=by
 cases d with
 | int i=>exact ⟨i,rfl⟩
 | _=>cases h
theorem dY {d:WH}(h:MK d=true):∃ds,d=.tuple ds:=by
 cases d with
 | tuple ds=>exact ⟨ds,rfl⟩
 | _=>cases h
theorem oW (d:WH):∃b c,Be (Gu d) "int"=some b/\Be (Gu d) "bool"=some c/\(b && !c)=Et d:=by
 cases d with
 | none=>exact ⟨false,false,by show Be "NoneType" "int"=_;decide+kernel,by show Be "NoneType" "bool"=_;decide+kernel,rfl⟩
 | bool b=>exact ⟨true,true,by show Be "bool" "int"=_;decide+kernel,by show Be "bool" "bool"=_;decide+kernel,rfl⟩
 | int i=>exact ⟨true,false,by show Be "int" "int"=_;decide+kernel,by show Be "int" "bool"=_;decide+kernel,rfl⟩
 | str x=>exact ⟨false,false,by show Be "str" "int"=_;decide+kernel,by show Be "str" "bool"=_;decide+kernel,rfl⟩
 | list xs=>exact ⟨false,false,by show Be "list" "int"=_;decide+kernel,by show Be "list" "bool"=_;decide+kernel,rfl⟩
 | tuple xs=>exact ⟨false,false,by show Be "tuple" "int"=_;decide+kernel,by show Be "tuple" "bool"=_;decide+kernel,rfl⟩
 | dict xs=>exact ⟨false,false,by show Be "dict" "int"=_;decide+kernel,by show Be "dict" "bool"=_;decide+kernel,rfl⟩
theorem QL (d:WH):Be (Gu d) "tuple"=some (MK d):=by
 cases d with
 | none=>show Be "NoneType" "tuple"=some false;decide+kernel
 | bool b=>show Be "bool" "tuple"=some false;decide+kernel
 | int i=>show Be "int" "tuple"=some false;decide+kernel
 | str x=>show Be "str" "tuple"=some false;decide+kernel
 | list xs=>show Be "list" "tuple"=some false;decide+kernel
 | tuple xs=>show Be "tuple" "tuple"=some true;decide+kernel
 | dict xs=>show Be "dict" "tuple"=some false;decide+kernel
def cC:WH->Bool
 | .list _=>true
 | _=>false
theorem qN (d:WH):Be (Gu d) "list"=some (cC d):=by
 cases d with
 | none=>show Be "NoneType" "list"=some false;decide+kernel
 | bool b=>show Be "bool" "list"=some false;decide+kernel
 | int i=>show Be "int" "list"=some false;decide+kernel
 | str x=>show Be "str" "list"=some false;decide+kernel
 | list xs=>show Be "list" "list"=some true;decide+kernel
 | tuple xs=>show Be "tuple" "list"=some false;decide+kernel
 | dict xs=>show Be "dict" "list"=some false;decide+kernel
def Io:WH->Bool
 | .str _=>true
 | _=>false
theorem bj {d:WH}(h:Io d=true):∃x,d=.str x:=by
 cases d with
 | str i=>exact ⟨i,rfl⟩
 | _=>cases h
theorem Eh (d:WH):Be (Gu d) "str"=some (Io d):=by
 cases d with
 | none=>show Be "NoneType" "str"=some false;decide+kernel
 | bool b=>show Be "bool" "str"=some false;decide+kernel
 | int i=>show Be "int" "str"=some false;decide+kernel
 | str x=>show Be "str" "str"=some true;decide+kernel
 | list xs=>show Be "list" "str"=some false;decide+kernel
 | tuple xs=>show Be "tuple" "str"=some false;decide+kernel
 | dict xs=>show Be "dict" "str"=some false;decide+kernel
theorem uJ {d:WH}(h:MK d=false):Gw d=false:=by
 cases d with
 | tuple ds=>cases h
 | _=>rfl
theorem gj {ds:List WH}(h:¬ ds.length=2):Gw (.tuple ds)=false:=by
 unfold Gw
 split
 ·rename_i t b e
  cases e
  exact absurd rfl h
 ·rfl
theorem Va {a c:WH}(h:Et a=false\/Et c=false):Gw (.tuple [a,c])=false:=by
 unfold Gw
 split
 ·rename_i t b e
  cases e
  rcases h with h | h<;>cases h
 ·rfl
def fM (K:FrG):Sp:=λ vs H Q _=>∃v d,vs=[v]/\DV K H v d/\Q (.bl (Et d)) H
def bK (K:FrG):Sp:=λ vs H Q _=>∃v d,vs=[v]/\DV K H v d/\Q (.bl (Gw d)) H
theorem Bu {b:Bool}{A a:Prop}(hb:b=true)(h:A):if b=true then A else a:=by rw [if_pos hb];exact h
theorem BX {b:Bool}{A a:Prop}(hb:b=false)(h:a):if b=true then A else a:=by rw [if_neg (by rw [hb];exact ZE)];exact h
theorem NB (n d:Nat):HT.sIx n d (some 1)=min 1 n:=HT.Er n d 1
theorem Pq (xs:List V):cutV xs (some 1) none=xs.drop 1:=by
 unfold cutV;rw [NB,HT.M9];cases xs with
 | nil=>rfl
 | cons x r=>
  rw [show min 1 (x::r).length=1 by simp only [U1];omega]
  exact JU (by simp)
theorem Bq (x a:Str):decide (V.str x=V.str a)=decide (x=a):=by
 by_cases h:x=a
 ·subst h;simp
 ·have:¬ V.str x=V.str a:=λ b=>h (V.str.inj b)
  rw [decide_eq_false h,decide_eq_false this]
structure Good (m:Nat)(ps:List Pc):Prop where
 len:ps.length<=60
 ok:∀p∈ps,p.ok
 bd:∀p∈ps,p.bd m
def nu (K:FrG):Sp:=λ vs H Q _=>∃v ps m,vs=[v]/\DV K H v (Fx ps)/\Good m ps/\m<=4000/\∀a,Same H a->Q .non a
theorem Im {ps:List Pc}{i:Nat}{d:WH}(h:(ps.map Bv)[i]?=some d):∃p,ps[i]?=some p/\d=Bv p:=by
 rw [YA] at h;cases e:ps[i]? with
 | none=>rw [e] at h;cases h
 | some p=>rw [e] at h;exact ⟨p,rfl,(UN h).symm⟩
theorem qJ (xs:List V)(lo a:Nat):(cutV xs (some (lo:Int)) (some (a:Int))).length<=a - lo:=by
 unfold cutV;rw [HT.Er,HT.Er,Uf];omega
theorem v7 (xs:List V)(a:Nat):(cutV xs none (some (a:Int))).length<=a:=by
 unfold cutV;rw [HT.Er,HT.M9,Uf];omega
theorem jE (q:Rat):BK (-q)=.tuple [.int (0 - q.num),.int (q.den:Int)]:=by
 unfold BK;rw [Rat.neg_num,Rat.neg_den,FI]
theorem fY (a:Str):(if false=true then !inV (.str a) [.str "gap",.str "glass"] else inV (.str a) [.str "gap",.str "glass"])=(decide (a="gap") || decide (a="glass")):=by
 rw [if_neg ZE];unfold inV;simp only [yM,List.any_nil,Bool.or_false];have h:∀w:Str,eqV (.str w) (.str a)=decide (a=w):=λ w=>by
  show decide (w=a)=decide (a=w);exact decide_eq_decide.mpr ⟨Eq.symm,Eq.symm⟩
 rw [h,h]
theorem Dz {x:V}{xs:List V}:atI (x::xs) 0=some x:=Bb (j:=0) rfl
end Lib
namespace Op
open Fr
end Op
namespace Lib
open PySem L2 Fr Op
end Lib
namespace Op
open Fr
end Op
namespace Lib
open PySem L2 Fr Op
end Lib
namespace L2
open PySem PySem.Spec PyProof.Rows
theorem sV (env:Env):∀(l:List (Str×Qv)) (d:List (Str×Addr)),(∀b∈l,b.2=.free->∃c,env.cells.lookup b.1=some c)->
  ∃cl,(forIn l d λ (x:Str×Qv) (s:List (Str×Addr))=>(if (x.2 == ym)=true then (cellOf env x.1 >>= λ a=>pure (UH ((x.1,a)::s))) else pure (UH s):Sem (ForInStep (List (Str×Addr)))))=pure cl/\
   (∀b c,cl.lookup b=some c->d.lookup b=some c\/env.cells.lookup b=some c)/\(∀b c,d.lookup b=some c->∃j,cl.lookup b=some j)/\∀b∈l,b.2=.free->∃c,cl.lookup b.1=some c:=by
 intro l
 induction l with
 | nil=>intro d _;exact ⟨d,rfl,λ b c e=>.inl e,λ b c e=>⟨c,e⟩,λ _ h=>nomatch h⟩
 | cons x r t=>
  intro d h;obtain ⟨n,k⟩:=x;have u:∀b∈r,b.2=.free->∃c,env.cells.lookup b.1=some c:=λ b f=>h b (Ya _ f)
  rw [zb];by_cases o:k=.free
  ·subst o;obtain ⟨c,v⟩:=h (n,.free) ZU rfl;have w:cellOf env n=pure c:=by unfold cellOf;rw [show env.cells.lookup n=some c from v]
   rw [if_pos (by rfl),w,pure_bind,pure_bind]
   obtain ⟨cl,e,p,m,q⟩:=t ((n,c)::d) u;refine ⟨cl,e,λ b j f=>?_,λ b j f=>?_,λ b f hf=>?_⟩
   ·rcases p b j f with g | g
    ·rw [List.lookup_cons] at g
     split at g
     ·rename_i i
      have i:b=n:=by simpa using i
      subst i;cases g
      exact .inr v
     ·exact .inl g
    ·exact .inr g
   ·by_cases i:b=n
    ·subst i;exact m b c (by simp)
    ·have y:(b == n)=false:=by simpa using i
     exact m b j (by rw [List.lookup_cons,y];exact f)
   ·rcases ZT.mp f with g | g
    ·subst g;exact m n c (by simp)
    ·exact q b g hf
  ·have hb:¬ (k == ym)=true:=by simpa using o
   rw [if_neg hb,pure_bind];obtain ⟨cl,e,p,m,q⟩:=t d u;refine ⟨cl,e,p,m,λ b f hf=>?_⟩
   rcases ZT.mp f with g | g
   ·subst g;exact absurd hf o
   ·exact q b g hf
theorem qZ {X:Cx}{a:Scope}(hcell:∀f∈a.names,f.2≠.cell)(hf:∀f∈a.names,f.2=.free->∃c,X.env.cells.lookup f.1=some c):∃cl,CapOk X a cl:=by
 obtain ⟨cl,e,j,r,l⟩:=sV X.env a.names [] hf;refine ⟨cl,?_,λ f c g=>?_,λ f g=>?_⟩
 ·unfold closureFor;rw [show (pure cl:Sem _)=(pure cl >>= λ m=>pure m) by rw [pure_bind],<- e]
 ·rcases j f c g with d | d
  ·simp at d
  ·exact d
 ·have hm:∃k,(f,k)∈(zV a X.env).names/\(k=.cell\/k=.free):=by
   rcases g with d | d
   ·exact ⟨_,Jy d,.inl rfl⟩
   ·exact ⟨_,Jy d,.inr rfl⟩
  obtain ⟨k,hm,o⟩:=hm;unfold zV at hm;obtain ⟨⟨n,h⟩,hn,b⟩:=Jb.mp hm;have i:h=.free:=by
   by_cases d:h=.free
   ·exact d
   ·have p:(h == ym)=false:=by simpa using d
    simp only [p,zW,QA,if_false,Prod.mk.injEq] at b;obtain ⟨_,rfl⟩:=b;rcases o with rfl | rfl
    ·exact absurd rfl (hcell _ hn)
    ·exact absurd rfl d
  subst i;have q:n=f:=by
   dsimp only at b
   split at b
   ·exact (Prod.mk.inj b).1
   ·exact (Prod.mk.inj b).1
  subst q;exact l _ hn rfl
theorem QF {X:Cx}{a:Scope}{n:Nat}(c:X.env.cells=zn n X.env.scope.names []:=by rfl)(hcell:∀b∈a.names,b.2≠.cell)(hf:∀b∈a.names,b.2=.free->X.env.scope.names.lookup b.1=some .cell):∃cl,CapOk X a cl:=
 qZ hcell λ b d e=>by
  rw [c];exact Qj (hf b d e)
section
variable {X:Cx}{tg elt iter:Expr}{ifs:List Expr}{scope:Scope}{pos spos py:Pos}{wi:TI}{g:TG}{tt:TT}{te:TE}
theorem bY (c:List Str)(b:List (Option Nat))(o:X.calm=true)(p:PI X tg iter wi)
  (q:∀cl C d a e f,PG (BP X scope cl c C d a e f) tg g) (ht:∀cl C d a e f,Bo (BP X scope cl c C d a e f) ifs tt) (r:∀cl C d a e f,PE (BP X scope cl c C d a e f) elt te)
  (h:∃cl,CapOk X scope cl) (hcell:∀l∈scope.names,l.2≠.cell) (m:scope.kind=.function) (k:∀l∈scope.names,l.2=.local->scope.names.lookup l.1=some .local) (s:b.length=c.length)
  (n:∀(i j:Nat),b[i]?=some (some j)->∃l:Str,c[i]?=some l/\X.N[j]?=some l/\(zV scope X.env).names.lookup l=some .cell/\X.env.scope.names.lookup l=some .cell)
  (t:∀x,UW iter X.env x=pure x:=by intro _;rfl):
  PE X (.ListComp elt [⟨tg,iter,ifs,0⟩] scope pos) (FJ wi g tt te b):=by
 obtain ⟨cl,h⟩:=h;exact HB c b o p (q cl) (ht cl) (r cl) h hcell m k s n t
theorem Vt {c:Str}{i:Nat}(o:X.N.Nodup)(p:X.N[i]?=some c)(s:Loc X.env.scope c)(d:List Str)(b:List (Option Nat))(t:X.calm=true)(u:PI X tg iter wi)
  (v:∀cl C e a f h,PG (BP X scope cl d C e a f h) tg g) (ht:∀cl C e a f h,Bo (BP X scope cl d C e a f h) ifs tt) (w:∀cl C e a f h,PE (BP X scope cl d C e a f h) elt te)
  (k:∃cl,CapOk X scope cl) (hcell:∀c∈scope.names,c.2≠.cell) (m:scope.kind=.function) (l:∀c∈scope.names,c.2=.local->scope.names.lookup c.1=some .local) (y:b.length=d.length)
  (n:∀(i j:Nat),b[i]?=some (some j)->∃c:Str,d[i]?=some c/\X.N[j]?=some c/\(zV scope X.env).names.lookup c=some .cell/\X.env.scope.names.lookup c=some .cell)
  (z:∀x,UW iter X.env x=pure x:=by intro _;rfl) (q:xf (.ListComp elt [⟨tg,iter,ifs,0⟩] scope pos) (some (.Name c py)) spos.line X.env=pure true:=by rfl)
  (r:X.fn c=true\/X.env.scope.names.lookup c=some .local:=by first | exact .inl rfl | exact .inr rfl | assumption):
  PS X (.Assign [.Name c py] (.ListComp elt [⟨tg,iter,ifs,0⟩] scope pos) spos) (Sx i (FJ wi g tt te b)):=by
 obtain ⟨cl,k⟩:=k;exact Wa o p s d b t u (v cl) (ht cl) (w cl) k hcell m l y n z q r
end
end L2
namespace Lib
open PySem L2 Fr Op
def qK (K:FrG):Sp:=λ vs H Q _=>∃v q,vs=[v]/\DV K H v (BK q)/\Q (.bl true) H
def qP (K:FrG):Sp:=λ vs H Q _=>∃(v:V) (p:Pc) (m:Nat),vs=[v]/\DV K H v (Bv p)/\p.ok/\p.bd m/\m<=4000/\∀a,Same H a->Q (.bl true) a
inductive PSh (m:Nat):Str->List Rat->Prop where
 | stop {lo hi:Rat}:¬ hi < lo->Bd m lo->Bd m hi->PSh m "stop" [lo,hi]
 | one {w:Str} {d:Rat}:decide (w="stop")=false->(decide (w="gap") || decide (w="glass"))=true->PSh m w [d]
theorem gM {m:Nat}:∀{p:Pc},p.ok->p.bd m->∃w a,Bv p=.tuple (.str w::a.map BK)/\PSh m w a
 | .gap d,_,_=>⟨"gap",[d],rfl,.one (by decide) (by decide)⟩
 | .glass d,_,_=>⟨"glass",[d],rfl,.one (by decide) (by decide)⟩
 | .stop lo c,h,b=>⟨"stop",[lo,c],rfl,.stop h b.1 b.2⟩
theorem PSh.len {m:Nat}{w:Str}{a:List Rat}:PSh m w a->0 < a.length/\a.length<=2
 | .stop ..=>⟨by simp,by simp⟩
 | .one ..=>⟨by simp,by simp⟩
theorem nY (n:Nat):(WC n true).all id=true:=by simp
theorem tW (n:Nat):(WC n true).map V.bl=WC n (V.bl true):=by simp
theorem o8 {a:List Rat}{i:Nat}{d:WH}(h:(a.map BK)[i]?=some d):∃q,d=BK q:=by
 rw [YA] at h;cases e:a[i]? with
 | none=>rw [e] at h;cases h
 | some q=>rw [e] at h;cases h;exact ⟨q,rfl⟩
end Lib
namespace Op
open Fr
end Op
namespace Lib
open PySem L2 Fr Op
theorem Bk {b:Type}{p:List b->Prop}(h:∀a,p [a]):∀us:List b,us.length=1->p us
 | [_],_=>h _
theorem CJ {c:Type}{p:List c->Prop}(h:∀a b,p [a,b]):∀us:List c,us.length=2->p us
 | [_,_],_=>h _ _
theorem I9 {d:Type}{p:List d->Prop}(h:∀a b c,p [a,b,c]):∀us:List d,us.length=3->p us
 | [_,_,_],_=>h _ _ _
structure DrA (H:Hp)(d c:Addr)(L:List V):Prop where
 d:∃a n:Int,0<=n/\H d=some (.lst [.int a,.ref c,.int n])
 c:H c=some (.lst L)
 i:∀x∈L,∃z:Int,x=.int z
 l:0 < L.length
 m:L.length<=100
def SD (d:Addr)(H a:Hp):Prop:=∀b o,b≠d->H b=some o->a b=some o
theorem SD.refl (d:Addr)(H:Hp):SD d H H:=λ _ _ _ h=>h
theorem SD.trans {d:Addr}{H e f:Hp}(a:SD d H e)(b:SD d e f):SD d H f:=λ c o n h=>b c o n (a c o n h)
theorem _root_.L2.Same.sd {H a:Hp}(s:Same H a)(d:Addr):SD d H a:=λ b o _ h=>s b o h
theorem SD.t {d:Addr}{H a:Hp}{xs:List V}(s:SD d H a)(h:H d=some (.lst xs)):Ex H a:=λ b f=>⟨λ e=>s b _ (λ c=>by rw [c,h] at e;cases e) e,λ o e=>s b _ (λ c=>by rw [c,h] at e;cases e) e⟩
theorem DrA.keep {H b:Hp}{d c:Addr}{g:List V}(h:DrA H d c g)(s:Same H b):DrA b d c g:=by
 obtain ⟨a,n,e,f⟩:=h.d;exact ⟨⟨a,n,e,s _ _ f⟩,s _ _ h.c,h.i,h.l,h.m⟩
theorem DrA.ne {H:Hp}{d c:Addr}{g:List V}(h:DrA H d c g):c≠d:=λ e=>by
 obtain ⟨a,n,j,f⟩:=h.d;have b:=h.c;rw [e,f] at b;cases b
 obtain ⟨k,e⟩:=h.i (.ref c) (by simp)
 cases e
theorem DrA.t {H b:Hp}{d c:Addr}{f:List V}(h:DrA H d c f)(s:SD d H b):Ex H b:=by
 obtain ⟨a,n,g,e⟩:=h.d;exact s.t e
theorem DrA.dv {K:FrG}{H a:Hp}{d c:Addr}{e:List V}{v:V}{x:WH}(h:DrA H d c e)(s:SD d H a)(b:DV K H v x)(n:Gf x=true:=by rfl):DV K a v x:=Ma (h.t s) n b
theorem JX {H:Hp}{d:Addr}{o:HO}:SD d H (upd H d o):=λ b u n h=>by rw [Ax n];exact h
def iY:Sp:=λ vs H Q _=>∃(d c:Addr) (b:List V) (m:Int),vs=[.ref d,.int m]/\DrA H d c b/\0 < m/\∀(x:Int) a,0<=x->x < m->DrA a d c b->SD d H a->Q (.int x) a
def vW (K:FrG):Sp:=λ vs H Q _=>∃(a:Addr) (ns:List Int) (st:Int),vs=[.ref a,.int st]/\SqL K H a (ns.map V.int)/\∀d c e b,Same H b->H d=none->DrA b d c e->Q (.ref d) b
def ut (K:FrG):Sp:=λ vs H Q _=>∃(a:Addr) (ns:List Int) (k:Int),vs=[.ref a,.int k]/\SqL K H a (ns.map V.int)/\0<=k/\∀b:Int,Q (.int b) H
def o9:Sp:=λ vs H Q _=>∃t b:Int,vs=[.int t,.int b]/\0 < b/\b.natAbs < lim/\∀p,H p=none->Q (.ref p) (upd H p (.tup [.int (Fr.lt t b),.int (Fr.lb t b)]))
theorem ud (q:Rat):Gf (BK q)=true:=rfl
theorem DrA.keepD {H b:Hp}{d c l:Addr}{j:List V}(h:DrA H d c j)(s:SD l H b)(hd:d≠l)(e:c≠l):DrA b d c j:=by
 obtain ⟨a,n,f,g⟩:=h.d;exact ⟨⟨a,n,f,s _ _ hd g⟩,s _ _ e h.c,h.i,h.l,h.m⟩
end Lib
namespace Op
open Fr
end Op
namespace Lib
open PySem L2 Fr Op
end Lib
namespace L2
open PySem PySem.Spec PyProof.Rows
end L2
namespace Lib
open PySem L2 Fr Op
end Lib
namespace L2
open PySem PySem.Spec PyProof.Rows PySem.Builtin
end L2
namespace Lib
open PySem L2 Fr Op
end Lib
namespace L2
open PySem PySem.Spec PyProof.Rows PySem.Builtin
def Fw (b TO a i2:Addr)(h h':Heap):Prop:=∀c o,c≠b->c≠TO->c≠a->c≠i2->h.get? c=some o->h'.get? c=some o
end L2
namespace L2
open PySem PySem.Spec PyProof.Rows
end L2
namespace Lib
open PySem L2 Fr Op
end Lib
namespace Op
open Fr
end Op
namespace Lib
open PySem L2 Fr Op
end Lib
namespace L2
open PySem PySem.Spec PyProof.Rows PySem.Builtin
section
variable {prog:Yg}{w:World}{A:XE}{E:Value->X1->Prop}
theorem Zk {it l:Addr}{vs:Array Value}(ne:l≠it):∀(n i:Nat) (s:X1) (Q:List Value->X1->Prop),s.heap.IsListIter it l i->s.heap.IsList l vs->i+n<=vs.size->
  (∀h',h'.IsListIter it l (i+n)->JT it s.heap h'->Q ((vs.toList.drop i).take n) { s with heap:=h' })->wpAny (model prog w) A (draw (.ref it) n) Q E s
 | 0,i,s,Q,j,_,_,a=>by
  show wpAny _ A (pure []) Q E s;refine ZH ?_;have:=a s.heap j (wR ..);rw [wD] at this;exact this
 | n+1,i,s,Q,j,hl,le,a=>by
  have lt:i < vs.size:=by omega
  show wpAny _ A (yV (.ref it) >>= _) Q E s;refine Y3 (wpAny_pyNext_list_item j hl (x:=vs[i]) (by simp [lt]) λ d j1 b1=>?_)
  refine Y3 (WO (Zk ne n (i+1) _ _ j1 (hl.extBut b1.extBut ne) (by omega) λ b c b2=>ZH ?_))
  have e:vs.toList.drop i=vs[i]::vs.toList.drop (i+1):=by simp [List.drop_eq_getElem_cons,lt]
  have r:=a b (by rw [show i+(n+1)=i+1+n by omega];exact c) (b1.trans b2)
  rw [e,List.take_succ_cons] at r;exact r
theorem ou {s:X1}{l:Addr}{vs:Array Value}{Q:List Value->X1->Prop}(c:A.handled=none)(hl:s.heap.IsList l vs)
  (h:∀h',zv s.heap.objs.size s.heap h'->Q vs.toList { s with heap:=h' }):wpAny (model prog w) A (GJ (.ref l) vs.size none) Q E s:=by
 have ne:l≠s.heap.objs.size:=by
  obtain ⟨o,d,_⟩:=hl;exact YO (ZI d)
 unfold GJ notIterableAtAll;refine Y3 (Y3 (qB hl.typeIs F.slot_list_iter.lookup (ZH ?_)));simp only [QA,if_false];refine Y3 (WO (yu hl ?_));refine Y3 (WO (Zk ne vs.size 0 _ _ ⟨_,YL _ rfl,rfl,rfl⟩ (up hl _) (by omega) λ f j1 b1=>?_))
 have e:List.take vs.size (List.drop 0 vs.toList)=vs.toList:=by
  rw [wE];exact JU (by simp)
 rw [e,if_neg (by simp)]
 have a:f.IsList l vs:=(up hl _).extBut b1.extBut ne;refine Y3 (WO (wpAny_pyNext_list_end c j1 a (by simp) λ g b2=>?_))
 simp only [wq,QA,if_false];exact ZH (h g λ b o hb x=>b2 b o hb (b1.extBut b o hb (X9 _ x)))
theorem vG {s:X1}{env:Env}{a:List Expr}{x1}{pos:Pos}{l:Addr}{vs:Array Value}{Q:Unit->X1->Prop}(c:A.handled=none)(hl:s.heap.IsList l vs)
  (hn:(JM a env).length=vs.size) (b:(JM a env).findIdx? (·.1)=none)
  (d:∀h',zv s.heap.objs.size s.heap h'->wpAny (model prog w) A (yQ ((JM a env).map (·.2)) vs.toList) Q E { s with heap:=h' }):
  wpAny (model prog w) A (yL (.Tuple a x1 pos) env (.ref l)) Q E s:=by
 rw [arm_assign_Tuple];refine Y3 (Qu ?_);unfold unpack;rw [hn,b];exact Y3 (WO (ou c hl d))
end
section
variable {X:Cx}{pos:Pos}
def uw (K:FrG)(n:Nat)(t:TGs):TG:=λ v b H Q=>∃a xs,v=.ref a/\SqL K H a xs/\xs.length=n/\t xs b H Q
theorem ju {c:List Expr}{k:Nat}{t:TGs}{n:Nat}(j:X.calm=true)(h:PGs X c t)
  (hn:(JM c X.env).length=n:=by rfl) (g:(JM c X.env).findIdx? (·.1)=none:=by rfl):PG X (.Tuple c k pos) (uw X.K n t):=by
 intro d s l H v u Q m r f;obtain ⟨a,xs,rfl,p,hl,f⟩:=f;cases r
 obtain ⟨its,i,ht,w⟩:=m.list p;refine vG (m.ok.hd j) ht.isList (by simp [hn,<- hl,i.length]) g λ h' q=>?_
 exact h d _ l H xs _ Q (m.kept (t':=s.toks) λ b o e=>q b o (YO (ZI e)) e) (by simpa using i) f
end
end L2
namespace Op
open Fr
end Op
namespace Lib
open PySem L2 Fr Op
theorem SD.same {a H c:Hp}{d:Addr}(f:Same a H)(hd:a d=none)(s:SD d H c):Same a c:=λ b o e=>s b o (λ g=>by rw [g,hd] at e;cases e) (f _ _ e)
end Lib
namespace L2
open PySem PySem.Spec PyProof.Rows PySem.Builtin
end L2
namespace Op
open Fr
end Op
namespace Lib
open PySem L2 Fr Op
end Lib
namespace Op
open Fr Lib
end Op
namespace Lib
open PySem L2 Fr Op
end Lib
namespace L2
open PySem PySem.Spec PyProof.Rows PySem.Builtin
end L2
namespace Lib
open PySem L2 Fr Op
end Lib
namespace L2
open PySem PySem.Spec PyProof.Rows
end L2
namespace Lib
open PySem L2 Fr Op
end Lib
namespace L2
open PySem PySem.Spec PyProof.Rows
end L2
namespace Lib
open PySem L2 Fr Op
end Lib
namespace L2
open PySem PySem.Spec PyProof.Rows
abbrev U3:=XK->(Hp->Prop)->St->Hp->Prop
def Vb (X:Cx)(d:List Stmt)(t:U3):Prop:=∀(a:List (Addr×Obj)) (s:X1) (b:St) (H:Hp) (E:XK) (k:Hp->Prop),Inv X a b H s->t E k b H->
 wpAny (model X.prog X.w) X.A (execs d X.env) (λ f c=>f=.next/\∃g,Inv X a b g c/\k g) (λ e s'=>∃h c,Inv X a b h c/\Cz X.prog X.w X.stack h c E e s') s
end L2
namespace L2
open PySem PySem.Spec PyProof.Rows PySem.Builtin
open PySem.AutoSeq1 (wpAny_loadPart')
end L2
namespace L2
open PySem PySem.Spec PySem.Calls PyProof.Rows PySem.W Builtin Builtin.ObjectAttr
end L2
namespace L2
open PySem PySem.Spec PySem.Calls PyProof.Rows PySem.W
end L2
namespace Lib
open PySem L2 Fr Op
end Lib
namespace L2
open PySem PySem.Spec PyProof.Rows
end L2
namespace L2
open PySem PySem.Spec PyProof.Rows PySem.Builtin PySem.Builtin.Str
section
variable {X:Cx}{k v:Expr}{tk tv:TE}{pos:Pos}
def jC:V->List V->Hp->VK->Prop:=λ x vs H Q=>∃i,x=.str i/\vs=[]/\wa (zg i).length=false/\Q (.str (zg i)) H
theorem qI:MtM X "str.upper" jC:=by
 intro a s f H x vs v us Q e b c h;obtain ⟨i,rfl,rfl,d,q⟩:=h;obtain ⟨t,rfl⟩:=b;cases c
 exact SC.upper d ⟨.str _,H,e.tok _,⟨⟨_,WB e.tk⟩,rfl⟩,q⟩
end
end L2
namespace Lib
open PySem L2 Fr Op
end Lib
namespace L2
open PySem PySem.Spec PyProof.Rows PySem.Builtin PySem.SeqAt
end L2
namespace Op
open Fr
end Op
namespace Lib
open PySem L2 Fr Op
end Lib
namespace Op
open Fr
end Op
namespace Lib
open PySem L2 Fr Op
def _root_.Op.Pc.fd (m M:Nat):Pc->Prop
 | .gap d=>Bd m d
 | .glass d=>Bd m d
 | .stop lo a=>Bd M lo/\Bd M a
end Lib
namespace L2
open PySem PySem.Spec PyProof.Rows PySem.Builtin
end L2
namespace Lib
open PySem L2 Fr Op
end Lib
namespace L2
open PySem PySem.Spec PyProof.Rows PySem.Builtin
end L2
namespace Op
open Fr
end Op
namespace Lib
open PySem L2 Fr Op
end Lib
namespace Op
open Fr
end Op
namespace Lib
open PySem L2 Fr Op
end Lib
namespace Op
open Fr
end Op
namespace Lib
open PySem L2 Fr Op
end Lib
namespace L2
open PySem PySem.Spec PyProof.Rows PySem.Builtin PySem.Builtin.Str
theorem YQ:∀{zs:List Str} {its:List Value},Vals (zs.map V.str) its->∃l:List (Str×Tok),xi l=its/\l.map (·.1)=zs
 | [],_,.nil=>⟨[],rfl,rfl⟩
 | z::zs,_,.cons h r=>by
  obtain ⟨t,rfl⟩:=h;obtain ⟨l,a,b⟩:=YQ r;exact ⟨(z,t)::l,by show _::xi l=_;rw [a],by show z::_=_;rw [b]⟩
def rJoin:V->List V->Hp->VK->Prop:=λ x vs H Q=>∃(a:Str) (l:Addr) (zs:List Str),x=.str a/\vs=[.ref l]/\H l=some (.lst (zs.map V.str))/\JoinOk a zs=true/\Q (.str (ww a zs)) H
theorem lL {zs:List Str}{ps:List (Str×Tok)}(r:Vals (zs.map V.str) (xi ps)):∀p∈ps,p.2≠0:=λ p a=>by
 obtain ⟨n,hn⟩:=List.mem_iff_getElem?.mp a;have e:(xi ps)[n]?=some (.str p.1 p.2):=by unfold xi;rw [YA,hn];rfl
 exact cz r e rfl
theorem jF {prog:Yg}{w:World}{A:XE}{E:Value->X1->Prop}{s:X1}{Q:Value->X1->Prop}{x:Str}{t:Tok}{c:Addr}{l:List (Str×Tok)}{a:List Str}(hn:1<=s.toks)(hl:s.heap.IsList c (xi l).toArray)(ht:l.map (·.1)=a)(hok:JoinOk x a=true)(nz:∀p∈l,p.2≠0)
  (d:∀(t':NZ) k,1<=k->Q (.str (ww x a) t'.1) { s with toks:=k }):wpAny (model prog w) A (call (.builtin "str.join") [.str x t,.ref c]) Q E s:=by
 subst ht;have b:=hok;unfold JoinOk at b;rw [Bool.not_eq_true'] at b;exact zQ F.slot_str_join (zz _ _ _) F.entry_str_join (F.args_str_join_2 _ _) (meets_str_join_list x t c l b) ⟨hl,vM l nz hn ⟨joinFit_length b,d⟩⟩
theorem Lg {X:Cx}:MtM X "str.join" rJoin:=by
 intro a s m H x vs v us Q b c d h;obtain ⟨i,l,zs,rfl,rfl,f,ok,q⟩:=h;obtain ⟨t,rfl⟩:=c;obtain ⟨u,rfl,g⟩:=d.one;cases g
 obtain ⟨o,its,n,r,hl,e⟩:=b.lstM f;obtain ⟨ps,rfl,e2⟩:=YQ r;exact jF b.tk ⟨_,e,rfl,_,rfl⟩ e2 ok (lL r) λ t' k j=>⟨.str _,H,b.tok _,⟨t',rfl⟩,q⟩
end L2
namespace L2
open PySem PySem.Spec PyProof.Rows PySem.Builtin
theorem MtFn.mcR {P:Yg}{w:World}{K:FrG}{mg:Str->Option Value}{base:Heap}{C:Addr}{m a:Str}{st:Stmt}{N ps:List Str}{k:Nat}{sp:Sp}(T:MtFn K C m a st)(p:FnScope N ps (defScope st))
  (hb:∀(kV c d:Value) (e:Option Addr) (cdv ct:Value) (us:List Value),us.length=ps.length->yR (YR m a (defArgs st) (defBody st) (defScope st) .none kV c d e cdv ct) ⟨us,[]⟩=pure (ps.zip us))
  (len:∀vs H Q E,sp vs H Q E->vs.length=ps.length)
  (b:∀(f:Addr) (cdv:Value) (A:XE) (outer:List Env) (s:X1) (H:Hp) (vs:List V) (Q:VK) (E:XK),RoomB true k (A.deeper (yC a (defScope st) s.heap.objs.size f cdv))->sp vs H Q E->
   ∃t,PSs (Cd true P w K mg base N a (defScope st) f cdv A outer s H E) (defBody st) t/\t { nx:=λ _ g=>Q .non g,rt:=Q } (start N vs) H):MC P w K mg base (k+1) C m ps sp:=by
 obtain ⟨f,fd,n,hm⟩:=T.ex;obtain ⟨q,r,kV,c,d,e,cdv,ct,o,rfl,l,i⟩:=id n.ex;exact ⟨⟨f,_,Gn l i p len λ A outer s H vs Q E j h=>b f cdv A outer s H vs Q E j h,hm,n.binds hb⟩,T.cl⟩
section
variable {X:Cx}{k:Nat}{m:Str}{pos apos cpos epos:Pos}{e o:Expr}{es:List Expr}{ta:TE}{t:TA}
theorem v5 {pl:Sem Bool}(F:PE X.nox o ta)(G:RoomB true k X.A)(ha:PA X.nox (e::es) t)
  (p:YM (e::es) X.env=(false,eval e X.env)::YM es X.env:=by rfl) (y:(QK cpos (YM es X.env)).any (·.1)=false:=by rfl) (z:xf (.Call (.Attribute o m apos) (e::es) [] cpos) none epos.line X.env=pure false:=by rfl)
  (ht:eval (.Call (.Attribute o m apos) (e::es) [] cpos) X.env=(do
   let B <- eval o X.env
   GP apos.atName
   let (f,first) <- wh [B] (jo B m pl)
   GN cpos f first (QK cpos (YM (e::es) X.env)) (wG cpos (yD [] X.env))):=by rfl):
  Vb X [.Expr (.Call (.Attribute o m apos) (e::es) [] cpos) epos] (λ E D b H=>ta b H λ x d=>∃a C dx fs ps sp,x=.ref a/\d a=some (.ins C dx fs)/\fs.lookup m=none/\
   MC X.prog X.w X.K X.mg X.base k C m ps sp/\t b d λ vs g=>sp (x::vs) g (λ _ i=>D i) E):=by
 intro j s b H E D I h;refine zZ (wpAny_Expr_any ?_ I.quiet z);refine yp (pl:=pl) (XW (F j s b H _ (I.wish _) h) (λ u T J=>?_) (λ _ _ U=>U.elim)) ht
 obtain ⟨x,d,c,L,a,C,dx,fs,ps,sp,ex,N,l,M,q⟩:=J;have c:=c.unwish;subst ex;obtain rfl:u=YI a:=L;obtain ⟨f,fd,V,hm,hb⟩:=M.ex;refine Jd c N M.cl hm l ?_;refine JJ (first:=[.ref a]) (h₀:=X.base) I.ok.mod.kin hm.kp (thn (PA.any ha cpos c q) λ us O ⟨vs,g,n,r,P⟩=>⟨n.kIn,?_⟩) p y
 exact thn (HY (us:=.ref a::us) (vs:=.ref a::vs) V G hb n (.cons rfl r) (by rw [UB];exact P) λ e s' Q _=>⟨g,O,n,Q⟩) λ v Y ⟨Z,i,R,a0,S⟩=>yi ⟨rfl,i,R,S⟩
end
end L2
namespace Lib
open PySem L2 Fr Op
def letS:Str:="abcdefghijklmnopqrstuvwxyz"
def Gp (a:Str):Bool:=!(Xt letS a 0 letS.length 1).isEmpty
def nameB (a:Str):Bool:=(decide (1<=a.length) && decide (a.length<=8)) && (zf a).all Gp
def FN:WH->Bool
 | .str a=>nameB a
 | _=>false
theorem jm {d:WH}(h:Io d=false):FN d=false:=by
 cases d<;>first | rfl | cases h
def jP (d:WH):Prop:=∀a,d=.str a->a.length<=X2
def uo (K:FrG):Sp:=λ vs H Q _=>∃v d,vs=[v]/\DV K H v d/\jP d/\∀a,Same H a->Q (.bl (FN d)) a
theorem qH {a:Str}(h:nameB a=true):a.length<=8:=by
 unfold nameB at h;rw [zy,zy] at h;exact of_decide_eq_true h.1.2
end Lib
namespace L2
open PySem PySem.Spec PyProof.Rows PySem.Builtin
end L2
namespace L2
open PySem PySem.Spec PyProof.Rows
end L2
namespace Lib
open PySem L2 Fr Op
theorem Kw (p:Pc):Gf (Bv p)=true:=by cases p<;>rfl
structure Bx (K:FrG)(H1:Hp)(p:Addr)(ps:List Pc)(Hx:Hp):Prop where
 s:Same H1 Hx
 n:H1 p=none
 ex:∃xs,Hx p=some (.lst xs)/\DVs K Hx xs (ps.map Bv)
theorem Jj {a c:Hp}{p:Addr}(s:Same a c)(n:a p=none)(o:HO):Same a (upd c p o):=λ b u e=>by
 rw [Ax (BZ e n)];exact s _ _ e
theorem Bx.more {K:FrG}{b a:Hp}{p:Addr}{ps qs:List Pc}{xs zs:List V}(s:Same b a)(n:b p=none)(c:a p=some (.lst xs))(d:DVs K a xs (ps.map Bv))(e:DVs K a zs (qs.map Bv)):Bx K b p (ps++qs) (upd a p (.lst (xs++zs))):=by
 refine ⟨Jj s n _,n,xs++zs,Aj,?_⟩;rw [YP];exact Ep (Z3 c _) (by rw [<- YP];exact Ew Kw _) (d.append e)
end Lib
namespace L2
open PySem PySem.Spec PyProof.Rows
structure TopFnA (K:FrG)(mg:Str->Option Value)(x nm:Str)(st:Stmt):Prop where
 ex:∃(f:Addr) (fd:JN),Fun K nm nm st f fd/\mg x=some (.ref f)
theorem Jg {K:FrG}{h:Heap}{mg:Str->Option Value}{x nm:Str}{st:Stmt}{f:Addr}{d:Value}{e g:Option Addr}{i:Array (Option Value)}{kV j m b ct:Value}(X:K.In h)(n:h.Ns ZY mg)
  (a:Yv K ZY x=some (some (.ref f))) (l:K.lookup f=some ⟨d,e,.func (YR nm nm (defArgs st) (defBody st) (defScope st) .none kV j m g b ct),i⟩) (c:XP K b nm=true) (k:YN K (.ref f)=true):TopFnA K mg x nm st:=
 ⟨f,_,Cq l c k,ZN X n a⟩
theorem TopFnA.calB {c:Bool}{P:Yg}{w:World}{K:FrG}{mg:Str->Option Value}{base:Heap}{x nm:Str}{st:Stmt}{N ps:List Str}{k:Nat}{sp:Sp}(T:TopFnA K mg x nm st)(m:FnScope N ps (defScope st))
  (hb:∀(kV b d:Value) (e:Option Addr) (cdv ct:Value) (us:List Value),us.length=ps.length->yR (YR nm nm (defArgs st) (defBody st) (defScope st) .none kV b d e cdv ct) ⟨us,[]⟩=pure (ps.zip us))
  (len:∀vs H Q E,sp vs H Q E->vs.length=ps.length)
  (a:∀(f:Addr) (cdv:Value) (A:XE) (outer:List Env) (s:X1) (H:Hp) (vs:List V) (Q:VK) (E:XK),RoomB c k (A.deeper (yC nm (defScope st) s.heap.objs.size f cdv))->sp vs H Q E->
   ∃t,PSs (Cd c P w K mg base N nm (defScope st) f cdv A outer s H E) (defBody st) t/\t { nx:=λ _ g=>Q .non g,rt:=Q } (start N vs) H):CalB P w K mg base c (k+1) x ps sp:=by
 obtain ⟨f,fd,h,hm⟩:=T.ex;obtain ⟨n,o,kV,b,d,e,cdv,ct,j,rfl,l,i⟩:=id h.ex;exact ⟨f,_,Gn l i m len (a f cdv),hm,h.kp,h.binds hb⟩
theorem TopFnA.calN {c:Bool}{P:Yg}{w:World}{K:FrG}{mg:Str->Option Value}{base:Heap}{x nm:Str}{st:Stmt}{N ps:List Str}{k:Nat}{sp:Sp}(T:TopFnA K mg x nm st)(m:FnScope N ps (defScope st))
  (hb:∀(kV b d:Value) (e:Option Addr) (cdv ct:Value) (us:List Value),us.length=ps.length->yR (YR nm nm (defArgs st) (defBody st) (defScope st) .none kV b d e cdv ct) ⟨us,[]⟩=pure (ps.zip us))
  (len:∀vs H Q E,sp vs H Q E->vs.length=ps.length)
  (a:∀(f:Addr) (cdv:Value) (A:XE) (outer:List Env) (s:X1) (H:Hp) (vs:List V) (Q:VK) (E:XK),RoomB c k (A.deeper (yC nm (defScope st) s.heap.objs.size f cdv))->sp vs H Q E->
   ∃t,PSs (Cd c P w K mg base N nm (defScope st) f cdv A outer s H E).nox (defBody st) t/\t { nx:=λ _ g=>Q .non g,rt:=Q } (start N vs) H):CalB P w K mg base c (k+1) x ps sp:=
 T.calB m hb len λ f cdv A outer s H vs Q E i h=>by
  obtain ⟨t,j,l⟩:=a f cdv A outer s H vs Q E i h;exact ⟨t,j.nox,l⟩
abbrev lH:Sp:=λ _ _ _ _=>False
theorem TopFn.not {P:Yg}{w:World}{K:FrG}{mg:Str->Option Value}{base:Heap}{x:Str}{st:Stmt}{N ps:List Str}{k:Nat}(T:TopFn K mg x st)(d:FnScope N ps (defScope st))
  (hb:∀(kV a b:Value) (c:Option Addr) (cdv ct:Value) (us:List Value),us.length=ps.length->yR (YR x x (defArgs st) (defBody st) (defScope st) .none kV a b c cdv ct) ⟨us,[]⟩=pure (ps.zip us)):CalB P w K mg base true (k+1) x ps lH:=
 T.calB d hb (λ _ _ _ _ h=>h.elim) λ _ _ _ _ _ _ _ _ _ _ h=>h.elim
section
variable {X:Cx}{c:Bool}{k:Nat}{ps:List Str}{sp:Sp}{x:Str}{p pos cpos rpos:Pos}{e:Expr}{es:List Expr}{t:TA}{h0:ui}{hs:List ui}
theorem Wz (C:CalB X.prog X.w X.K X.mg X.base c k x ps sp)(j:RoomB c k X.A)(ha:PA X.nox (e::es) t)(l:Gl X x:=by rfl)(b:(x == ("__debug__":Str))=false:=by decide)
  (m:YM (e::es) X.env=(false,eval e X.env)::YM es X.env:=by rfl) (d:(QK cpos (YM es X.env)).any (·.1)=false:=by rfl):
  PS X (.Try [.Return (some (.Call (.Name x p) (e::es) [] cpos)) rpos] (h0::hs) [] [] pos) (λ G a H=>t a H λ vs g=>sp (vs++[]) g G.rt E0):=by
 obtain ⟨f,fd,I,hm,n,hb⟩:=C.ex;intro o s a H G u h;refine js (zZ (wT (JO (EY u l hm ?_ b))));refine JJ (h₀:=X.base) u.ok.mod.kin n (thn (PA.any ha cpos u h) λ us J ⟨vs,g,i,r,q⟩=>⟨i.kIn,?_⟩) m d
 refine thn (HY I j hb i r q λ e s' y ht=>?_) λ v L ⟨z,B,D,E,F⟩=>⟨z,a,B,D,E,F⟩
 obtain ⟨_,_,_,_,_,_,_,_,_,_,_,_,M⟩:=y;exact M.elim
end
def mF:V->List V->Hp->VK->Prop:=λ x vs H Q=>∃i j,x=.str i/\vs=[.str j]/\Q (.bl (ql i j)) H
theorem lG {X:Cx}:MtM X "str.endswith" mF:=by
 intro a s e H x vs v us Q f b c h;obtain ⟨i,j,rfl,rfl,q⟩:=h;obtain ⟨t,rfl⟩:=b;obtain ⟨u,rfl,d⟩:=c.one;obtain ⟨t',rfl⟩:=d;exact SC.endswith ⟨.bl _,H,f,rfl,q⟩
end L2
namespace L2
open PySem PySem.Spec PyProof.Rows PySem.Builtin PySem.Builtin.Str
end L2
namespace Tx
open PySem PySem.NumText PySem.Builtin.Str
def dz (m:Nat):List Nat:=if m=0 then [] else dg m
theorem Wt:∀d:Nat,d < 10->(Fc d).toNat=48+d:=by decide
theorem Ur {m:Nat}(h:0 < m):dz m=dz (m / 10)++[48+m % 10]:=by
 unfold dz;rw [if_neg (by omega)]
 by_cases hm:m < 10
 ·rw [if_pos (by omega),dg,uu hm]
  show [(Fc m).toNat]=_;rw [Wt m hm,Nat.mod_eq_of_lt hm];rfl
 ·rw [if_neg (by omega)]
  have a:m % 10 < 10:=FB m (by decide)
  have t:qh 10 (m / 10)++qh 10 (m % 10)=qh 10 (10 * (m / 10)+m % 10):=Nat.toDigits_append_toDigits (by decide) (by omega) a
  rw [Nat.div_add_mod] at t;unfold dg;rw [<- t,YP,uu a];show _++[(Fc (m % 10)).toNat]=_;rw [Wt _ a]
theorem uE {m:Nat}(h:0 < m):dz m=dg m:=by
 unfold dz;rw [if_neg (by omega)]
theorem rm {p q:Rat}(h:sh p=sh q):p=q:=by
 have d:decide (p.num < 0)=decide (q.num < 0):=by rw [<- JL,<- JL,h]
 have hb:bd p=bd q:=by
  rw [<- Hq,<- Hq,h];by_cases g:p.num < 0
  ·have f:q.num < 0:=by rw [decide_eq_true g] at d;exact of_decide_eq_true d.symm
   rw [if_pos g,if_pos f]
  ·have f:¬ q.num < 0:=by rw [decide_eq_false g] at d;exact of_decide_eq_false d.symm
   rw [if_neg g,if_neg f]
 have c:=congrArg (cut 47) hb;rw [HN,HN] at c;have val:∀m n:Nat,dg m=dg n->m=n:=λ m n e=>by rw [<- Ff m,<- Ff n,e]
 have hn:p.num.natAbs=q.num.natAbs/\p.den=q.den:=by
  by_cases a:p.den=1<;>by_cases b:q.den=1
  ·rw [if_pos a,if_pos b] at c;exact ⟨val _ _ (by simpa using c),by rw [a,b]⟩
  ·rw [if_pos a,if_neg b] at c;simp at c
  ·rw [if_neg a,if_pos b] at c;simp at c
  ·rw [if_neg a,if_neg b] at c;simp at c
   exact ⟨val _ _ c.1,val _ _ c.2⟩
 refine Rat.ext ?_ hn.2;have e:=hn.1;by_cases g:p.num < 0
 ·have f:q.num < 0:=by rw [decide_eq_true g] at d;exact of_decide_eq_true d.symm
  omega
 ·have f:¬ q.num < 0:=by rw [decide_eq_false g] at d;exact of_decide_eq_false d.symm
  omega
end Tx
namespace Lib
open PySem L2 Tx PySem.NumText
end Lib
namespace Lib
end Lib
namespace L2
open PySem PySem.Spec PyProof.Rows
section
variable {X:Cx}
theorem pJ {s:X1}{c:Prop}[Decidable c]{e b:Y2}{t:NZ}{Q:Value->X1->Prop}(hn:1<=s.toks)(d:¬ c->b.length<=X2)(h:∀(t':NZ) (k:Nat),1<=k->Q (.str (if c then e else b) t'.1) { s with toks:=k }):
  (if c then Made.val (.str e t.1) else Made.str b).post Q s:=by
 by_cases a:c
 ·rw [if_pos a];have q:=h t s.toks hn;rw [if_pos a] at q;exact q
 ·rw [if_neg a];have q:=h ⟨s.toks,WB hn⟩ (s.toks+1) (YU _ _);rw [if_neg a] at q;exact ⟨d a,q⟩
theorem uh {prog:Yg}{w:World}{A:XE}{E:Value->X1->Prop}{s:X1}{x:Y2}{t:NZ}{u:Tok}{n:Int}{Q:Value->X1->Prop}(hn:1<=s.toks)(hok:PySem.MulOk x n)(h:∀(t':NZ) (k:Nat),1<=k->Q (.str (zU x n) t'.1) { s with toks:=k }):
  wpAny (model prog w) A (zJ .Mult (.str x t.1) (.int n u)) Q E s:=by
 refine P.mul_str hok.1 hok.2.1 hok.2.2 ?_;unfold zU at h;by_cases a:n < 1
 ·rw [if_pos a];have q:=h ⟨s.toks,WB hn⟩ (s.toks+1) (YU _ _);rw [if_pos a] at q;exact ⟨by decide,q⟩
 ·rw [if_neg a];refine pJ hn (λ b=>fits_reps (hok.2.2 a (by simpa using b))) λ t' k c=>?_
  have q:=h t' k c;rw [if_neg a] at q;exact q
theorem Ku:OpR X (zJ .Mult) (λ x d H Q=>∃a n,x=.str a/\d=.int n/\PySem.MulOk a n/\Q (.str (zU a n)) H):=by
 intro b s g H x d v u Q e c ry h;obtain ⟨a,n,rfl,rfl,hok,q⟩:=h;obtain ⟨t,rfl⟩:=c;obtain ⟨t',rfl⟩:=ry;exact uh e.tk hok λ t' k f=>⟨.str _,H,e.tok _,⟨t',rfl⟩,q⟩
end
end L2
namespace Tx
open PySem PySem.NumText PySem.Builtin.Str
theorem uq (q:Rat):∀c∈sh q,(48<=c/\c<=57)\/c=45\/c=47:=λ c a=>by
 unfold sh at a;rcases XA.mp a with a | a
 ·rcases XA.mp a with a | a
  ·split at a
   ·exact .inr (.inl (by simpa using a))
   ·cases a
  ·exact .inl (Hd _ _ a)
 ·split at a
  ·cases a
  ·rcases ZT.mp a with rfl | a
   ·exact .inr (.inr rfl)
   ·exact .inl (Hd _ _ a)
end Tx
namespace Lib
open PySem L2 Tx PySem.NumText
end Lib
namespace Tx
open PySem PySem.Spec PySem.Builtin PySem.Builtin.Str L2 Lib Op
theorem Ln:Y1 " "=⟨#[32]⟩:=by decide+kernel
theorem Wj:Y1 ";"=⟨#[59]⟩:=by decide+kernel
theorem oJ:Y1 "; "=⟨#[59,32]⟩:=by decide+kernel
theorem aK (x:Y2)(c:Nat):ql x ⟨#[c]⟩=decide ((cl x).getLast?=some c):=by
 obtain ⟨⟨l⟩⟩:=x;rcases qR l with rfl | ⟨r,a,b⟩
 ·rfl
 ·have e1:l=r++[a]:=by rw [b];simp
  subst e1;clear b;have hl:(r++[a]).toArray.size=r.length+1:=by simp
  show (decide (0+1<=(r++[a]).toArray.size) && ((r++[a]).toArray.extract ((r++[a]).toArray.size - 1) ((r++[a]).toArray.size - 1+1) == #[c]))=decide ((r++[a]).getLast?=some c);rw [hl,Nat.add_sub_cancel,GE];by_cases h:a=c
  ·subst h;simp
  ·simp [h]
theorem YG {f c:Nat->Option Nat}:∀{l:List Nat},(∀k∈l,f k=c k)->l.filterMap f=l.filterMap c
 | [],_=>rfl
 | a::l,h=>by
  rw [QY,QY,h a ZU,YG λ k b=>h k (Ya _ b)]
theorem lC (x:Y2):cl (UA x none (some (-1)))=(cl x).dropLast:=by
 obtain ⟨⟨l⟩⟩:=x;rcases qR l with rfl | ⟨r,a,b⟩
 ·rfl
 ·have e1:l=r++[a]:=by rw [b];simp
  subst e1;clear b;have e:xV none (some (-1)) 1 (r.length+1)=UP r.length:=by
   unfold xV sliceRange;simp only [show (1:Int) > 0 by decide,if_true]
   have c:max 0 (min (if (-1:Int) < 0 then -1+((r.length+1:Nat):Int) else -1) ((r.length+1:Nat):Int))=(r.length:Int):=by
    rw [if_pos (by decide)]
    omega
   rw [c];have d:(if (0:Int) < (r.length:Int) then ((r.length:Int) - 0+1 - 1) / 1 else 0).toNat=r.length:=by
    split<;>simp<;>omega
   rw [d];refine (xY λ k _=>?_).trans (List.map_id _)
   simp
  have hl:(QN (r++[a]).toArray).length=r.length+1:=by
   show (r++[a]).toArray.size=_;simp
  show cl (UA (QN (r++[a]).toArray) none (some (-1)))=(r++[a]).dropLast;unfold UA;rw [hl,e];rw [if_neg (by simp)]
  show ((((UP r.length)).filterMap (λ k=>(r++[a]).toArray[k]?)).toArray).toList=_
  rw [zT,GG];have e2:(UP r.length).filterMap (λ k=>(r++[a]).toArray[k]?)=(UP r.length).filterMap (λ k=>r[k]?):=by
   refine YG λ k f=>?_
   have:=List.mem_range.mp f;simp [zd this]
  rw [e2,Oz]
def wd:Pc->Y2
 | .gap _=>Y1 "gap"
 | .glass _=>Y1 "glass"
 | .stop _ _=>Y1 "stop"
def fracs:Pc->List Rat
 | .gap q=>[q]
 | .glass q=>[q]
 | .stop lo a=>[lo,a]
def toks (p:Pc):List Y2:=wd p::(fracs p).map Am
def DR:Pc->List Y2
 | .gap q=>[Y1 "gap",Am q++⟨#[59]⟩]
 | .glass q=>[Y1 "glass",Am q++⟨#[59]⟩]
 | .stop lo a=>[Y1 "stop",Am lo,Am a++⟨#[59]⟩]
def Cu:List Pc->List Y2
 | []=>[]
 | [p]=>toks p
 | p::q::r=>DR p++Cu (q::r)
def Dn:List Pc->List Y2
 | []=>[]
 | [p]=>toks p
 | p::q::r=>toks p++Y1 ";"::Dn (q::r)
def DQ (p:Pc):Y2:=ww (Y1 " ") (toks p)
def Cv (ps:List Pc):Y2:=ww (Y1 "; ") (ps.map DQ)
theorem Nj:∀(q:Pc) (r:List Pc),∃t a,Cu (q::r)=t::a
 | .gap _,[]=>⟨_,_,rfl⟩
 | .glass _,[]=>⟨_,_,rfl⟩
 | .stop _ _,[]=>⟨_,_,rfl⟩
 | .gap _,_::_=>⟨_,_,rfl⟩
 | .glass _,_::_=>⟨_,_,rfl⟩
 | .stop _ _,_::_=>⟨_,_,rfl⟩
theorem Hf (a:Y2)(l:List Y2):ww a l=XI a l:=qS _ _
theorem M7:∀(ps:List Pc),ps≠[]->Cv ps=XI ⟨#[32]⟩ (Cu ps)
 | [],h=>absurd rfl h
 | [p],_=>by
  show ww _ [DQ p]=_;rw [Hf];show DQ p=_;unfold DQ;rw [Hf,Ln];rfl
 | p::q::r,_=>by
  have e:=M7 (q::r) (by simp)
  obtain ⟨t,c,f⟩:=Nj q r;have e1:Cv (p::q::r)=DQ p++Y1 "; "++Cv (q::r):=by
   unfold Cv;rw [Hf,Hf];rfl
  rw [e1,e];show _=XI ⟨#[32]⟩ (DR p++Cu (q::r));rw [f]
  apply ext
  rw [Bh,Bh];unfold DQ;rw [Hf,Ln,oJ];have two:∀x d:Y2,XI ⟨#[32]⟩ [x,d]=x++⟨#[32]⟩++d:=λ _ _=>rfl
  have three:∀x d g:Y2,XI ⟨#[32]⟩ [x,d,g]=x++⟨#[32]⟩++(d++⟨#[32]⟩++g):=λ _ _ _=>rfl
  cases p with
  | gap a=>
   show cl (XI ⟨#[32]⟩ [Y1 "gap",Am a])++_++_=cl (Y1 "gap"++⟨#[32]⟩++((Am a++⟨#[59]⟩)++⟨#[32]⟩++XI ⟨#[32]⟩ (t::c)));rw [two];simp only [Bh,US];rfl
  | glass a=>
   show cl (XI ⟨#[32]⟩ [Y1 "glass",Am a])++_++_=cl (Y1 "glass"++⟨#[32]⟩++((Am a++⟨#[59]⟩)++⟨#[32]⟩++XI ⟨#[32]⟩ (t::c)));rw [two];simp only [Bh,US];rfl
  | stop a b=>
   show cl (XI ⟨#[32]⟩ [Y1 "stop",Am a,Am b])++_++_=cl (Y1 "stop"++⟨#[32]⟩++(Am a++⟨#[32]⟩++((Am b++⟨#[59]⟩)++⟨#[32]⟩++XI ⟨#[32]⟩ (t::c))));rw [three];simp only [Bh,US];rfl
theorem KR (q:Rat)(c:Nat)(h:¬ ((48<=c/\c<=57)\/c=45\/c=47)):c∉cl (Am q):=λ m=>h (uq q c (by rw [<- Do];exact m))
theorem vQ:∀(ps:List Pc),∀t∈Cu ps,32∉cl t:=by
 have one:∀p:Pc,(∀t∈toks p,32∉cl t)/\∀t∈DR p,32∉cl t:=by
  have e:∀q:Rat,32∉cl (Am q++⟨#[59]⟩):=λ q m=>by
   rw [Bh] at m;rcases XA.mp m with m | m
   ·exact KR q 32 (by omega) m
   ·exact absurd m (by decide)
  intro p;cases p<;>refine ⟨λ t ht=>?_,λ t ht=>?_⟩<;>simp only [toks,DR,wd,fracs,YV,xo,ZT,WE,or_false] at ht
  all_goals first
   | (rcases ht with rfl | rfl | rfl)
   | (rcases ht with rfl | rfl)
  all_goals first
   | exact KR _ 32 (by omega)
   | exact e _
   | decide+kernel
 intro ps
 induction ps with
 | nil=>intro t ht;cases ht
 | cons p r a=>
  cases r with
  | nil=>exact (one p).1
  | cons q r=>
   intro t ht;rcases XA.mp (show t∈DR p++Cu (q::r) from ht) with h | h
   ·exact (one p).2 t h
   ·exact a t h
theorem Rk:∀{a b:List Y2},a.map cl=b.map cl->a=b
 | [],[],_=>rfl
 | [],_::_,h=>by cases h
 | _::_,[],h=>by cases h
 | x::a,d::b,h=>by
  rw [YV,YV] at h;have c:=zi h;rw [ext c.1,Rk c.2]
theorem um {ps:List Pc}(h:ps≠[]):Xs (Cv ps) (Y1 " ")=Cu ps:=by
 refine Rk ?_;rw [Ln,Dr,M7 ps h];refine Mj (λ e=>?_) (vQ ps)
 cases ps with
 | nil=>exact h rfl
 | cons q r=>
  obtain ⟨t,b,a⟩:=Nj q r;rw [a] at e;cases e
def DW (w:Y2):List Y2:=if ql w (Y1 ";")=true then [UA w none (some (-1)),Y1 ";"] else [w]
def CW (a:List Y2):List Y2:=(a.map DW).flatten
theorem Lq {w:Y2}(h:59∉cl w):DW w=[w]:=by
 unfold DW;rw [if_neg];rw [Wj,aK,decide_eq_true_eq];intro e;exact h (List.mem_of_getLast? e)
theorem rC (w:Y2):DW (w++⟨#[59]⟩)=[w,Y1 ";"]:=by
 have e:cl (w++⟨#[59]⟩)=cl w++[59]:=Bh _ _;unfold DW;rw [if_pos]
 ·have:UA (w++⟨#[59]⟩) none (some (-1))=w:=ext (by rw [lC,e,GG])
  rw [this]
 ·rw [Wj,aK,e,GE];exact decide_eq_true rfl
theorem mV:∀(ps:List Pc),ps≠[]->CW (Cu ps)=Dn ps:=by
 have c:DW (Y1 "gap")=[Y1 "gap"]:=Lq (by decide+kernel)
 have a:DW (Y1 "glass")=[Y1 "glass"]:=Lq (by decide+kernel)
 have st:DW (Y1 "stop")=[Y1 "stop"]:=Lq (by decide+kernel)
 have s:∀q:Rat,DW (Am q)=[Am q]:=λ q=>Lq (KR q 59 (by omega))
 have one:∀p:Pc,CW (toks p)=toks p/\CW (DR p)=toks p++[Y1 ";"]:=by
  intro p;cases p<;>refine ⟨?_,?_⟩<;>simp only [CW,toks,DR,wd,fracs,YV,xo,zI,List.flatten_nil,c,a,st,s,rC]<;>rfl
 intro ps
 induction ps with
 | nil=>intro h;exact absurd rfl h
 | cons p r b=>
  intro _;cases r with
  | nil=>exact (one p).1
  | cons q r=>
   show CW (DR p++Cu (q::r))=toks p++Y1 ";"::Dn (q::r);have e:CW (DR p++Cu (q::r))=CW (DR p)++CW (Cu (q::r)):=by
    unfold CW;rw [YP,List.flatten_append]
   rw [e,(one p).2,b (by simp),US]
   rfl
end Tx
namespace Lib
open PySem L2 Fr Op Tx
abbrev CP (C dx a:Addr)(i:Nat):HO:=.ins C dx [("words",.ref a),("place",.int (i:Int))]
structure RdAt (C a dx wl:Addr)(ws:List Str)(i:Nat)(H:Hp):Prop where
 r:H a=some (CP C dx wl i)
 w:H wl=some (.lst (ws.map V.str))
 le:ws.length<=50000
theorem RdAt.keep {C a dx b:Addr}{c:List Str}{i:Nat}{H d:Hp}(h:RdAt C a dx b c i H)(s:Same H d):RdAt C a dx b c i d:=⟨s _ _ h.r,s _ _ h.w,h.le⟩
theorem RdAt.ne {C a dx b:Addr}{d:List Str}{i:Nat}{H:Hp}(h:RdAt C a dx b d i H):b≠a:=λ e=>by
 have f:=h.r;have c:=h.w;rw [e,f] at c;cases c
theorem RdAt.step {C a dx b:Addr}{c:List Str}{i:Nat}{H:Hp}(h:RdAt C a dx b c i H)(j:Nat):RdAt C a dx b c j (upd H a (CP C dx b j)):=⟨Aj,by rw [Ax h.ne];exact h.w,h.le⟩
theorem GX {a:Addr}{H:Hp}(o:HO):SD a H (upd H a o):=λ b u n e=>by rw [Ax n];exact e
theorem SD.ofSame {a:Addr}{H c:Hp}(s:Same H c):SD a H c:=λ b u _ e=>s _ _ e
theorem TY {C a dx d:Addr}{i:Nat}{H c:Hp}(h:H a=some (CP C dx d i))(s:SD a H c):Ex H c:=λ b g=>⟨λ e=>s b _ (λ f=>by rw [f,h] at e;cases e) e,λ o e=>s b _ (λ f=>by rw [f,h] at e;cases e) e⟩
theorem O6 {n:Nat}(h:n<=50000):n < X2:=yU h (by decide)
def tV (C:Addr):Sp:=λ vs H Q _=>∃a dx b,vs=[.ref a,.ref b]/\H a=some (.ins C dx [])/\Q .non (upd H a (CP C dx b 0))
def lU (C:Addr):Sp:=λ vs H Q _=>∃a dx c b i,vs=[.ref a]/\RdAt C a dx c b i H/\Q (.bl (decide (i=b.length))) H
def iZ (C:Addr):Sp:=λ vs H Q _=>∃a dx b c i d,vs=[.ref a]/\RdAt C a dx b c i H/\c[i]?=some d/\Q (.str d) (upd H a (CP C dx b (i+1)))
def mL (C:Addr):Sp:=λ vs H Q _=>∃a dx c b i d,vs=[.ref a,.str d]/\RdAt C a dx c b i H/\i<=b.length/\(b[i]?=some d->Q (.bl true) (upd H a (CP C dx c (i+1))))/\(b[i]?≠some d->Q (.bl false) H)
def jg:Sp:=λ vs H Q _=>∃x:Str,vs=[.str x]/\x.length+2<=X2/\(Xs x (Y1 " ")).length<=20001/\(∀w∈Xs x (Y1 " "),w.length<=50000)/\
 ∀l a,Same H a->H l=none->a l=some (.lst ((CW (Xs x (Y1 " "))).map V.str))->Q (.ref l) a
def qe:Sp:=λ vs H Q _=>∃(x:Str) (m:Nat),vs=[.str x]/\cl x=dg m/\(dg m).length<=15/\∀a,Same H a->Q (.int (m:Int)) a
def Qo (K:FrG):Sp:=λ vs H Q _=>∃q:Rat,vs=[.str (Am q)]/\Short q/\∀v a,Same H a->DV K a v (BK q)->Q v a
def DX (p:Pc):Prop:=p.ok/\∀q∈fracs p,Short q
def jd (K:FrG)(C:Addr):Sp:=λ vs H Q _=>∃(a dx d:Addr) (c:List Str) (i:Nat) (p:Pc) (dp:Int),vs=[.ref a,.int dp]/\RdAt C a dx d c i H/\(∀j t,(toks p)[j]?=some t->c[i+j]?=some t)/\DX p/\
 ∀v b,SD a H b->RdAt C a dx d c (i+(toks p).length) b->DV K b v (Bv p)->Q v b
def j6 (K:FrG)(C:Addr):Sp:=λ vs H Q _=>∃(a dx d:Addr) (c:List Str) (ps:List Pc) (dp:Int),vs=[.ref a,.int dp]/\RdAt C a dx d c 0 H/\c=Dn ps/\ps≠[]/\ps.length<=60/\(∀p∈ps,DX p)/\
 ∀l xs b,SD a H b->H l=none->RdAt C a dx d c c.length b->b l=some (.lst xs)->DVs K b xs (ps.map Bv)->Q (.ref l) b
def qg (K:FrG):Sp:=λ vs H Q _=>∃(v:V) (ps:List Pc),vs=[v]/\DV K H v (Fx ps)/\Q (.int (ps.length:Int)) H
def dC (K:FrG):Sp:=λ vs H Q _=>∃(v:V) (ps:List Pc),vs=[v]/\DV K H v (Fx ps)/\ps.length<=60/\∀l xs a,Same H a->H l=none->a l=some (.lst xs)->DVs K a xs (ps.map Bv)->Q (.ref l) a
def dH (K:FrG):Sp:=λ vs H Q _=>∃ps:List Pc,vs=[.str (Cv ps)]/\ps.length<=60/\(∀p∈ps,DX p)/\∀l xs a,Same H a->H l=none->a l=some (.lst xs)->DVs K a xs (ps.map Bv)->Q (.ref l) a
theorem GK (p:Pc):(toks p).length<=3/\2<=(toks p).length:=by cases p<;>exact ⟨by simp [toks,fracs],by simp [toks,fracs]⟩
theorem K4 {q:Rat}(h:Short q):(Am q).length<=40:=by rw [<- Ci,Do];exact Qe q h
theorem qt (p q:Pc)(r:List Pc):Dn (p::q::r)=toks p++Y1 ";"::Dn (q::r):=rfl
theorem Wu:∀ps:List Pc,(Dn ps).length<=4 * ps.length
 | []=>by decide
 | [p]=>by have:=GK p;show (toks p).length<=4 * 1;omega
 | p::q::r=>by
  rw [qt,ZA,U1];have:=GK p;have:=Wu (q::r);simp only [U1] at *;omega
theorem rP (p:Pc):(DR p).length<=3:=by cases p<;>simp [DR]
theorem Ro:∀ps:List Pc,(Cu ps).length<=3 * ps.length
 | []=>by decide
 | [p]=>by have:=GK p;show (toks p).length<=3 * 1;omega
 | p::q::r=>by
  show (DR p++Cu (q::r)).length<=_;rw [ZA];have:=rP p;have:=Ro (q::r);simp only [U1] at *;omega
theorem q8 (p:Pc)(h:DX p)(t:Str)(m:t∈toks p):t.length<=50:=by
 rcases ZT.mp m with rfl | m
 ·cases p with
  | gap _=>show (Y1 "gap").length<=50;decide+kernel
  | glass _=>show (Y1 "glass").length<=50;decide+kernel
  | stop _ _=>show (Y1 "stop").length<=50;decide+kernel
 ·obtain ⟨q,a,rfl⟩:=Jb.mp m;have:=K4 (h.2 q a);omega
theorem gJ (p:Pc)(h:DX p)(t:Str)(m:t∈DR p):t.length<=50:=by
 have e:∀q∈fracs p,(Am q++(⟨#[59]⟩:Str)).length<=50:=λ q a=>by
  rw [<- Ci,Bh,ZA,Ci];have:=K4 (h.2 q a);show _+1<=50;omega
 have s:∀q∈fracs p,(Am q).length<=50:=λ q a=>by have:=K4 (h.2 q a);omega
 cases p<;>simp only [DR,ZT,WE,or_false] at m
 ·rcases m with rfl | rfl
  ·decide+kernel
  ·exact e _ (by simp [fracs])
 ·rcases m with rfl | rfl
  ·decide+kernel
  ·exact e _ (by simp [fracs])
 ·rcases m with rfl | rfl | rfl
  ·decide+kernel
  ·exact s _ (by simp [fracs])
  ·exact e _ (by simp [fracs])
theorem Ra:∀(ps:List Pc),(∀p∈ps,DX p)->∀t∈Cu ps,t.length<=50
 | [],_,t,h=>by cases h
 | [p],a,t,h=>q8 p (a p ZU) t h
 | p::q::r,a,t,h=>by
  rcases XA.mp (show t∈DR p++Cu (q::r) from h) with m | m
  ·exact gJ p (a p ZU) t m
  ·exact Ra (q::r) (λ x b=>a x (Ya _ b)) t m
theorem XC (b:Str)(a:List Str)(c:Nat)(h:∀t∈a,t.length<=c):(XI b a).length<=a.length * (c+b.length):=by
 have f:=qn b a;have g:(a.map (·.length)).sum<=a.length * c:=by
  induction a with
  | nil=>exact JI _
  | cons t a d=>
   rw [YV,yN,U1,jS];have:=h t ZU;have:=d (λ x e=>h x (Ya _ e)) (qn b a)
   omega
 rw [Nat.mul_add];omega
theorem Jz {ps:List Pc}(h:ps.length<=60)(a:∀p∈ps,DX p):(Cv ps).length<=10000:=by
 cases ps with
 | nil=>decide+kernel
 | cons p r=>
  rw [M7 _ (by simp)]
  have b:=XC ⟨#[32]⟩ (Cu (p::r)) 50 (Ra _ a);have c:=Ro (p::r);have d:(Cu (p::r)).length * (50+(⟨#[32]⟩:Str).length)<=180 * 51:=QO (by omega) (by decide)
  omega
theorem mZ {ps:List Pc}(h:ps≠[]):Cv ps≠Y1 "":=λ e=>by
 have a:=congrArg cl e;rw [M7 ps h] at a;cases ps with
 | nil=>exact h rfl
 | cons p r=>
  have b:cl (XI ⟨#[32]⟩ (Cu (p::r)))≠[]:=by
   cases r with
   | nil=>cases p<;>(show cl (_++_++_)≠[];rw [Bh,Bh];intro c;simp at c)
   | cons q r=>
    obtain ⟨t,f,d⟩:=Nj q r;show cl (XI ⟨#[32]⟩ (DR p++Cu (q::r)))≠[];rw [d];cases p<;>(show cl (_++_++_)≠[];rw [Bh,Bh];intro c;simp at c)
  exact b a
end Lib
namespace L2
open PySem PySem.Spec PyProof.Rows
end L2
namespace Tx
open PySem PySem.Spec PySem.Builtin PySem.Builtin.Str L2 Lib Op
abbrev Ac:=Y1
end Tx
namespace Lib
open PySem L2 Fr Op Tx
end Lib
namespace L2
open PySem PySem.Spec PyProof.Rows
section
variable {κ:Type}[DecidableEq κ]
def valV (a:List (κ×V))(k:κ):Option V:=(a.find? λ b=>decide (b.1=k)).map (·.2)
def putK (a:List (κ×V))(k:κ)(v:V):List (κ×V):=
 if (a.any λ b=>decide (b.1=k))=true then a.map (λ b=>if b.1=k then (b.1,v) else b) else a++[(k,v)]
theorem Ec {p:κ×V}{r:List (κ×V)}{k:κ}(e:p.1=k):valV (p::r) k=some p.2:=by simp [valV,zE,e]
theorem Eg {p:κ×V}{r:List (κ×V)}{k:κ}(e:¬ p.1=k):valV (p::r) k=valV r k:=by simp [valV,zE,e]
theorem Jk (k:κ):∀a:List (κ×V),(a.any λ b=>decide (b.1=k))=(valV a k).isSome
 | []=>rfl
 | p::r=>by
  rw [yM];by_cases e:p.1=k
  ·simp only [Ec e,decide_eq_true e,qo,Option.isSome_some]
  ·rw [Eg e,decide_eq_false e,ua];exact Jk k r
theorem UG (k j:κ)(c:V):∀a:List (κ×V),valV (a.map λ b=>if b.1=k then (b.1,c) else b) j=(valV a j).map λ x=>if j=k then c else x
 | []=>rfl
 | p::r=>by
  have d:=UG k j c r;rw [YV];by_cases h:p.1=k
  ·rw [if_pos h];by_cases e:p.1=j
   ·rw [Ec (p:=(p.1,c)) e,Ec e,xT,if_pos (e.symm.trans h)]
   ·rw [Eg (p:=(p.1,c)) e,Eg e,d]
  ·rw [if_neg h];by_cases e:p.1=j
   ·rw [Ec (p:=p) e,Ec e,xT,if_neg (λ f=>h (e.trans f))]
   ·rw [Eg (p:=p) e,Eg e,d]
theorem XF (k j:κ)(b:V):∀a:List (κ×V),valV a k=none->valV (a++[(k,b)]) j=if j=k then some b else valV a j
 | [],_=>by
  by_cases e:k=j
  ·rw [if_pos e.symm];exact Ec (p:=(k,b)) e
  ·rw [if_neg (λ c=>e c.symm)];exact Eg (p:=(k,b)) e
 | p::r,hn=>by
  rw [List.cons_append];have d:¬ p.1=k:=λ c=>by rw [Ec c] at hn;cases hn
  rw [Eg d] at hn;have f:=XF k j b r hn;by_cases e:p.1=j
  ·rw [Ec e,Ec e,if_neg (λ c=>d (e.trans c))]
  ·rw [Eg e,Eg e,f]
theorem Nr (b:List (κ×V))(k j:κ)(c:V):valV (putK b k c) j=if j=k then some c else valV b j:=by
 unfold putK;by_cases a:(b.any λ d=>decide (d.1=k))=true
 ·rw [if_pos a,UG];rw [Jk] at a;by_cases e:j=k
  ·obtain ⟨x,f⟩:=zN.mp a;rw [if_pos e,e,f,xT,if_pos rfl]
  ·rw [if_neg e];cases valV b j with
   | none=>rfl
   | some x=>rw [xT,if_neg e]
 ·rw [if_neg a];refine XF k j c b ?_;rw [Jk] at a;cases q:valV b k with
  | none=>rfl
  | some x=>rw [q] at a;exact (a rfl).elim
theorem Tt (a:List (κ×V))(k:κ)(v:V):(putK a k v).length<=a.length+1:=by
 unfold putK
 split
 ·rw [Y6];omega
 ·rw [ZA,U1,WA];omega
theorem RelO.isSome_eq {o:Option V}{u:Option Value}(r:RelO o u):o.isSome=u.isSome:=by
 cases o with
 | none=>cases u with
  | none=>rfl
  | some _=>exact (show False from r).elim
 | some _=>cases u with
  | none=>exact (show False from r).elim
  | some _=>rfl
theorem RelO.getD {o:Option V}{u:Option Value}{d:V}{d':Value}(r:RelO o u)(a:RelV d d'):RelV (o.getD d) (u.getD d'):=by
 cases o with
 | none=>cases u with
  | none=>exact a
  | some _=>exact (show False from r).elim
 | some _=>cases u with
  | none=>exact (show False from r).elim
  | some _=>exact r
theorem KV.val {a:List (κ×V)}{vs:List (κ×Value)}(r:KV a vs)(k:κ):RelO (valV a k) (qr vs k):=by
 unfold KV at r
 induction r with
 | nil=>exact zM
 | @cons p q ps qs h t f=>
  obtain ⟨d,g⟩:=h;by_cases e:p.1=k
  ·have c:q.1=k:=d.symm.trans e;have b:qr (q::qs) k=some q.2:=by simp [qr,zE,c]
   rw [Ec e,b];exact g
  ·have c:¬ q.1=k:=λ i=>e (d.trans i)
   have b:qr (q::qs) k=qr qs k:=by simp [qr,zE,c]
   rw [Eg e,b];exact f
theorem KV.any {a:List (κ×V)}{vs:List (κ×Value)}(r:KV a vs)(k:κ):(a.any λ b=>decide (b.1=k))=vs.any λ b=>decide (b.1=k):=by
 unfold KV at r
 induction r with
 | nil=>rfl
 | cons h t c=>rw [yM,yM,c,h.1]
theorem KV.repl {c:List (κ×V)}{vs:List (κ×Value)}(r:KV c vs)(k:κ){g:V}{u:Value}(ry:RelV g u):
  KV (c.map λ a=>if a.1=k then (a.1,g) else a) (vs.map λ a=>if a.1=k then (a.1,u) else a):=by
 unfold KV at r ⊢
 induction r with
 | nil=>exact .nil
 | @cons p q ps qs h t d=>
  rw [YV,YV];refine .cons ?_ d;obtain ⟨b,f⟩:=h;by_cases e:p.1=k
  ·rw [if_pos e,if_pos (b.symm.trans e)];exact ⟨b,ry⟩
  ·rw [if_neg e,if_neg (λ i=>e (b.trans i))];exact ⟨b,f⟩
theorem KV.put {a:List (κ×V)}{vs:List (κ×Value)}(r:KV a vs)(k:κ){c:V}{u:Value}(ry:RelV c u):KV (putK a k c) (stored vs k u):=by
 unfold putK stored;rw [r.any k];by_cases e:(vs.any λ b=>decide (b.1=k))=true
 ·rw [if_pos e,if_pos e];exact r.repl k ry
 ·rw [if_neg e,if_neg e];exact yK.snoc r ⟨rfl,ry⟩
theorem KV.length {a:List (κ×V)}{vs:List (κ×Value)}(r:KV a vs):a.length=vs.length:=GY r
end
theorem Hg {P:Yg}{w:World}{k:Key}{u:Value}(r:RelV (kV k) u):(mixKind P w).is k u=true:=by
 cases k with
 | inl i=>obtain ⟨t,e⟩:=(show ∃t,u=yY i t from r);subst e;exact dR P w i t
 | inr x=>obtain ⟨t,e⟩:=(show ∃t:NZ,u=uj x t.1 from r);subst e;exact Tp P w x t.1
theorem ZZ {P:Yg}{w:World}:∀{ks:List Key} {us:List Value},Vals (ks.map kV) us->ItemsAre (mixKind P w) ks us
 | [],_,r=>by rw [xo] at r;cases r;exact .nil
 | k::ks,_,r=>by
  rw [YV] at r;cases r with
  | cons h t=>exact .cons (Hg h) (ZZ t)
abbrev KT (H:Hp):List (List Key×V)->List (List Key×Addr×Value)->Prop:=yK λ p q=>p.1=q.1/\H q.2.1=some (.tup (p.1.map kV))/\RelV p.2 q.2.2
theorem KT.val {H:Hp}{a:List (List Key×V)}{xs:List (List Key×Addr×Value)}(r:KT H a xs)(k:List Key):RelO (valV a k) ((atKey xs k).map (·.2)):=by
 induction r with
 | nil=>exact zM
 | @cons p q ps qs h t f=>
  obtain ⟨d,_,g⟩:=h;by_cases e:p.1=k
  ·have c:q.1=k:=d.symm.trans e;have b:atKey (q::qs) k=some q.2:=by simp [atKey,zE,c]
   rw [Ec e,b];exact g
  ·have c:¬ q.1=k:=λ i=>e (d.trans i)
   have b:atKey (q::qs) k=atKey qs k:=by simp [atKey,zE,c]
   rw [Eg e,b];exact f
theorem KT.repl {H:Hp}{b:List (List Key×V)}{xs:List (List Key×Addr×Value)}(r:KT H b xs)(k:List Key){i:V}{u:Value}(ry:RelV i u):
  KT H (b.map λ c=>if c.1=k then (c.1,i) else c) (xs.map (putAt k u)):=by
 induction r with
 | nil=>exact .nil
 | @cons p q ps qs h t f=>
  rw [YV,YV];refine .cons ?_ f;obtain ⟨a,d,g⟩:=h;unfold putAt;by_cases e:p.1=k
  ·rw [if_pos e,if_pos (a.symm.trans e)];exact ⟨a,d,ry⟩
  ·rw [if_neg e,if_neg (λ j=>e (a.trans j))];exact ⟨a,d,g⟩
theorem KT.put {H:Hp}{a:List (List Key×V)}{xs:List (List Key×Addr×Value)}(r:KT H a xs)(k:List Key){b:Addr}{d:V}{u:Value}(hb:H b=some (.tup (k.map kV)))(ry:RelV d u):
  KT H (putK a k d) (storedH xs k b u):=by
 have e:(a.any λ c=>decide (c.1=k))=(atKey xs k).isSome:=by
  rw [Jk,(r.val k).isSome_eq,Option.isSome_map]
 unfold putK storedH;rw [e];by_cases q:(atKey xs k).isSome=true
 ·rw [if_pos q,if_pos q];exact r.repl k ry
 ·rw [if_neg q,if_neg q];exact yK.snoc r ⟨rfl,hb,ry⟩
theorem KT.keeps {H c:Hp}{a:List (List Key×V)}{xs:List (List Key×Addr×Value)}(r:KT H a xs)(ht:∀b d,H b=some (.tup d)->c b=some (.tup d)):KT c a xs:=
 yK.mapP r λ _ _ e=>⟨e.1,ht _ _ e.2.1,e.2.2⟩
section
variable {P:Yg}{w:World}{H:Hp}{h:Heap}{a:Addr}
theorem Ug {u:HO}(ok:HOk P w H h)(e:Rd H a u):ObjOk P w H h a u:=e.ok ok
theorem M8 {b:List (Key×V)}(ok:HOk P w H h)(e:Rd H a (.dK b)):b.length<=X2/\(a == zp)=false/\∃vs,KV b vs/\h.DictOf (mixKind P w) a vs:=
 show ObjOk P w H h a (.dK b) from Ug ok e
theorem eN {b:List (Key×V)}(ok:HOk P w H h)(e:H a=some (.dK b)):b.length<=X2/\(a == zp)=false/\∃vs,KV b vs/\h.DictOf (mixKind P w) a vs:=M8 ok (.inl e)
theorem Lp {b:List Key}(ok:HOk P w H h)(e:H a=some (.tup (b.map kV))):(GO (mixKind P w)).is h b a:=by
 obtain ⟨_,its,r,o,c,d,n,f⟩:=(show ObjOk P w H h a (.tup (b.map kV)) from ok a _ e)
 exact ⟨o,its.toArray,n,c,d,f,by simpa using ZZ r⟩
theorem Ka {c:List (List Key×V)}(ok:HOk P w H h)(e:Rd H a (.dT c)):c.length<=X2/\(a == zp)=false/\
  ∃xs,KT H c xs/\h.DictOfH (GO (mixKind P w)) a xs:=by
 obtain ⟨v,y,xs,r,o,f,g,i,j,k,n,s⟩:=(show ObjOk P w H h a (.dT c) from Ug ok e)
 refine ⟨v,y,xs,r,o,f,g,i,j,k,n,λ x b=>?_,s⟩
 have all:∀{l:List (List Key×V)} {m:List (List Key×Addr×Value)},KT H l m->∀x∈m,(GO (mixKind P w)).is h x.1 x.2.1:=by
  intro l m q
  induction q with
  | nil=>intro x b;exact nomatch b
  | @cons p q ps qs d t u=>
   intro x b;rcases ZT.mp b with e | b
   ·subst e;exact Lp ok (by rw [<- d.1];exact d.2.1)
   ·exact u x b
 exact all r x b
theorem cu {b:List (List Key×V)}(ok:HOk P w H h)(e:H a=some (.dT b)):b.length<=X2/\(a == zp)=false/\
  ∃xs,KT H b xs/\h.DictOfH (GO (mixKind P w)) a xs:=Ka ok (.inl e)
end
def DGet (H:Hp)(a:Addr)(d:V)(r:Option V):Prop:=
 (∃c k,Rd H a (.dK c)/\d=kV k/\r=valV c k)\/∃c k b,Rd H a (.dT c)/\d=.ref b/\H b=some (.tup (k.map kV))/\r=valV c k
def DPut (H:Hp)(a:Addr)(e v:V)(d:Hp):Prop:=
 (∃c k,H a=some (.dK c)/\e=kV k/\c.length < X2/\d=upd H a (.dK (putK c k v)))\/
 ∃c k b,H a=some (.dT c)/\e=.ref b/\H b=some (.tup (k.map kV))/\c.length < X2/\d=upd H a (.dT (putK c k v))
theorem DGet.k {H:Hp}{a:Addr}{b:List (Key×V)}{k:Key}(e:H a=some (.dK b)):DGet H a (kV k) (valV b k):=.inl ⟨b,k,.inl e,rfl,rfl⟩
theorem DPut.k {H:Hp}{a:Addr}{b:List (Key×V)}{k:Key}{v:V}(e:H a=some (.dK b))(hl:b.length < X2):DPut H a (kV k) v (upd H a (.dK (putK b k v))):=.inl ⟨b,k,e,rfl,hl,rfl⟩
section
variable {X:Cx}{pins:List (Addr×Obj)}{σ:St}{H:Hp}{s:X1}{a:Addr}{y v:V}{u r:Value}{o:Option V}{A:XE}{E:Value->X1->Prop}
theorem Inv.big (b:Inv X pins σ H s):zp < s.heap.objs.size:=by
 have h:ZY < s.heap.objs.size:=(b.mod.glob.keeps b.bk).lt;exact zt (by decide) h
theorem vI {Q:Value->X1->Prop}(q:A.units+1 < cLine)(j:Inv X pins σ H s)(z:DGet H a y (some v))(ry:RelV y u)(h:∀c s',Inv X pins σ H s'->RelV v c->Q c s'):
  wpAny (model X.prog X.w) A (wW (.ref a) u) Q E s:=by
 rcases z with ⟨m,k,e,g,l⟩ | ⟨m,k,b,e,g,t,l⟩
 ·subst g;obtain ⟨B,hd,vs,d,dd⟩:=M8 j.hok e;obtain ⟨c,i,f⟩:=RelO.some_of (v:=v) (o:=qr vs k) (by rw [l];exact d.val k)
  exact wpAny_getItem_of (Hg ry) dd.mapOf i (h c _ (j.tok _) f)
 ·subst g;cases (show u=YI b from ry)
  obtain ⟨B,hd,xs,d,dd⟩:=Ka j.hok e;obtain ⟨c,i,f⟩:=RelO.some_of (v:=v) (o:=(atKey xs k).map (·.2)) (by rw [l];exact d.val k)
  obtain ⟨p,x,n⟩:=UK.mp i;refine wpAny_getItem_heap (wH q) (Lp j.hok t) dd x ?_;rw [n];exact h c _ (j.tok _) f
theorem cD {Q:Value->X1->Prop}(i:A.units+1 < cLine)(f:Inv X pins σ H s)(m:DGet H a y o)(ry:RelV y u)(h:∀s',Inv X pins σ H s'->Q (.bool (!o.isSome)) s'):
  wpAny (model X.prog X.w) A (zm .NotIn u (.ref a)) Q E s:=by
 rcases m with ⟨g,k,e,d,l⟩ | ⟨g,k,b,e,d,j,l⟩
 ·subst d;obtain ⟨n,hd,vs,c,dd⟩:=M8 f.hok e;refine wpAny_notIn_of (Hg ry) hd dd.mapOf ?_;rw [<- (c.val k).isSome_eq,<- l];exact h _ (f.tok _)
 ·subst d;cases (show u=YI b from ry)
  obtain ⟨n,hd,xs,c,dd⟩:=Ka f.hok e;refine wpAny_notIn_heap (wH i) (Lp f.hok j) hd dd ?_;have q:=(c.val k).isSome_eq;rw [Option.isSome_map] at q;rw [<- q,<- l];exact h _ (f.tok _)
theorem Ze {h':Heap}{t':Nat}{ob:HO}(h:Inv X pins σ H s)(d:Mut (H a))(f:JT a s.heap h')(g:∃q,h'.get? a=some q)(c:ObjOk X.prog X.w (upd H a ob) h' a ob)(ht:1<=t':=by first | assumption | exact Inv.tk (by assumption) | exact YU _ _ | omega):
  Inv X pins σ (upd H a ob) { s with heap:=h',toks:=t' }:=
 h.write (x:=a) (e:=a) d (.inl rfl) (λ b q hb i=>(f.2 b hb).trans i) g c
theorem tL {P:Yg}{w:World}{d:Hp}{h':Heap}{b:List (Key×V)}{vs:List (Key×Value)}(e:b.length<=X2)(hd:(a == zp)=false)(c:KV b vs)(dd:h'.DictOf (mixKind P w) a vs):
  ObjOk P w d h' a (.dK b):=⟨e,hd,vs,c,dd⟩
theorem lW {t:Hp}{Q:Unit->X1->Prop}(F:A.units+1 < cLine)(x:Inv X pins σ H s)(O:DPut H a y v t)(ry:RelV y u)(z:RelV v r)(h:∀s',Inv X pins σ t s'->Q () s'):
  wpAny (model X.prog X.w) A (setItem (.ref a) u r) Q E s:=by
 rcases O with ⟨d,k,e,j,l,m⟩ | ⟨d,k,b,e,j,B,l,m⟩
 ·subst j m;obtain ⟨C,hd,vs,f,dd⟩:=eN x.hok e;have n:vs.length<=X2:=by rw [<- f.length];exact C
  have hl:(putK d k v).length<=X2:=by have:=Tt d k v;omega
  refine wpAny_setItem_pairs (hsz:=n) (Hg ry) dd λ h' g p=>h _ ?_
  have G:∃q,h'.get? a=some q:=let ⟨q,_,_,i,_⟩:=g;⟨q,i⟩
  exact Ze x (by rw [e];exact zM) p G (tL hl hd (f.put k z) g)
 ·subst j m;cases (show u=YI b from ry)
  obtain ⟨C,hd,xs,f,dd⟩:=cu x.hok e;have n:xs.length<=X2:=by rw [<- GY f];exact C
  have hl:(putK d k v).length<=X2:=by have:=Tt d k v;omega
  refine wpAny_setItem_heap (hsz:=n) (wH F) (Lp x.hok B) dd λ h' g p=>h _ ?_
  obtain ⟨q,I,J,i,K,L,M,_,N⟩:=g;refine Ze x (by rw [e];exact zM) p ⟨q,i⟩ ⟨hl,hd,_,(f.put k B z).keeps λ c P D=>?_,q,I,J,i,K,L,M,N⟩
  rw [Ax (cW D e (λ C=>nomatch C))]
  exact D
end
def NoSl (i:Expr):Prop:=∀a b,wV i false a b=operate [a,b] (wW a b)
theorem V4 {prog:Yg}{w:World}{A:XE}{E:Value->X1->Prop}{s:X1}{env:Env}{b a:Expr}{pos:Pos}{T id:String}{Q:Value->X1->Prop}
  (hl:typeLookup (.type T) "__getitem__"=pure (some (.builtin id))) (m:NoSl a)
  (h:wpAny (model prog w) A (eval b env) (λ o e=>wpAny (model prog w) A (eval a env) (λ i c=>c.TypeIs o T/\wpAny (model prog w) A (wW o i) Q E c) E e) E s):
  wpAny (model prog w) A (eval (.Subscript b a pos) env) Q E s:=by
 refine Subscript_ (XW h (λ o e j=>XW j (λ i c d=>?_) λ _ _ x=>x) λ _ _ x=>x)
 obtain ⟨l,d⟩:=d;unfold subscriptTail;refine Y3 ?_;rw [getitemInPython_of_ne l.not_modules];refine Y3 (qB l hl ?_);have f:wpAny (model prog w) A (wV a false o i) (λ r g=>wpAny (model prog w) A (letTemporaryGo b o r >>= λ _=>pure r) Q E g) E c:=by
  rw [m o i];exact wpAny_operating (XW d (λ r g k=>Y3 (wpAny_letTemporaryGo (ZH k))) λ _ _ x=>x)
 first
  | exact ZH (Y3 f)
  | exact Y3 (ZH (Y3 f))
  | exact Y3 f
theorem cZ {X:Cx}{c:List (Addr×Obj)}{f:St}{H:Hp}{s:X1}{a:Addr}{h:V}{o:Option V}(g:Inv X c f H s)(i:DGet H a h o):s.TypeIs (.ref a) "dict":=by
 rcases i with ⟨d,k,e,_,_⟩ | ⟨d,k,b,e,_,_,_⟩
 ·obtain ⟨_,_,vs,_,dd⟩:=M8 g.hok e;exact dd.typeIs
 ·obtain ⟨_,_,xs,_,dd⟩:=Ka g.hok e;exact dd.typeIs
def tDGet (d e:TE):TE:=λ b H Q=>d b H λ x f=>e b f λ g c=>∃a v,x=.ref a/\DGet c a g (some v)/\Q v c
def tDNotIn (d e:TE):TE:=λ b H Q=>d b H λ g f=>e b f λ x c=>∃a o,x=.ref a/\DGet c a g o/\Q (.bl (!o.isSome)) c
def sDPut (d e f:TE):TS:=λ j b H=>f b H λ v g=>d b g λ x h=>e b h λ k i=>∃a c,x=.ref a/\DPut i a k v c/\j.nx b c
section
variable {X:Cx}{o i e value:Expr}{pos pos' tpos:Pos}{td ty tv:TE}
theorem YX (g:X.A.units+1 < cLine)(j:PE X o td)(k:PE X i ty)(l:NoSl i):PE X (.Subscript o i pos) (tDGet td ty):=by
 intro b s c H Q B h;refine V4 wJ.lookup l (thn (j b s c H _ B h) λ u m ⟨x,n,p,q,r⟩=>thn (k b m c n _ p r) λ C D ⟨I,t,d,ry,a,v,ex,z,w⟩=>?_)
 subst ex;obtain rfl:u=YI a:=q;exact ⟨cZ d z,vI g d z ry λ E G y f=>⟨v,t,y,f,w⟩⟩
theorem ZQ (d:X.A.units+1 < cLine)(f:PE X i ty)(g:PE X o td):PC X .NotIn i o (tDNotIn ty td):=by
 intro b s c H Q w h;refine thn (f b s c H _ w h) λ y j ⟨D,k,l,ry,m⟩=>thn (g b j c k _ l m) λ u z ⟨x,n,p,q,a,r,ex,B,t⟩=>?_
 subst ex;obtain rfl:u=YI a:=q;exact cD d p B ry λ C v=>⟨.bl (!r.isSome),n,v,rfl,t⟩
theorem cY (d:X.A.units+1 < cLine)(f:PE X o td)(g:PE X i ty)(hv:PE X value tv)(j:xf value (some (.Subscript o i pos')) pos.line X.env=pure false):
  PS X (.Assign [.Subscript o i pos'] value pos) (sDPut td ty tv):=by
 intro b s c H M F h;refine wpAny_Assign_Subscript (thn (hv b s c H _ F h) λ r k ⟨v,l,m,n,p⟩=>thn (f b k c l _ m p) λ u q ⟨x,t,w,y,z⟩=>thn (g b q c t _ w z) λ G I ⟨N,J,B,ry,a,C,ex,K,D⟩=>?_) j
 subst ex;obtain rfl:u=YI a:=y;exact lW d B K ry n λ L E=>⟨c,C,E,D⟩
end
theorem iG {P:Yg}{w:World}{H:Hp}(h:Heap)(hb:zp < h.objs.size):ObjOk P w H (h.push { cls:=.type "dict",data:=.dict #[] }) h.objs.size (.dK []):=
 ⟨JI _,beq_eq_false_iff_ne.mpr (WU (YO hb)),[],.nil,Heap.DictOf.new h⟩
def tDNewK:TE:=λ _ H Q=>∀p,H p=none->Q (.ref p) (upd H p (.dK []))
section
variable {X:Cx}{pos:Pos}
theorem mD:PE X (.Dict [] [] pos) tDNewK:=λ b s d H Q c h=>
 wpAny_Dict_empty ⟨.ref s.heap.objs.size,_,c.laid (a:=s.heap.objs.size) (o:=.dK []) (t':=s.toks) (λ _ _ q=>X9 _ q) (YE _) (iG s.heap c.big),rfl,h _ (c.hok.fresh (YE _))⟩
end
structure M1 (X:Cx)(o:Expr)(m:Str)(apos:Pos)(e:Expr)(cpos:Pos):Prop where
 base:yn o m X.env (eval o X.env)=eval o X.env
 few:((QK cpos (YM [e] X.env)).all (λ x=>!x.1) && (wG cpos (yD [] X.env)).all (λ x=>x.1.isSome)
  && decide (([e]:List Expr).length+([]:List GS).length+(if ([]:List GS).isEmpty then 0 else 1) < 30))=true
 line:(apos.endLine == cpos.line)=true
 trees:QK cpos (YM [e] X.env)=[(false,eval e X.env)]
end L2
namespace PySem
open Sem (wp)
end PySem
namespace L2
open PySem PySem.Spec PyProof.Rows PySem.Builtin
theorem RoomB.units1 {c:Bool}{k:Nat}{A:XE}(h:RoomB c k A):A.units+1 < cLine:=yU (by omega) h.units
end L2
namespace L2
open PySem PySem.Spec PyProof.Rows
end L2
namespace L2
open PySem PySem.Spec PyProof.Rows PySem.Builtin
structure DKG (P:Yg)(w:World)(K:FrG)(a:Addr)(kvs:List (Key×V)):Prop where
 ex:∃(vs:List (Key×Value)) (o:Obj) (es:Array xg) (ep:Nat),KV kvs vs/\K.lookup a=some o/\o.ExactDict/\o.data=.dict es ep/\KeysOf (mixKind P w) es/\Pairs (mixKind P w) es.toList vs/\(vs.map (·.1)).Nodup
 ns:(a == zp)=false
section
variable {X:Cx}{pins:List (Addr×Obj)}{σ:St}{H:Hp}{s:X1}{a:Addr}{kvs:List (Key×V)}
theorem DKG.dd (g:Inv X pins σ H s)(h:DKG X.prog X.w X.K a kvs):∃vs,KV kvs vs/\s.heap.DictOf (mixKind X.prog X.w) a vs:=by
 obtain ⟨vs,o,b,c,d,l,ex,hd,e,f,hn⟩:=h.ex;exact ⟨vs,d,o,b,c,g.kIn _ _ l,ex,hd,e,f,hn⟩
def lR (P:Yg)(w:World)(K:FrG)(b c:TE):TE:=λ σ H Q=>b σ H λ x d=>c σ d λ f e=>∃a kvs k v,x=.ref a/\DKG P w K a kvs/\f=kV k/\valV kvs k=some v/\Q v e
def vV (P:Yg)(w:World)(K:FrG)(b c:TE):TE:=λ σ H Q=>b σ H λ x d=>∃a kvs,x=.ref a/\DKG P w K a kvs/\c σ d λ f e=>∃k,f=kV k/\Q ((valV kvs k).getD .non) e
end
section
variable {X:Cx}{o i e:Expr}{es:List Expr}{pos apos cpos:Pos}{td ty tf:TE}{t:TA}{E:XK}
theorem Ji (j:PE X o td)(m:PE X i ty)(n:NoSl i):PE X (.Subscript o i pos) (lR X.prog X.w X.K td ty):=by
 intro b s c H Q I h;refine V4 wJ.lookup n (thn (j b s c H _ I h) λ u p ⟨x,q,r,y,z⟩=>thn (m b p c q _ r z) λ J L ⟨O,A,d,ry,a,G,k,v,ex,M,B,l,C⟩=>?_)
 subst ex;subst B;obtain rfl:u=YI a:=y;obtain ⟨vs,f,dd⟩:=M.dd d;obtain ⟨N,D,g⟩:=RelO.some_of (v:=v) (o:=qr vs k) (by rw [<- l];exact f.val k)
 exact ⟨dd.typeIs,wpAny_getItem_of (Hg ry) dd.mapOf D ⟨v,A,d.tok _,g,C⟩⟩
theorem Z7 (p:PE X o td)(r:PE X e ty)(m:M1 X o "get" apos e cpos):PE X (.Call (.Attribute o "get" apos) [e] [] cpos) (vV X.prog X.w X.K td ty):=by
 intro c s f H Q N h;refine wpAny_Call_method m.base m.few m.line PySem.F.plainAttrs_dict qU PySem.F.type_dict_get (thn (p c s f H _ N h) λ u v ⟨x,y,g,z,a,j,ex,A,B⟩=>?_)
 subst ex;obtain rfl:u=YI a:=z;obtain ⟨M,C,d⟩:=A.dd g;refine ⟨d.typeIs,(λ b q=>?_),?_⟩
 ·cases q
  obtain ⟨ob,_,_,D,G,_⟩:=d;exact ⟨ob,D,G.2.1⟩
 rw [m.trees];refine xn rfl (yy (wo (thn (r c v f y _ g B) λ O P ⟨R,I,l,ry,k,J,L⟩=>wM ?_)))
 subst J;obtain ⟨vs,n,dd⟩:=A.dd l;exact call_meetsIn qU dd.typeIs PySem.F.entry_dict_get (PySem.F.args_dict_get_2 _ _) (meets_dict_get (mixKind X.prog X.w) a (Hg ry) A.ns) ⟨_,dd.mapOf,⟨(valV j k).getD .non,I,l.tok _,(n.val k).getD (show RelV .non WR from rfl),L⟩⟩
def rD (P:Yg)(w:World)(K:FrG)(mg:Str->Option Value)(base:Heap)(A:XE)(E:XK)(tf:TE)(t:TA):TE:=λ a H Q=>tf a H λ x b=>∃(f:Addr) (fd:JN) (m:Nat) (ps:List Str) (sp:Sp),x=.ref f/\FnB P w K mg base true m f fd ps sp/\YN K (.ref f)=true/\Binds K fd ps []/\RoomB true m A/\t a b λ vs c=>sp (vs++[]) c Q E
theorem Jt (g:Passes (Cz X.prog X.w) X E)(hf:PE X o tf)(ha:PA X (e::es) t)
  (j:YM (e::es) X.env=(false,eval e X.env)::YM es X.env:=by rfl) (d:(QK pos (YM es X.env)).any (·.1)=false:=by rfl)
  (k:eval (.Call o (e::es) [] pos) X.env=(do GN pos (<- eval o X.env) [] (QK pos (YM (e::es) X.env)) (wG pos (yD [] X.env))):=by rfl):
  PE X (.Call o (e::es) [] pos) (rD X.prog X.w X.K X.mg X.base X.A E tf t):=by
 intro a s b H Q F h;refine Call_ (thn (hf a s b H _ F h) λ u l ⟨x,n,p,v,f,fd,m,ps,sp,ex,G,y,hb,z,q⟩=>?_) k
 subst ex;obtain rfl:u=YI f:=v;refine JJ (h₀:=X.base) F.ok.mod.kin y (thn (ha pos a l b n _ p q) λ us B ⟨vs,C,c,r,D⟩=>⟨c.kIn,?_⟩) j d
 exact HY G z hb c r D λ e s' h=>g a b C B e s' c h
end
end L2
namespace Tx
open PySem PySem.Builtin PySem.Builtin.Str PySem.StrLaws
theorem Np (s sub:Str)(b c:Nat):∀(l:List Nat) (st:Array Nat×Nat),∃more,(forIn l st (qv s sub b c)).run.fst.toList=st.fst.toList++more
 | [],st=>⟨[],by simp⟩
 | a::l,st=>by
  rw [zb];unfold qv
  split
  ·obtain ⟨more,h⟩:=Np s sub b c l (st.fst.push a,a+sub.length);exact ⟨a::more,by
    have h':(forIn l (st.fst.push a,a+sub.length) (qv s sub b c)).run.fst.toList=st.fst.toList++(a::more):=by rw [h];simp
    exact h'⟩
  ·exact Np s sub b c l (st.fst,st.snd)
theorem aY (s sub:Str)(b k:Nat):∀(l:List Nat) (st:Array Nat×Nat),k<=st.fst.size->(forIn l st (qv s sub b k)).run.fst=st.fst
 | [],st,_=>rfl
 | a::l,st,h=>by
  rw [zb];unfold qv;rw [if_neg (λ c=>by have:=c.1.1.1;omega)]
  exact aY s sub b k l (st.fst,st.snd) h
theorem RL (s sub:Str)(b:Nat){k g:Nat}(f:k<=g):∀(l:List Nat) (st:Array Nat×Nat),st.fst.size<=k->(forIn l st (qv s sub b k)).run.fst.toList=(forIn l st (qv s sub b g)).run.fst.toList.take k
 | [],st,h=>by
  show st.fst.toList=st.fst.toList.take k;rw [JU (by rw [Jq];exact h)]
 | a::l,st,h=>by
  by_cases e:st.fst.size=k
  ·rw [aY s sub b k (a::l) st (by omega)]
   obtain ⟨more,hm⟩:=Np s sub b g (a::l) st;rw [hm,List.take_left' (by rw [Jq];exact e)]
  ·have lt:st.fst.size < k:=by omega
   rw [zb,zb];unfold qv;by_cases c:(st.snd<=a/\a+sub.length<=b)/\subAt s sub a=true
   ·rw [if_pos ⟨⟨⟨lt,c.1.1⟩,c.1.2⟩,c.2⟩,if_pos ⟨⟨⟨by omega,c.1.1⟩,c.1.2⟩,c.2⟩]
    exact RL s sub b f l (st.fst.push a,a+sub.length) (by simp only [Array.size_push];omega)
   ·rw [if_neg (λ d=>c ⟨⟨d.1.1.2,d.1.2⟩,d.2⟩),if_neg (λ d=>c ⟨⟨d.1.1.2,d.1.2⟩,d.2⟩)]
    exact RL s sub b f l (st.fst,st.snd) h
theorem Uv (x a:Str){k:Nat}(h:k<=x.length+1):Xt x a 0 x.length k=(Xt x a 0 x.length (x.length+1)).take k:=by
 rw [occ_eq,occ_eq];exact RL x a x.length h _ _ (JI _)
theorem bM {x:Str}{c:Nat}{a b t:List Nat}(i:cl x=a++c::(b++c::t))(ha:c∉a)(hb:c∉b):∃c0 c1,Xt x ⟨#[c]⟩ 0 x.length 2=[c0,c1]/\(zL x [c0,c1] 1).map cl=[a,b,t]:=by
 have d:=Dr x c;rw [i,Hi _ ha,Hi _ hb] at d;have hl:2<=x.length+1:=by
  have:(cl x).length=x.length:=by show x.cps.toList.length=_;rw [Jq];rfl
  rw [i] at this;simp only [ZA,U1] at this;omega
 have o:2<=(cut c t).length+1:=by
  have:cut c t≠[]:=by
   cases t with
   | nil=>simp [cut]
   | cons p zs=>
    unfold cut
    split
    ·simp
    ·split<;>simp
  have:=List.length_pos_iff.mpr this;omega
 have ht:=Uv x ⟨#[c]⟩ hl;have e:Xs x ⟨#[c]⟩=partsFrom x 1 0 (Xt x ⟨#[c]⟩ 0 x.length (x.length+1))\/(Xs x ⟨#[c]⟩).length=1:=by
  unfold Xs
  split
  ·exact .inr rfl
  ·split
   ·exact .inr rfl
   ·exact .inl (partsBetween_eq x _ 1)
 rcases e with e | e
 ·rw [e] at d;cases j:Xt x ⟨#[c]⟩ 0 x.length (x.length+1) with
  | nil=>
   rw [j] at d;have:=congrArg Qf d;simp only [partsFrom,Y6,U1,WA] at this;omega
  | cons c0 r=>
   rw [j] at d ht;cases r with
   | nil=>
    have:=congrArg Qf d;simp only [partsFrom,Y6,U1,WA] at this;omega
   | cons c1 r=>
    have e2:Xt x ⟨#[c]⟩ 0 x.length 2=[c0,c1]:=ht;refine ⟨c0,c1,e2,?_⟩;have d:cl (yW x 0 c0)::cl (yW x (c0+1) c1)::(partsFrom x 1 (c1+1) r).map cl=a::b::cut c t:=d;have k:=(zi d).1;have l:=(zi (zi d).2).1;rw [partsBetween_eq];show [cl (yW x 0 c0),cl (yW x (c0+1) c1),cl (yW x (c1+1) x.length)]=_;obtain ⟨f,ch⟩:=occ_chain x ⟨#[c]⟩ 2;rw [e2] at ch;have h:=join_partsFrom x ⟨#[c]⟩ [c0,c1] 0 f ch;rw [sub_whole] at h;have h:XI ⟨#[c]⟩ [yW x 0 c0,yW x (c0+1) c1,yW x (c1+1) x.length]=x:=h;have g:=congrArg cl h;rw [show XI ⟨#[c]⟩ [yW x 0 c0,yW x (c0+1) c1,yW x (c1+1) x.length]=yW x 0 c0++⟨#[c]⟩++(yW x (c0+1) c1++⟨#[c]⟩++yW x (c1+1) x.length) from rfl,Bh,Bh,Bh,Bh,k,l,i] at g
    have m:cl (⟨#[c]⟩:Str)=[c]:=rfl;rw [m] at g;have n:cl (yW x (c1+1) x.length)=t:=by
     have:a++[c]++(b++[c]++cl (yW x (c1+1) x.length))=a++c::(b++c::t):=g;simp only [US,List.cons_append,xR] at this;have:=uv this;have:=(zi this).2;have:=uv this;exact (zi this).2
    rw [k,l,n]
 ·have:=congrArg Qf d;rw [Y6,e] at this;simp only [U1] at this;omega
end Tx
namespace L2
open PySem PySem.Spec PyProof.Rows PySem.Builtin PySem.Builtin.Str Tx
def bV:V->List V->Hp->VK->Prop:=λ x vs H Q=>∃i sa a st:Str,x=.str i/\vs=[.str (Y1 " "),.int 2]/\cl i=cl sa++32::(cl a++32::cl st)/\32∉cl sa/\32∉cl a/\i.length+2<=X2/\∀p,H p=none->Q (.ref p) (upd H p (.lst [.str sa,.str a,.str st]))
theorem jA {a b:Str}(h:cl a=cl b):a=b:=by
 obtain ⟨⟨x⟩⟩:=a;obtain ⟨⟨c⟩⟩:=b;have h:x=c:=h;rw [h]
theorem aD {X:Cx}:MtM X "str.split" bV:=by
 intro k s r H x vs v us Q j l m h;obtain ⟨i,sa,a,st,rfl,rfl,c,ha,hb,y,q⟩:=h;obtain ⟨t,rfl⟩:=l;obtain ⟨u,w,rfl,n,d⟩:=vals2 m;obtain ⟨t',rfl⟩:=n;obtain ⟨t2,rfl⟩:=d;have e1:(Y1 " ")=(⟨#[32]⟩:Str):=by decide+kernel
 obtain ⟨c0,c1,f,b⟩:=bM c ha hb;rw [e1];have o:0 < i.length:=by
  have:(cl i).length=i.length:=by show i.cps.toList.length=_;rw [Jq];rfl
  rw [c] at this;simp only [ZA,U1] at this;omega
 have p:(decide (i.length < (⟨#[32]⟩:Str).length) || decide (WG i < WG ⟨#[32]⟩))=false:=by
  have k1:WG (⟨#[32]⟩:Str)=1:=by decide+kernel
  have k2:1<=WG i:=by
   unfold WG
   split
   ·exact YE _
   ·split<;>decide
  have k3:(⟨#[32]⟩:Str).length=1:=rfl;rw [k1,k3,decide_eq_false (by omega),decide_eq_false (by omega)]
  rfl
 have g:wj i 2=2:=rfl;have hf:(Xt i ⟨#[32]⟩ 0 i.length (wj i 2)).isEmpty=false:=by rw [g,f];rfl
 have pb:zL i (Xt i ⟨#[32]⟩ 0 i.length (wj i 2)) (⟨#[32]⟩:Str).length=[sa,a,st]:=by
  rw [g,f];have b:(zL i [c0,c1] 1).map cl=[sa,a,st].map cl:=b;exact List.map_inj_right (λ _ _=>jA) |>.mp b
 refine zQ XO (zz _ _ _) xb (yO _ _ _) (meets_str_split_sep_max i ⟨#[32]⟩ 2 t t' t2 (by decide) p rfl hf (by omega) (by rw [pb];show 3<=X2;decide)) ?_
 show wants _ _ _ { s with toks:=_,heap:=s.heap.push { cls:=.type "list",data:=.seq (strsFrom s.toks (zL i (Xt i ⟨#[32]⟩ 0 i.length (wj i 2)) (⟨#[32]⟩:Str).length)).toArray } }
 rw [pb,strsFrom_eq];refine ⟨.ref s.heap.objs.size,_,?_,rfl,q _ j.fresh⟩;have e:(numbered s.toks [sa,a,st]).map (·.1)=[sa,a,st]:=xx _ _
 have:[V.str sa,V.str a,V.str st]=((numbered s.toks [sa,a,st]).map (·.1)).map V.str:=by rw [e];rfl
 rw [this];exact j.lnew (Kv _ (Jc _ _ j.tk)) (by rw [e];show 3<=X2;decide) (ht:=by have:=j.tk;omega)
end L2
namespace L2
open PySem PySem.Spec PyProof.Rows PySem.Builtin
def Ck (p:ub)(x:Str):Int:=if x.cps.isEmpty=true then 0 else reduceHash (p.strHash x.cps)
theorem jZ {w:World}{p:ub}(h:w.params=p)(x:Str):hashStr w x=Ck p x:=by
 subst h;rfl
inductive Ent (p:ub):List xg->List (Str×V)->Prop
 | nil:Ent p [] []
 | cons {e:xg} {x:Str} {t:Tok} {v:V} {es:List xg} {ps:List (Str×V)}:e.hash=Ck p x->e.key=.str x t->RelV v e.val->Ent p es ps->Ent p (e::es) ((x,v)::ps)
def CN (ps:List (Str×V)):List (Key×V):=ps.map λ q=>(.inr q.1,q.2)
theorem Ent.parts {P:Yg}{w:World}{p:ub}(c:w.params=p):∀{a:List xg} {ps:List (Str×V)},Ent p a ps->∃vs:List (Key×Value),KV (CN ps) vs/\Pairs (mixKind P w) a vs/\vs.map (·.1)=ps.map (λ q=>yc q.1)/\∀e∈a,∃k,(mixKind P w).is k e.key=true/\e.hash=(mixKind P w).hash k
 | _,_,.nil=>⟨[],.nil,.nil,rfl,λ _ h=>nomatch h⟩
 | _,_,@Ent.cons _ e x t v a ps f g i r=>by
  obtain ⟨vs,j,l,m,n⟩:=Ent.parts (P:=P) c r;have d:(mixKind P w).is (.inr x) e.key=true:=by rw [g];exact Tp P w x t
  refine ⟨(.inr x,e.val)::vs,.cons ⟨rfl,i⟩ j,.cons d rfl l,by rw [YV,YV,m],λ o b=>?_⟩
  rcases ZT.mp b with rfl | b
  ·exact ⟨.inr x,d,by rw [f,<- jZ c];rfl⟩
  ·exact n o b
theorem Wl:∀{l:List Str},l.Nodup->(l.map (yc:Str->Key)).Nodup
 | [],_=>.nil
 | a::l,h=>by
  rw [yf] at h;rw [YV,yf];refine ⟨λ c=>?_,Wl h.2⟩
  obtain ⟨b,hb,e⟩:=Jb.mp c;cases e
  exact h.1 hb
theorem VP {P:Yg}{w:World}{K:FrG}{a:Addr}{b:Array xg}{c:Nat}{p:ub}{ps:List (Str×V)}(d:w.params=p)(l:K.lookup a=some ⟨.type "dict",none,.dict b c,#[]⟩)(h:Ent p b.toList ps)(nd:(ps.map (·.1)).Nodup)(ns:(a == zp)=false):DKG P w K a (CN ps):=by
 obtain ⟨vs,f,g,i,j⟩:=h.parts (P:=P) d;refine ⟨⟨vs,_,b,c,f,l,⟨rfl,rfl,rfl⟩,rfl,λ e k=>j e (yx.mpr k),g,?_⟩,ns⟩
 rw [i];have:ps.map (λ q=>(yc q.1:Key))=(ps.map (·.1)).map yc:=by rw [xr];rfl
 rw [this];exact Wl nd
end L2
namespace L2
open PySem PySem.Spec PyProof.Rows
theorem cj:entryFor table "proto.unchain"=some Xy.«proto.unchain»:=entryFor_of_fast (by kernel_rfl)
inductive Rch (h:Heap):Value->Value->Prop
 | refl {v:Value}:Rch h v v
 | step {b:Addr} {o:Obj} {vs:Array Value} {cx v:Value}:h.get? b=some o->o.data=.fields vs->vs[2]?=some cx->Rch h cx v->Rch h (.ref b) v
theorem Rch.snoc {h:Heap}{u:Value}{b:Addr}{o:Obj}{vs:Array Value}{a:Value}(r:Rch h u (.ref b))(e:h.get? b=some o)(d:o.data=.fields vs)(t:vs[2]?=some a):Rch h u a:=by
 generalize hv:(YI b)=v at r
 induction r with
 | refl=>subst hv;exact .step e d t .refl
 | step c d' t' _ f=>exact .step c d' t' (f hv)
section
variable {prog:Yg}{w:World}
theorem fH {A:XE}{c:Result->X1->Prop}{s:X1}{id:String}{args:Args}{b:Xy}(hb:entryFor table id=some b)
  (h:wpAny (model prog w) (A.under (.builtin id args)) (b args) (λ a s'=>match a with | .done f=>c (.ok f) s' | .again c'=>c'.quiet=true/\zK (model prog w) A c' c s') (λ e s'=>c (.error e) s') s):zK (model prog w) A (.builtin id args) c s:=by
 refine codeAny_of_tree ?_;show wpAny _ _ (match entryFor table id with | some b=>b args | none=>unsupported ((withoutEnding? id "#data").getD id)) _ _ s
 rw [hb];exact h
theorem X5 {I h:Heap}{v:Value}(c:Chn I h v):∀{A:XE} {l:Result->X1->Prop} {s:X1} {b e:Addr} {a:Value} {tg:Bool},v=.ref b->(∀b o,h.get? b=some o->s.heap.get? b=some o)->h.get? e=none->Rch h a v->l (.ok (.ret .none)) s->
  zK (model prog w) A (.builtin "proto.unchain" ⟨[.ref e,v,a,.bool tg],[]⟩) l s:=by
 induction c with
 | none=>intro A l s b e a tg hv;cases hv
 | ref C m hd ht c t=>
  rename_i n o vs J
  intro A l s b e a tg hv j g u q;cases hv
  refine fH cj ?_;show wpAny _ _ (do
   let d <- field (.ref n) 2
   if d == .none then return <- ret .none
   if d == .ref e then
    rule "raise.context-cycle-cut"
    setField (.ref n) 2 .none
    return <- ret .none
   if d == a then rule "raise.context-old-cycle";return <- ret .none
   let a <- if tg then field a 2 else pure a
   again (.builtin "proto.unchain" ⟨[.ref e,d,a,.bool !tg],[]⟩)) _ _ s
  refine Y3 (XZ (j _ _ m) hd ht ?_);cases c with
  | none=>
   rw [if_pos (show (WR == WR)=true from rfl)]
   exact ZH q
  | ref D i E F K=>
   rename_i b2 L G H
   rw [if_neg (by simp)]
   have x:(YI b2 == YI e)=false:=by
    have:b2≠e:=λ M=>by rw [M,g] at i;cases i
    simpa using this
   rw [if_neg (by rw [x];exact ZE)]
   by_cases k:(YI b2 == a)=true
   ·rw [if_pos k];exact Y3 (xD (ZH q))
   ·rw [if_neg k];have p:Rch h a (.ref b2):=u.snoc m hd ht;have go:∀f,Rch h f (.ref b2)->zK (model prog w) A (.builtin "proto.unchain" ⟨[.ref e,.ref b2,f,.bool !tg],[]⟩) l s:=λ f r=>t rfl j g r q
    cases tg with
    | false=>
     rw [if_neg ZE];exact Y3 (ZH (ZH ⟨wu _ (by decide+kernel),go a p⟩))
    | true=>
     rw [if_pos rfl];cases p with
     | refl=>exact absurd (by simp) k
     | step y z t3 B=>exact Y3 (XZ (j _ _ y) z t3 (ZH ⟨wu _ (by decide+kernel),go _ B⟩))
end
end L2
namespace L2
open PySem PySem.Spec PyProof.Rows PySem.Builtin
def Hn (h:Heap)(a:Addr):Prop:=∃b:Heap,Chn b h (.ref a)
theorem Hn.there {h:Heap}{a:Addr}(x:Hn h a):∃o,h.get? a=some o:=by
 obtain ⟨b,c⟩:=x;cases c with
 | ref _ e _ _ _=>exact ⟨_,e⟩
section
variable {prog:Yg}{w:World}{A:XE}{E:Value->X1->Prop}{s:X1}
theorem gk {h:Type}{Q:h->X1->Prop}{e a:Addr}{o:Obj}{vs:Array Value}(i:A.handled=some (.ref a))(j:s.heap.get? e=some o)(hd:o.data=.fields vs)(k:2 < vs.size)(ch:∃g:Heap,Hn g a/\g.get? e=none/\∀b o,g.get? b=some o->s.heap.get? b=some o)(c:a≠e)
  (l:E (.ref e) { s with heap:=s.heap.update e (Xd λ x=>x.setIfInBounds 2 (.ref a)) }):wpAny (model prog w) A (raiseNew (.ref e)) Q E s:=by
 obtain ⟨g,⟨g',d⟩,m,n⟩:=ch;unfold raiseNew;refine Y3 (wpAny_handled ?_);rw [i];have p:(YI a != YI e)=true:=by simpa using c
 show wpAny _ _ (do
  if (YI a != YI e)=true then
   let _ <- wh [YI e] (runValue (.builtin "proto.unchain" ⟨[.ref e,.ref a,.ref a,.bool false],[]⟩))
   updateField e 2 (.ref a)
  throw (.ref e)) _ _ _
 rw [if_pos p];refine Y3 (WO (wpAny_runValue (X5 d rfl n m .refl ?_)));have f:wpAny (model prog w) A (setField (.ref e) 2 (.ref a)) (λ _ s'=>wpAny (model prog w) A (throw (YI e)) Q E s') E s:=QU j hd k (wpAny_throw l)
 exact Y3 f
theorem rQ (h:Heap):h.get? h.objs.size=none:=by
 cases e:h.get? h.objs.size with
 | none=>rfl
 | some o=>exact absurd (ZI e) (zu _)
theorem V6 {f:Type}{Q:f->X1->Prop}{a:Addr}(h:A.handled=some (.ref a))(g:Hn s.heap a)
  (i:∀h' e,(∀b o,s.heap.get? b=some o->h'.get? b=some o)->(∃o,h'.get? e=some o/\o.cls=.type "StopIteration")->E (.ref e) { s with heap:=h' }):
  wpAny (model prog w) A (xt:Sem f) Q E s:=by
 unfold xt newExc;refine Y3 (Y3 (UU ?_));refine Y3 (wpAny_of_eq (Eq.refl (firstArgMember (.type "StopIteration") [])) ?_);refine UU ?_ (sizeOk_excFields _ _ _ _ _ _ _ _);refine gk h (YL _ rfl) rfl (by rw [Array.size_append];exact W1 (show 2 < 6 by decide) (yF 6 _)) ⟨s.heap,g,zH (by rw [UC];exact xa _),λ b o d=>X9 _ (X9 _ d)⟩ ?_ ?_
 ·intro j;obtain ⟨o,d⟩:=g.there;have c:=ZI (X9 { cls:=yv "tuple",data:=Data.seq #[] } d);rw [j] at c;exact absurd c (zu _)
 ·refine i _ _ (λ b o e=>?_) ⟨_,XB (Xd λ x=>x.setIfInBounds 2 (YI a)) (YL _ rfl) rfl,rfl⟩
  have k:b≠(s.heap.push { cls:=yv "tuple",data:=Data.seq #[] }).objs.size:=λ j=>by
   have c:=X9 { cls:=yv "tuple",data:=Data.seq #[] } e;rw [j,rQ] at c;cases c
  exact (XG _ _ (WU k)).trans (X9 _ (X9 _ e))
theorem Yj {it l:Addr}{i:Nat}{items:Array Value}{x:Value}{Q:Value->X1->Prop}
  (c:s.heap.IsListIter it l i) (hl:s.heap.IsList l items) (n:items[i]?=some x) (o:∀h',h'.IsListIter it l (i+1)->JT it s.heap h'->Q x { s with heap:=h' }):
  wpAny (model prog w) A (UY (.ref it)) Q E s:=by
 obtain ⟨ob,a,f,b⟩:=id c;obtain ⟨p,g,_,q,h⟩:=hl;unfold UY;refine Y3 (QJ c.typeIs yX (ya yX c.typeIs entry_listiter_next ?_ (args_listiter_next (.ref it))));show wpAny (model prog w) A.in1 (field (.ref it) 0 >>= _) _ _ s;refine Y3 (XZ a b rfl ?_);dsimp only
 rw [if_neg (by exact ZE)]
 refine Y3 (XZ a b rfl ?_);refine Y3 (zA g h ?_);simp only [Qb,n];refine Y3 (QU (i:=1) a b ?_ ?_)
 ·show 1 < 2
  decide
 refine ZH ⟨x,rfl,?_⟩;have d:=XV b λ x:Array Value=>x.setIfInBounds 1 (zC ((i:Int)+1))
 have j:=(Obj.cls_mapFields ob λ x:Array Value=>x.setIfInBounds 1 (zC ((i:Int)+1))).trans f
 have k:=XB (Xd λ x:Array Value=>x.setIfInBounds 1 (zC ((i:Int)+1))) a (UD d)
 have m:=xZ s.heap it (Xd λ x:Array Value=>x.setIfInBounds 1 (zC ((i:Int)+1)))
 have e:(#[YI l,yY (i:Int) 0]:Array Value).setIfInBounds 1 (zC ((i:Int)+1))=#[YI l,yY ((i+1:Nat):Int) 0]:=by
  simp [zC]
 rw [e] at d;exact ZH (o _ ⟨_,k,j,d⟩ m)
theorem dq {it l a:Addr}{i:Nat}{items:Array Value}{Q:Value->X1->Prop}(p:A.handled=some (.ref a))(q:∀h',zv it s.heap h'->Hn h' a)
  (c:s.heap.IsListIter it l i) (hl:s.heap.IsList l items) (r:items[i]?=none) (t:∀h' e,zv it s.heap h'->(∃o,h'.get? e=some o/\o.cls=.type "StopIteration")->E (.ref e) { s with heap:=h' }):
  wpAny (model prog w) A (UY (.ref it)) Q E s:=by
 obtain ⟨ob,d,y,f⟩:=id c;obtain ⟨z,h,_,B,j⟩:=hl;unfold UY;refine Y3 (QJ c.typeIs yX (ya yX c.typeIs entry_listiter_next ?_ (args_listiter_next (.ref it))));show wpAny (model prog w) A.in1 (field (.ref it) 0 >>= _) _ _ s;refine Y3 (XZ d f rfl ?_);dsimp only
 rw [if_neg (by exact ZE)]
 refine Y3 (XZ d f rfl ?_);refine Y3 (zA h j ?_);simp only [Qb,r];refine Y3 (xD ?_);refine Y3 (QU (i:=0) d f ?_ ?_)
 ·show 0 < 2
  decide
 have g:=xZ s.heap it (Xd λ x:Array Value=>x.setIfInBounds 0 .none)
 generalize s.heap.update it (Xd λ x:Array Value=>x.setIfInBounds 0 .none)=m at g ⊢
 refine V6 (s:={ s with heap:=m }) p (q m g.extBut) λ h' e k n=>?_
 exact t h' e (λ b o u v=>k b o (g.extBut b o u v)) n
end
section
variable {prog:Yg}{w:World}{A:XE}{E:Value->X1->Prop}{s:X1}
variable {z TI TO i1 i2 a1 a2:Addr}{n1 n2:Nat}{us vs:Array Value}{u v p q:Value}
theorem iy {Q:Value->X1->Prop}(b:ZipApart z TI TO i1 i2 a1 a2)
  (d:IsZip s.heap z TI TO .none) (I:yt s.heap TI (.ref i1) (.ref i2)) (J:yt s.heap TO p q)
  (j1:s.heap.IsListIter i1 a1 n1) (K:s.heap.IsListIter i2 a2 n2) (t1:s.heap.IsList a1 us) (t2:s.heap.IsList a2 vs) (L:us[n1]?=some u) (hv:vs[n2]?=some v)
  (V:∀h',IsZip h' z TI TO (zC s.heap.objs.size)->yt h' TO u v->h'.IsListIter i1 a1 (n1+1)->h'.IsListIter i2 a2 (n2+1)->yt h' s.heap.objs.size u v->h'.objs.size=s.heap.objs.size+1->Fw z TO i1 i2 s.heap h'->Q (.ref s.heap.objs.size) { s with heap:=h' }):
  wpAny (model prog w) A (Xy.«zip.__next__» ⟨[.ref z],[]⟩) (λ B s'=>∃v,B=.done (.ret v)/\Q v s') E s:=by
 show wpAny _ A (field (.ref z) 2 >>= _) _ E s;refine Y3 (XZ (x:=.bool false) d rfl rfl ?_);show wpAny _ A (field (.ref z) 3 >>= _) _ E s;refine Y3 (XZ (x:=.ref TI) d rfl rfl (Y3 (zA I rfl ?_)));show wpAny _ A (Qk (.ref z) >>= _) _ E s;unfold Qk;refine Y3 (Y3 (XZ (x:=.none) d rfl rfl (ZH ?_)));simp only [if_true];refine Y3 (xD (Y3 (XZ (x:=.ref TO) d rfl rfl ?_)));refine Y3 (ye d (by simp) λ M k b1=>?_)
 replace k:IsZip M z TI TO .ellipsis:=k
 simp only [List.zipIdx_cons,List.zipIdx_nil,zb,wB];refine Y3 (Y3 (Y3 (wpAny_onRaise ?_)));show wpAny _ A (UY (.ref i1) >>= _) _ _ _;refine Y3 (Yj (j1.extBut b1.extBut b.i1z) (t1.extBut b1.extBut b.l1z) L λ N k2 b2=>ZH ?_)
 have C:yt N TO p q:=b2.extBut _ _ b.TOi1 (b1.extBut _ _ b.TOz J);refine Y3 (zA C rfl (Y3 (wpAny_updateSeq_pair C λ O l b3=>?_)))
 replace l:yt O TO u q:=l
 refine Y3 (wpAny_letGo (ZH (Y3 (Y3 (wpAny_onRaise ?_)))));show wpAny _ A (UY (.ref i2) >>= _) _ _ _;refine Y3 (Yj (((K.extBut b1.extBut b.i2z).extBut b2.extBut b.i12.symm).extBut b3.extBut b.TOi2.symm) (((t2.extBut b1.extBut b.l2z).extBut b2.extBut b.l2i1).extBut b3.extBut b.l2TO) hv λ P R b4=>ZH ?_)
 have D:yt P TO u q:=b4.extBut _ _ b.TOi2 l;refine Y3 (zA D rfl (Y3 (wpAny_updateSeq_pair D λ a h f=>?_)))
 replace h:yt a TO u v:=h
 refine Y3 (wpAny_letGo (ZH (ZH (Y3 (zA h rfl (Y3 (wpAny_newTuple ?_)))))));have sz:a.objs.size=s.heap.objs.size:=by rw [f.1,b4.1,b3.1,b2.1,b1.1]
 have F:IsZip a z TI TO .ellipsis:=f.extBut _ _ b.TOz.symm (b4.extBut _ _ b.i2z.symm (b3.extBut _ _ b.TOz.symm (b2.extBut _ _ b.i1z.symm k)));have st:Fw z TO i1 i2 s.heap a:=λ c o c1 i m n e=>f.extBut _ _ i (b4.extBut _ _ n (b3.extBut _ _ i (b2.extBut _ _ m (b1.extBut _ _ c1 e))))
 have k5:a.IsListIter i1 a1 (n1+1):=((k2.extBut b3.extBut b.TOi1.symm).extBut b4.extBut b.i12).extBut f.extBut b.TOi1.symm;have S:a.IsListIter i2 a2 (n2+1):=R.extBut f.extBut b.TOi2.symm;have G:z < a.objs.size:=ZI F;show wpAny _ A (yJ (.ref z) (.ref a.objs.size) >>= _) _ _ _;unfold yJ;have T:IsZip (a.push { cls:=.type "tuple",data:=.seq #[u,v] }) z TI TO .ellipsis:=X9 _ F;refine Y3 (Y3 (ye T (by simp) λ U r t=>?_))
 replace r:IsZip U z TI TO (zC a.objs.size):=r
 refine ye r (by simp) λ g j y=>ZH ⟨_,rfl,?_⟩
 replace j:IsZip g z TI TO (zC a.objs.size):=j
 have lift:∀c o,c≠z->a.get? c=some o->g.get? c=some o:=λ c o c1 e=>y.extBut _ _ c1 (t.extBut _ _ c1 (X9 _ e))
 have pr:yt g a.objs.size u v:=y.extBut _ _ (WB G) (t.extBut _ _ (WB G) (YL _ rfl));have H:g.objs.size=a.objs.size+1:=by rw [y.1,t.1,UC]
 rw [sz] at j pr H;show Q (.ref a.objs.size) _;rw [sz];exact V g j (lift _ _ b.TOz h) (k5.at λ o e=>lift _ o b.i1z e) (S.at λ o e=>lift _ o b.i2z e) pr H λ c o c1 i m n e=>lift c o c1 (st c o c1 i m n e)
theorem gD {Q:Fin->X1->Prop}{a:Addr}(j:A.handled=some (.ref a))(k:∀h',Fw z TO i1 i2 s.heap h'->Hn h' a)(l:ZipApart z TI TO i1 i2 a1 a2)
  (b:IsZip s.heap z TI TO .none) (m:yt s.heap TI (.ref i1) (.ref i2)) (j1:s.heap.IsListIter i1 a1 n1) (t1:s.heap.IsList a1 us) (n:us[n1]?=none)
  (F:∀h' e,Fw z TO i1 i2 s.heap h'->(∃o,h'.get? e=some o/\o.cls=.type "StopIteration")->E (.ref e) { s with heap:=h' }):
  wpAny (model prog w) A (Xy.«zip.__next__» ⟨[.ref z],[]⟩) Q E s:=by
 show wpAny _ A (field (.ref z) 2 >>= _) _ E s;refine Y3 (XZ (x:=.bool false) b rfl rfl ?_);show wpAny _ A (field (.ref z) 3 >>= _) _ E s;refine Y3 (XZ (x:=.ref TI) b rfl rfl (Y3 (zA m rfl ?_)));show wpAny _ A (Qk (.ref z) >>= _) _ E s;unfold Qk;refine Y3 (Y3 (XZ (x:=.none) b rfl rfl (ZH ?_)));simp only [if_true];refine Y3 (xD (Y3 (XZ (x:=.ref TO) b rfl rfl ?_)));refine Y3 (ye b (by simp) λ r g b1=>?_)
 replace g:IsZip r z TI TO .ellipsis:=g
 simp only [List.zipIdx_cons,List.zipIdx_nil,zb,wB];refine Y3 (Y3 (Y3 (wpAny_onRaise ?_)));show wpAny _ A (UY (.ref i1) >>= _) _ _ _;refine Y3 (dq j (λ h' x=>k h' λ c o c1 _ h _ e=>x _ _ h (b1.extBut _ _ c1 e)) (j1.extBut b1.extBut l.i1z) (t1.extBut b1.extBut l.l1z) n λ t e b2 y=>?_)
 obtain ⟨B,d,f⟩:=y;have i:IsZip t z TI TO .ellipsis:=b2 _ _ l.i1z.symm g;have C:e≠z:=λ x=>by
  subst x;rw [i] at d;cases d
  simp at f
 refine ye i (by simp) λ D _ b3=>F D e (λ c o c1 _ h _ x=>b3.extBut _ _ c1 (b2 _ _ h (b1.extBut _ _ c1 x))) ⟨B,b3.extBut _ _ C d,f⟩
theorem q9 {Q:Option Value->X1->Prop}(n:ZipApart z TI TO i1 i2 a1 a2)
  (a:IsZip s.heap z TI TO .none) (c:yt s.heap TI (.ref i1) (.ref i2)) (d:yt s.heap TO p q)
  (j1:s.heap.IsListIter i1 a1 n1) (e:s.heap.IsListIter i2 a2 n2) (t1:s.heap.IsList a1 us) (t2:s.heap.IsList a2 vs) (f:us[n1]?=some u) (hv:vs[n2]?=some v)
  (o:∀h',IsZip h' z TI TO (zC s.heap.objs.size)->yt h' TO u v->h'.IsListIter i1 a1 (n1+1)->h'.IsListIter i2 a2 (n2+1)->yt h' s.heap.objs.size u v->h'.objs.size=s.heap.objs.size+1->Fw z TO i1 i2 s.heap h'->Q (some (.ref s.heap.objs.size)) { s with heap:=h' }):
  wpAny (model prog w) A (yV (.ref z)) Q E s:=by
 have b:s.TypeIs (.ref z) "zip":=⟨_,a,rfl⟩;unfold yV;refine Y3 (ug (QJ (name:=Y1 "__next__") b xU (ya xU b F.entry_zip_next ?_ (F.args_zip_next_1 _))));exact iy n a c d j1 e t1 t2 f hv λ h' g h i j k l m=>ZH (o h' g h i j k l m)
theorem sX {Q:Option Value->X1->Prop}{a:Addr}(g:A.handled=some (.ref a))(h:∀h',Fw z TO i1 i2 s.heap h'->Hn h' a)(m:ZipApart z TI TO i1 i2 a1 a2)
  (c:IsZip s.heap z TI TO .none) (i:yt s.heap TI (.ref i1) (.ref i2)) (j1:s.heap.IsListIter i1 a1 n1) (t1:s.heap.IsList a1 us) (j:us[n1]?=none)
  (n:∀h',Fw z TO i1 i2 s.heap h'->Q none { s with heap:=h' }):wpAny (model prog w) A (yV (.ref z)) Q E s:=by
 have d:s.TypeIs (.ref z) "zip":=⟨_,c,rfl⟩;unfold yV;refine Y3 (ug (QJ (name:=Y1 "__next__") d xU (ya xU d F.entry_zip_next ?_ (F.args_zip_next_1 _))));refine gD g h m c i j1 t1 j λ h' e st ⟨k,l,f⟩=>?_
 exact Y3 (wpAny_isInstance (T:="StopIteration") (b:=true) ⟨k,l,f⟩ isSubtype_stop (ZH (n _ st)))
abbrev Hw (h:Heap)(a1:Addr):Heap:=h.push { cls:=.type "list_iterator",data:=.fields #[.ref a1,.int 0 0] }
abbrev Gx (h:Heap)(a1 a2:Addr):Heap:=(Hw h a1).push { cls:=.type "list_iterator",data:=.fields #[.ref a2,.int 0 0] }
abbrev Je (h:Heap)(a1 a2:Addr):Heap:=(Gx h a1 a2).push { cls:=.type "tuple",data:=.seq #[.ref h.objs.size,.ref (Hw h a1).objs.size] }
abbrev Ls (h:Heap)(a1 a2:Addr):Heap:=(Je h a1 a2).push { cls:=.type "tuple",data:=.seq #[.none,.none] }
abbrev GD (h:Heap)(a1 a2:Addr):Heap:=(Ls h a1 a2).push { cls:=.type "zip",data:=.fields #[.none,.bool false,.bool false,.ref (Gx h a1 a2).objs.size,.ref (Je h a1 a2).objs.size] }
theorem cI (a1 a2:Addr)(us vs:Array Value):
  Meets (Xy.«zip.__new__» ⟨[.type "zip",.ref a1,.ref a2],[]⟩) (λ _ e s=>s.heap.IsList a1 us/\s.heap.IsList a2 vs/\e (.ok (.ret (.ref (Ls s.heap a1 a2).objs.size))) { s with heap:=GD s.heap a1 a2 }):=
 .of_wp λ prog w A e s h=>by
  obtain ⟨a,f,d,tk,os⟩:=s;obtain ⟨t1,t2,h⟩:=h;have sub:=sub_zip;have b:wS (X1.heap ⟨a,f,d,tk,os⟩) a1 us:=t1;have c:wS (X1.heap ⟨a.push { cls:=.type "list_iterator",data:=.fields #[.ref a1,.int 0 0] },f,d,tk,os⟩) a2 vs:=up t2 _
  wp_walk using yu b,yu c
  exact ⟨_,rfl,h⟩
theorem pq {Q:Value->X1->Prop}(t1:s.heap.IsList a1 us)(t2:s.heap.IsList a2 vs)
  (l:∀h',IsZip h' (s.heap.objs.size+4) (s.heap.objs.size+2) (s.heap.objs.size+3) .none->yt h' (s.heap.objs.size+2) (.ref s.heap.objs.size) (.ref (s.heap.objs.size+1))->yt h' (s.heap.objs.size+3) .none .none->
   h'.IsListIter s.heap.objs.size a1 0->h'.IsListIter (s.heap.objs.size+1) a2 0->h'.objs.size=s.heap.objs.size+5->(∀c o,s.heap.get? c=some o->h'.get? c=some o)->Q (.ref (s.heap.objs.size+4)) { s with heap:=h' }):
  wpAny (model prog w) A (call (.type "zip") [.ref a1,.ref a2]) Q E s:=by
 refine callType_new F.called_zip (by decide) (F.typeCall_zip_2 _ _) (F.newCall_zip_2 _ _) (λ obj=>F.args_object_init_3 obj _ _) F.entry_zip_new (cI a1 a2 us vs) ⟨t1,t2,?_⟩
 have a:(Hw s.heap a1).objs.size=s.heap.objs.size+1:=UC ..;have b:(Gx s.heap a1 a2).objs.size=s.heap.objs.size+2:=by rw [UC,a]
 have d:(Je s.heap a1 a2).objs.size=s.heap.objs.size+3:=by rw [UC,b]
 have e:(Ls s.heap a1 a2).objs.size=s.heap.objs.size+4:=by rw [UC,d]
 have j:(GD s.heap a1 a2).objs.size=s.heap.objs.size+5:=by rw [UC,e]
 have f:(GD s.heap a1 a2).get? (Ls s.heap a1 a2).objs.size=some _:=YL _ rfl;have g:(GD s.heap a1 a2).get? (Je s.heap a1 a2).objs.size=some _:=X9 _ (YL _ rfl);have h:(GD s.heap a1 a2).get? (Gx s.heap a1 a2).objs.size=some _:=X9 _ (X9 _ (YL _ rfl));have i:(GD s.heap a1 a2).get? (Hw s.heap a1).objs.size=some _:=X9 _ (X9 _ (X9 _ (YL _ rfl)));have k:(GD s.heap a1 a2).get? s.heap.objs.size=some _:=X9 _ (X9 _ (X9 _ (X9 _ (YL _ rfl))));show _/\_;rw [b,d,e] at f;rw [a,b] at h;rw [d] at g;rw [a] at i;rw [e];exact ⟨⟨_,f,rfl⟩,l _ f h g ⟨_,k,rfl,rfl⟩ ⟨_,i,rfl,rfl⟩ j λ c o x=>X9 _ (X9 _ (X9 _ (X9 _ (X9 _ x))))⟩
end
section
variable {prog:Yg}{w:World}{A:XE}{E:Value->X1->Prop}{s:X1}
theorem vK {it t a:Addr}{i:Nat}{items:Array Value}{Q:Option Value->X1->Prop}(n:A.handled=some (.ref a))(p:∀h',zv it s.heap h'->Hn h' a)
  (c:s.heap.IsTupleIter it t i) (ht:s.heap.IsTuple t items) (q:items[i]?=none) (r:∀h',zv it s.heap h'->Q none { s with heap:=h' }):wpAny (model prog w) A (yV (.ref it)) Q E s:=by
 obtain ⟨ob,d,B,f⟩:=id c;obtain ⟨C,h,_,D,j⟩:=ht;unfold yV;refine Y3 (ug ?_);refine QJ c.typeIs xu (ya xu c.typeIs PySem.F.entry_tuple_iterator_next ?_ (PySem.F.args_tuple_iterator_next_1 (.ref it)));show wpAny (model prog w) A.in1 (field (.ref it) 0 >>= _) _ _ s;refine Y3 (XZ d f rfl ?_);dsimp only
 rw [if_neg (by exact ZE)]
 refine Y3 (XZ d f rfl ?_);refine Y3 (zA h j ?_);simp only [Qb,q];refine Y3 (xD ?_);refine Y3 (QU (i:=0) d f ?_ ?_)
 ·show 0 < 2
  decide
 have g:=xZ s.heap it (Xd λ x:Array Value=>x.setIfInBounds 0 .none)
 generalize s.heap.update it (Xd λ x:Array Value=>x.setIfInBounds 0 .none)=l at g ⊢
 refine V6 (A:=A.in1) (s:={ s with heap:=l }) n (p l g.extBut) λ h' e k ⟨u,v,m⟩=>?_
 exact Y3 (wpAny_isInstance (T:="StopIteration") (b:=true) ⟨u,v,m⟩ isSubtype_stop (ZH (r h' λ b o y z=>k b o (g.extBut b o y z))))
theorem jy {t a:Addr}{items:Array Value}{c:List (Bool×(Value->Sem Unit))}{Q:Unit->X1->Prop}(l:A.handled=some (.ref a))(m:∀h',zv s.heap.objs.size s.heap h'->Hn h' a)(ht:s.heap.IsTuple t items)
  (hn:c.length=items.size) (d:c.findIdx? (·.1)=none) (h:∀h',zv s.heap.objs.size s.heap h'->wpAny (model prog w) A (yQ (c.map (·.2)) items.toList) Q E { s with heap:=h' }):
  wpAny (model prog w) A (unpack (.ref t) c) Q E s:=by
 have i:t≠s.heap.objs.size:=by
  obtain ⟨ob,j,_⟩:=ht;exact YO (ZI j)
 unfold unpack;rw [hn,d];refine Y3 (WO ?_);unfold GJ notIterableAtAll;refine Y3 (Y3 (qB ht.typeIs F.slot_tuple_iter.lookup (ZH ?_)));simp only [QA,if_false];refine Y3 (WO (wpAny_pyIter_tuple ht ?_));refine Y3 (WO (wpAny_draw_tuple i items.size 0 _ _ ⟨_,YL _ rfl,rfl,rfl⟩ (ht.push _) (by omega) λ n g f=>?_))
 rw [wE,JU (by simp),if_neg (by simp)]
 have t1:n.IsTuple t items:=(ht.push _).extBut f.extBut i;have k:zv s.heap.objs.size s.heap n:=λ b o hb e=>f.extBut b o hb (X9 _ e)
 refine Y3 (WO (vK (s:={ s with heap:=n }) l (λ h' x=>m h' λ b o hb e=>x b o hb (k b o hb e)) g t1 (by simp) λ p q=>?_))
 simp only [wq,QA,if_false];exact ZH (h p λ b o hb e=>q b o hb (k b o hb e))
theorem nU {env:Env}{b:List Expr}{x1}{pos:Pos}{t a:Addr}{items:Array Value}{Q:Unit->X1->Prop}(d:A.handled=some (.ref a))(e:∀h',zv s.heap.objs.size s.heap h'->Hn h' a)(ht:s.heap.IsTuple t items)
  (hn:(JM b env).length=items.size) (c:(JM b env).findIdx? (·.1)=none)
  (h:∀h',zv s.heap.objs.size s.heap h'->wpAny (model prog w) A (yQ ((JM b env).map (·.2)) items.toList) Q E { s with heap:=h' }):wpAny (model prog w) A (yL (.Tuple b x1 pos) env (.ref t)) Q E s:=by
 rw [arm_assign_Tuple];exact Y3 (Qu (jy d e ht hn c h))
end
end L2
namespace L2
open PySem PySem.Spec PySem.Calls PyProof.Rows PySem.W Builtin Builtin.ObjectAttr
def XH (e:Addr)(c:Value)(d:Option Addr)(a:Value)(h:Heap):Prop:=∃o vs,h.get? e=some o/\o.cls=c/\o.dict=d/\o.data=.fields vs/\vs[2]?=some a
abbrev xH (e:Addr)(c:Value)(d:Option Addr)(a:Value):HO:=.ext (XH e c d a)
theorem XH.stay {e:Addr}{c a:Value}{d:Option Addr}{b f:Heap}(x:XH e c d a b)(k:∀o,b.get? e=some o->f.get? e=some o):XH e c d a f:=let ⟨o,vs,g,r⟩:=x;⟨o,vs,k _ g,r⟩
theorem XH.at {e C:Addr}{a:Value}{d:Option Addr}{h:Heap}(x:XH e (.ref C) d a h):ExcAt e C h:=let ⟨o,_,b,r,_⟩:=x;⟨o,b,r⟩
inductive ChT (H:Hp):Value->Prop
 | none:ChT H .none
 | ref {b:Addr} {c cx:Value} {d:Option Addr}:H b=some (xH b c d cx)->ChT H cx->ChT H (.ref b)
theorem ChT.same {H a:Hp}(k:∀b o,H b=some o->a b=some o){v:Value}(c:ChT H v):ChT a v:=by
 induction c with
 | none=>exact .none
 | ref e _ d=>exact .ref (k _ _ e) d
def HX (H:Hp)(e C:Addr)(d:Option Addr):Prop:=∃a,H e=some (xH e (.ref C) d a)/\ChT H a
theorem HX.same {H a:Hp}{e C:Addr}{d:Option Addr}(k:∀b o,H b=some o->a b=some o)(x:HX H e C d):HX a e C d:=let ⟨f,g,c⟩:=x;⟨f,k _ _ g,c.same k⟩
theorem iH {P:Yg}{w:World}{H:Hp}{h h':Heap}(ok:HOk P w H h)(k:∀b u o,H b=some u->h.get? b=some o->h'.get? b=some o){v:Value}(c:ChT H v):Chn {} h' v:=by
 induction c with
 | none=>exact .none
 | @ref b c a d e _ f=>
  obtain ⟨o,vs,i,_,_,g,q⟩:=(show XH b c d a h from (ok b _ e).1)
  exact .ref rfl (k b _ o e i) g q f
theorem aP {P:Yg}{w:World}{H:Hp}{h h':Heap}{a C:Addr}{d:Option Addr}(x:HX H a C d)(ok:HOk P w H h)(k:∀b u o,H b=some u->h.get? b=some o->h'.get? b=some o):Hn h' a:=by
 obtain ⟨e,f,c⟩:=x;exact ⟨_,iH ok k (.ref f c)⟩
structure TurnH (ex:Addr)(P:Yg)(w:World)(K:FrG)(tg:Expr)(J:It)(fp:List Addr)(it:Addr)(tn:Nat->Heap->Prop):Prop where
 mem:it∈fp
 obj:∀i h,tn i h->∀b∈fp,∃o,h.get? b=some o/\∀v,o.data≠.cell v
 keep:∀i h h',tn i h->(∀b∈fp,∀o,h.get? b=some o->h'.get? b=some o)->tn i h'
 item:∀(X:Cx),X.prog=P->X.w=w->X.K=K->X.A.handled=some (.ref ex)->∀(i:Nat) (pins:List (Addr×Obj)) (s:X1) (σ:St) (H:Hp) (E:Value->X1->Prop),Inv X pins σ H s->(∀b∈fp,FpOk X pins H b)->tn i s.heap->J.go i H->
  wpAny (model P w) X.A (yV (.ref it)) (λ r s1=>∃u,r=some u/\
   wpAny (model P w) X.A (zc tg (.ref it) u) (λ _ s2=>∃x H',Inv X pins σ H' s2/\RelV x u/\J.yld i H x H'/\tn (i+1) s2.heap/\∀b∈fp,H' b=none) E s1) E s
 done:∀(X:Cx),X.prog=P->X.w=w->X.K=K->X.A.handled=some (.ref ex)->∀(i:Nat) (pins:List (Addr×Obj)) (s:X1) (σ:St) (H:Hp) (E:Value->X1->Prop),Inv X pins σ H s->(∀b∈fp,FpOk X pins H b)->tn i s.heap->J.stop i H->
  wpAny (model P w) X.A (yV (.ref it)) (λ r s1=>r=none/\Inv X pins σ H s1) E s
 self:∀(A:XE) (i:Nat) (s:X1) (Q:Value->X1->Prop) (E:Value->X1->Prop),tn i s.heap->Q (.ref it) s->wpAny (model P w) A (pyIter (.ref it)) Q E s
def uL (ex:Addr)(X:Cx)(a:List (Addr×Obj))(h:St)(tg:Expr)(j:It->Hp->Prop)(d:Value)(e:X1):Prop:=
 ∃(it:Addr) (f:List Addr) (g:Nat->Heap->Prop) (i:It) (c:Hp),d=.ref it/\Inv X a h c e/\TurnH ex X.prog X.w X.K tg i f it g/\g 0 e.heap/\(∀b∈f,FpOk X a c b)/\j i c
def QV (ex:Addr)(X:Cx)(tg iter:Expr)(c:TI):Prop:=
 ∀(a:List (Addr×Obj)) (s:X1) (b:St) (H:Hp) (e:It->Hp->Prop),Inv X a b H s->c b H e->
  wpAny (model X.prog X.w) X.A (eval iter X.env) (λ v d=>wpAny (model X.prog X.w) X.A (pyIter v) (uL ex X a b tg e) X.xe d) X.xe s
def Qs (K:FrG)(ex C:Addr)(dx:Option Addr)(b c:Addr):It:=
 ⟨λ i H=>∃xs a x e,SqL K H b xs/\SqL K H c a/\xs[i]?=some x/\a[i]?=some e,
   λ i H x d=>∃p u v,H p=none/\x=.ref p/\(∀xs,SqL K H b xs->xs[i]?=some u)/\(∀a,SqL K H c a->a[i]?=some v)/\d=upd H p (.tup [u,v]),
   λ i H=>∃xs,SqL K H b xs/\xs.length<=i/\HX H ex C dx⟩
def TnZH (d TI TO a i2 b c:Addr)(i:Nat)(h:Heap):Prop:=IsZip h d TI TO .none/\yt h TI (.ref a) (.ref i2)/\(∃p q,yt h TO p q)/\h.IsListIter a b i/\h.IsListIter i2 c i
section
variable {z TI TO i1 i2 a1 a2 ex C:Addr}{dx:Option Addr}
theorem TnZH.obj {i:Nat}{h:Heap}(t:TnZH z TI TO i1 i2 a1 a2 i h)(b:Addr)(hb:b∈[z,TI,TO,i1,i2]):∃o,h.get? b=some o/\∀v,o.data≠.cell v:=by
 obtain ⟨a,c,⟨p,q,d⟩,⟨e,e1,c1,f⟩,⟨g,e2,k,j⟩⟩:=t;simp only [ZT,WE,or_false] at hb;rcases hb with z | z | z | z | z
 ·rw [z];exact ⟨_,a,λ v q=>by cases q⟩
 ·rw [z];exact ⟨_,c,λ v q=>by cases q⟩
 ·rw [z];exact ⟨_,d,λ v q=>by cases q⟩
 ·rw [z];exact ⟨e,e1,λ v q=>by rw [f] at q;cases q⟩
 ·rw [z];exact ⟨g,e2,λ v q=>by rw [j] at q;cases q⟩
theorem qu {P:Yg}{w:World}{K:FrG}{R:List Expr}{x1}{S:Pos}(J:ZipApart z TI TO i1 i2 a1 a2):TurnH ex P w K (.Tuple R x1 S) (Qs K ex C dx a1 a2) [z,TI,TO,i1,i2] z (TnZH z TI TO i1 i2 a1 a2) where
 mem:=by simp
 obj:=λ i h t b hb=>t.obj b hb
 keep:=λ i h h' ⟨B,D,⟨p,q,L⟩,j1,M⟩ k=>⟨k z (by simp) _ B,k TI (by simp) _ D,⟨p,q,k TO (by simp) _ L⟩,j1.at λ o e=>k i1 (by simp) o e,M.at λ o e=>k i2 (by simp) o e⟩
 item:=by
  intro X T U V a6 i G s a7 H E A hf t W;have alive:=t.obj;obtain ⟨B,D,⟨p,q,L⟩,j1,M⟩:=t;subst T U V;obtain ⟨xs,N,x,b3,O,a8,a9,b0⟩:=W;obtain ⟨us,Y,Z,b4⟩:=A.list O;obtain ⟨vs,ry,b5,c7⟩:=A.list a8;obtain ⟨u,b6,b7⟩:=Y.get a9;obtain ⟨v,hv,b8⟩:=ry.get b0;have d:=hf z (by simp)
  have f:=hf TO (by simp)
  have g:=hf i1 (by simp)
  have j:=hf i2 (by simp)
  refine q9 J B D L j1 M Z.isList b5.isList (u:=u) (v:=v) (by simpa using b6) (by simpa using hv) λ c8 b9 c0 c1 c2 c3 c6 b1=>?_
  refine ⟨_,rfl,?_⟩;refine wpAny_letOwnedTupleGo_zip b9 λ a0 c4 F=>?_
  have Q:∀b o,s.heap.get? b=some o->b≠s.heap.objs.size:=λ b o q=>YO (ZI q)
  have k2:∀b o,b∉[z,TO,i1,i2]->s.heap.get? b=some o->a0.get? b=some o:=λ b o hb q=>
   F.extBut b o (λ e=>hb (by simp [e])) (b1 b o (λ e=>hb (by simp [e])) (λ e=>hb (by simp [e])) (λ e=>hb (by simp [e])) (λ e=>hb (by simp [e])) q)
  have I:∀b o,H b=some o->b∉[z,TO,i1,i2]:=λ b o q hb=>by
   simp only [ZT,WE,or_false] at hb;rcases hb with e | e | e | e
   ·rw [e,d.1] at q;cases q
   ·rw [e,f.1] at q;cases q
   ·rw [e,g.1] at q;cases q
   ·rw [e,j.1] at q;cases q
  have y:H s.heap.objs.size=none:=A.hok.fresh (YE _);have b2:a0.get? s.heap.objs.size=some { cls:=.type "tuple",data:=.seq #[u,v] }:=F.extBut _ _ (WB (ZI B)) c3;have c9:Inv X G a7 (upd H s.heap.objs.size (.tup [x,b3])) { s with heap:=a0 }:=by
   refine A.step (g':=s.gens) (d':=s.drawn) (t':=s.toks) (ch:=[z,TO,i1,i2]) (λ b hb=>?_) (λ b o _ _ a q n=>k2 b o a q) (λ b o _ _ a q n=>⟨o.slots,k2 b o a q⟩)
    (λ b o _ q n=>(Ax (Q b o q)).trans n) (λ b o a q=>⟨o,k2 b o a q⟩)
    (λ b N q=>(Ax (BZ q y)).trans q) (λ b o b3 q=>(Ax (BZ q y)).trans q) (λ b ps q=>⟨#[],by rw [Ax (BZ q y),q];simp⟩) (λ m hm=>?_) (λ b o q=>?_) A.bare
   ·simp only [ZT,WE,or_false] at hb;rcases hb with e | e | e | e
    ·rw [e];exact ⟨d.2.2.2.1,d.2.1,d.2.2.2.2.1,d.2.2.2.2.2⟩
    ·rw [e];exact ⟨f.2.2.2.1,f.2.1,f.2.2.2.2.1,f.2.2.2.2.2⟩
    ·rw [e];exact ⟨g.2.2.2.1,g.2.1,g.2.2.2.2.1,g.2.2.2.2.2⟩
    ·rw [e];exact ⟨j.2.2.2.1,j.2.1,j.2.2.2.2.1,j.2.2.2.2.2⟩
   ·obtain ⟨o,a3,a4,a5,r⟩:=hm;refine ⟨o,a3,a4,k2 _ o (λ hb=>?_) a5,r⟩
    simp only [ZT,WE,or_false] at hb;rcases hb with e | e | e | e
    ·exact d.2.1 e.symm
    ·exact f.2.1 e.symm
    ·exact g.2.1 e.symm
    ·exact j.2.1 e.symm
   ·by_cases hb:b=s.heap.objs.size
    ·subst hb;rw [Aj] at q;cases q
     exact ⟨by show 2<=X2;decide,[u,v],.cons b7 (.cons b8 .nil),_,b2,rfl,_,rfl⟩
    ·rw [Ax hb] at q;refine (A.hok b o q).stay (λ c v a e=>k2 c v ?_ e) (λ c e=>(Ax (BZ e y)).trans e) λ c N e=>(Ax (BZ e y)).trans e
     rcases a with e | e
     ·rw [e];exact I b o q
     ·exact I c _ e
  refine ⟨.ref s.heap.objs.size,_,c9,rfl,⟨s.heap.objs.size,x,b3,y,rfl,(λ l hl=>by rw [A.list_inj hl O];exact a9),(λ l hl=>by rw [A.list_inj hl a8];exact b0),rfl⟩,
   ⟨c4,F.extBut _ _ J.TIz (b1 _ _ J.TIz J.TITO J.TIi1 J.TIi2 D),⟨u,v,F.extBut _ _ J.TOz c0⟩,c1.extBut F.extBut J.i1z,c2.extBut F.extBut J.i2z⟩,λ b hb=>?_⟩
  obtain ⟨o,c5,_⟩:=alive b hb;rw [Ax (Q _ _ c5)];exact (hf b hb).1
 done:=by
  intro X T U V a6 i G s a7 H E A hf t W;obtain ⟨B,D,⟨p,q,L⟩,j1,M⟩:=t;subst T U V;obtain ⟨xs,O,d0,hex⟩:=W;obtain ⟨us,Y,Z,b4⟩:=A.list O;have hl:=Y.length;have d:=hf z (by simp)
  have f:=hf TO (by simp)
  have g:=hf i1 (by simp)
  have j:=hf i2 (by simp)
  refine sX (TO:=TO) (i2:=i2) a6 (λ h' st=>aP hex A.hok λ b u o q e=>st _ o (BZ q d.1) (BZ q f.1) (BZ q g.1) (BZ q j.1) e) J B D j1 Z.isList (by simp;omega) λ h' st=>⟨rfl,?_⟩
  have k2:∀b o,b∉[z,TO,i1,i2]->s.heap.get? b=some o->h'.get? b=some o:=λ b o hb q=>st b o (λ e=>hb (by simp [e])) (λ e=>hb (by simp [e])) (λ e=>hb (by simp [e])) (λ e=>hb (by simp [e])) q
  have I:∀b o,H b=some o->b∉[z,TO,i1,i2]:=λ b o q hb=>by
   simp only [ZT,WE,or_false] at hb;rcases hb with e | e | e | e
   ·rw [e,d.1] at q;cases q
   ·rw [e,f.1] at q;cases q
   ·rw [e,g.1] at q;cases q
   ·rw [e,j.1] at q;cases q
  refine A.step (g':=s.gens) (d':=s.drawn) (t':=s.toks) (ch:=[z,TO,i1,i2]) (λ b hb=>?_) (λ b o _ _ a q n=>k2 b o a q) (λ b o _ _ a q n=>⟨o.slots,k2 b o a q⟩)
    (λ b o _ q n=>n) (λ b o a q=>⟨o,k2 b o a q⟩)
    (λ b N q=>q) (λ b o b3 q=>q) (λ b ps q=>⟨#[],by rw [q];simp⟩) (λ m hm=>?_) (λ b o q=>?_) A.bare
  ·simp only [ZT,WE,or_false] at hb;rcases hb with e | e | e | e
   ·rw [e];exact ⟨d.2.2.2.1,d.2.1,d.2.2.2.2.1,d.2.2.2.2.2⟩
   ·rw [e];exact ⟨f.2.2.2.1,f.2.1,f.2.2.2.2.1,f.2.2.2.2.2⟩
   ·rw [e];exact ⟨g.2.2.2.1,g.2.1,g.2.2.2.2.1,g.2.2.2.2.2⟩
   ·rw [e];exact ⟨j.2.2.2.1,j.2.1,j.2.2.2.2.1,j.2.2.2.2.2⟩
  ·obtain ⟨o,a3,a4,a5,r⟩:=hm;refine ⟨o,a3,a4,k2 _ o (λ hb=>?_) a5,r⟩
   simp only [ZT,WE,or_false] at hb;rcases hb with e | e | e | e
   ·exact d.2.1 e.symm
   ·exact f.2.1 e.symm
   ·exact g.2.1 e.symm
   ·exact j.2.1 e.symm
  ·refine (A.hok b o q).stay (λ c v a e=>k2 c v ?_ e) (λ c e=>e) λ c N e=>e
   rcases a with e | e
   ·rw [e];exact I b o q
   ·exact I c _ e
 self:=λ _ _ _ _ _ t h=>wpAny_pyIter_zip t.1 h
end
section
variable {X:Cx}{elts:List Expr}{x1:Nat}{tpos:Pos}
def mW (K:FrG)(ex C:Addr)(dx:Option Addr)(d:TA):TI:=λ e H g=>d e H λ vs c=>∃a b,vs=[.ref a,.ref b]/\(∃xs,SqL K c a xs)/\(∃f,SqL K c b f)/\g (Qs K ex C dx a b) c
theorem sH {ex C:Addr}{dx:Option Addr}{a b:Expr}{k:TA}{p pos:Pos}(r:Gl X "zip")(hm:X.mg "zip"=none)(ha:PA X [a,b] k)(t:YM [a,b] X.env=[(false,eval a X.env),(false,eval b X.env)]:=by rfl)(j:YM [b] X.env=[(false,eval b X.env)]:=by rfl):
  QV ex X (.Tuple elts x1 tpos) (.Call (.Name "zip" p) [a,b] [] pos) (mW X.K ex C dx k):=by
 intro d s l H R M h;refine Call_ (HR M r hm boot_zip (zr (thn (ha pos d s l H _ M h) λ us c ⟨vs,m,f,w,x⟩=>?_) (by rw [t,j]) (by rw [j];rfl)))
 obtain ⟨a,b,e,⟨xs,y⟩,⟨N,z⟩,q⟩:=x;subst e;obtain ⟨u,v,rfl,A,B⟩:=vals2 w;cases A
 cases B
 obtain ⟨its,O,g,P⟩:=f.list y;obtain ⟨n,ry,i,Q⟩:=f.list z;have g:c.heap.IsList a its.toArray:=g.isList;have i:c.heap.IsList b n.toArray:=i.isList;have D:a < c.heap.objs.size:=by
  obtain ⟨_,e,_⟩:=g;exact ZI e
 have E:b < c.heap.objs.size:=by
  obtain ⟨_,e,_⟩:=i;exact ZI e
 refine pq g i λ h' o F G j1 I hsz J=>?_
 have L:Inv X d l m { c with heap:=h' }:=f.kept (t':=c.toks) J
 refine wpAny_pyIter_zip o ⟨c.heap.objs.size+4,[c.heap.objs.size+4,c.heap.objs.size+2,c.heap.objs.size+3,c.heap.objs.size,c.heap.objs.size+1],_,_,m,rfl,L,qu (zipApart_new D E),⟨o,F,⟨_,_,G⟩,j1,I⟩,λ b hb=>?_,q⟩
 have le:c.heap.objs.size<=b:=by
  simp only [ZT,WE,or_false] at hb;rcases hb with e | e | e | e | e
  ·rw [e];exact yF _ 4
  ·rw [e];exact yF _ 2
  ·rw [e];exact yF _ 3
  ·rw [e];exact YE _
  ·rw [e];exact yF _ 1
 exact f.fpOk le (f.hok.fresh le)
end
theorem cT {ex:Addr}{X:Cx}{tg a5 iter:Expr}{W:List Expr}{a:Scope}{pos:Pos}{f1:TI}{k5:TG}{tt:TT}{f2:TE}{cl:List (Str×Addr)}(y:List Str)(M:List (Option Nat))(f3:X.A.handled=some (.ref ex))(h1:QV ex X tg iter f1)
  (h2:∀C k g O l,PG (BP X a cl y C k g O l) tg k5) (ht:∀C k g O l,Bo (BP X a cl y C k g O l) W tt) (h3:∀C k g O l,PE (BP X a cl y C k g O l) a5 f2)
  (a6:CapOk X a cl) (hcell:∀K∈a.names,K.2≠.cell) (P:a.kind=.function) (b2:∀K∈a.names,K.2=.local->a.names.lookup K.1=some .local) (h4:M.length=y.length)
  (d6:∀(i j:Nat),M[i]?=some (some j)->∃K:Str,y[i]?=some K/\X.N[j]?=some K/\(zV a X.env).names.lookup K=some .cell/\X.env.scope.names.lookup K=some .cell)
  (h5:∀x,UW iter X.env x=pure x) {g:List (Addr×Obj)} {s:X1} {b3:St} {H:Hp} {Q:VK} {use:Option (Value->Sem Unit)} {QQ:Value->X1->Prop}
  (f4:∀(C D:Addr) (k:List Addr) (O b1:X1) (l c1:Hp) (pl:List (Addr×Obj)) (B:St) (items:Array Value) (q:List V),Inv X g b3 l O->(∀b∈k,FpOk X g l b)->Inv (BP X a cl y C k g O l) pl B c1 b1->b1.heap.PlainList D items->c1 D=none->O.heap.get? D=none->D≠C->
   Vals q items.toList->q.length<=X2->(∀p,c1 p=none->Q (.ref p) (upd c1 p (.lst q)))->xy (model X.prog X.w) X.A X.xe use QQ (.ref D) C (.ok .next) b1)
  (k8:Inv X g b3 H s) (h:FJ f1 k5 tt f2 M b3 H Q):wpAny (model X.prog X.w) X.A (xG (.ListComp a5 [⟨tg,iter,W,0⟩] a pos) a X.env (firstIterPos [⟨tg,iter,W,0⟩] pos) (newList []) false (eval iter X.env) use) QQ X.xe s:=by
 refine yS (use:=use) rfl h5 a6.clos P b2 (thn (h1 g s b3 H _ k8 h) λ k9 a1 E=>thn E λ k6 f d7=>?_)
 obtain ⟨it,k,b4,l2,l,rfl,R,T,c8,c2,h6,⟨h7,h8⟩,turn⟩:=d7;have b5:∀b∈k,b < f.heap.objs.size:=λ b hb=>by obtain ⟨o,e,_⟩:=T.obj _ _ c8 b hb;exact ZI e
 refine UU (xM hcell (by intro K h9;simp at h9) (λ E I F=>?_) P)
 dsimp only at I F ⊢
 generalize b6:f.heap.push { cls:=.type "list",dict:=none,data:=.seq ([]:List Value).toArray }=Y at I F ⊢;have d8:Y.objs.size=f.heap.objs.size+1:=by rw [<- b6,UC]
 have a7:f.heap.objs.size≠Y.objs.size:=by rw [d8];exact YO (zw _)
 have d9:f.heap.objs.size<=Y.objs.size:=by rw [d8];exact xa _
 have a8:∀b,b < f.heap.objs.size->b≠Y.objs.size:=λ b hb=>by rw [d8];exact YO (wP hb)
 have c9:∀b o,f.heap.get? b=some o->E.get? b=some o:=λ b o e=>F.extBut b o (a8 b (ZI e)) (X9 _ (b6▸X9 _ e))
 have e0:E.PlainList f.heap.objs.size #[]:=⟨_,F.extBut _ _ a7 (X9 _ (b6▸YL _ rfl))⟩;have S:f.heap.get? f.heap.objs.size=none:=zH (YE _);have f5:l f.heap.objs.size=none:=R.hok.fresh (YE _);generalize a9:f.heap.objs.size=D at *;generalize k7:Y.objs.size=C at *;have d0:∀b∈k,b≠D:=λ b hb=>YO (b5 b hb)
 have U:∀{t:Hp} {pl:List (Addr×Obj)},(∀p∈pl,p.1=D)->(∀b∈k,t b=none)->∀b∈k,FpOk (BP X a cl y C k g f l) pl t b:=λ {t pl} f6 hn b hb=>by
  obtain ⟨l0,i0,f7,l1,i1,i2⟩:=c2 b hb;refine ⟨hn b hb,a8 b (b5 b hb),JH R i0 f7,.inl hb,λ K c e=>i1 K c (a6.sub K c e),λ p G=>?_⟩
  rcases XA.mp G with G | G
  ·exact i2 p G
  ·rw [f6 p G];exact (d0 b hb).symm
 have f8:∀n s',(∃i B q,∃(items:Array Value),∃t,Inv (BP X a cl y C k g f l) [] B t s'/\b4 i s'.heap/\(∀b∈k,t b=none)/\s'.heap.PlainList D items/\Vals q items.toList/\t D=none/\h6 i n B q t)->
   wpAny (model X.prog X.w) X.A (yV (.ref it)) (λ r a1=>match r with
   | none=>xy (model X.prog X.w) X.A X.xe use QQ (.ref D) C (.ok .next) a1
   | some v=>wpAny (model X.prog X.w) X.A (zc tg (.ref it) v) (λ _ c3=>wpAny (model X.prog X.w) X.A (yL tg (zk a cl C X.env) v) (λ _ c4=>
     wpAny (model X.prog X.w) X.A (forIn W true λ c r=>if r=true then do let ok <- GH c (zk a cl C X.env) (eval c (zk a cl C X.env));pure (UH ok) else pure (UH r)) (λ ok z=>
      if ok=true then wpAny (model X.prog X.w) X.A (eval a5 (zk a cl C X.env)) (λ x e1=>
       wpAny (model X.prog X.w) X.A (call (.builtin "list.append") [.ref D,x]) (λ _ a2=>∃m,m < n/\∃i B q,∃(items:Array Value),∃t,Inv (BP X a cl y C k g f l) [] B t a2/\b4 i a2.heap/\(∀b∈k,t b=none)/\a2.heap.PlainList D items/\Vals q items.toList/\t D=none/\h6 i m B q t) (λ _ _=>False) e1) (λ _ _=>False) z
      else ∃m,m < n/\∃i B q,∃(items:Array Value),∃t,Inv (BP X a cl y C k g f l) [] B t z/\b4 i z.heap/\(∀b∈k,t b=none)/\z.heap.PlainList D items/\Vals q items.toList/\t D=none/\h6 i m B q t) (λ _ _=>False) c4) (λ _ _=>False) c3) (λ _ _=>False) a1) (λ _ _=>False) s':=by
  rintro n e2 ⟨i,L,q,items,b7,i3,d1,d2,f9,b0,g0,i4⟩
  obtain ⟨i5,i6⟩:=turn i n L q b7 i4;obtain ⟨a3,c5⟩:=id f9;have e3:D∉frs X.stack:=λ e4=>by
   obtain ⟨_,o,e,_⟩:=R.stack.mem e4;rw [S] at e;cases e
  have d3:Inv (BP X a cl y C k g f l) [(D,{ cls:=.type "list",data:=.seq items a3 })] L b7 e2:=i3.pins_of λ p G=>by
   have e:p=(D,{ cls:=.type "list",data:=.seq items a3 }):=by simpa using G
   subst e;exact ⟨c5,g0,a7,e3,λ v e4=>by cases e4⟩
  have one:∀p∈[(D,({ cls:=.type "list",data:=.seq items a3 }:Obj))],p.1=D:=λ p G=>by
   have e:p=(D,{ cls:=.type "list",data:=.seq items a3 }):=by simpa using G
   subst e;rfl
  rcases i6 with ⟨stop,i7⟩ | ⟨go,step⟩
  ·refine thn (T.done (BP X a cl y C k g f l) rfl rfl rfl f3 i _ e2 L b7 (λ _ _=>False) d3 (U one d2) d1 stop) λ r b1 ⟨e5,g1⟩=>?_
   subst e5;obtain ⟨i8,g2,_⟩:=g1.pin _ (ZB _ (Zu.mpr rfl));exact f4 C D k f b1 l b7 _ L items q R c2 g1 ⟨a3,i8⟩ g2 (a9▸S) a7 b0 i5 i7
  ·refine thn (T.item (BP X a cl y C k g f l) rfl rfl rfl f3 i _ e2 L b7 (λ _ _=>False) d3 (U one d2) d1 go) λ r b1 ⟨u,e5,i9⟩=>?_
   subst e5;refine thn i9 λ _ g3 ⟨x,g4,j0,j1,j2,b8,g5⟩=>?_
   have g6:=j0.pinned (U one g5) (T.obj _ _ b8);refine thn (h2 C k g f l _ g3 L g4 x u _ g6 j1 (step x g4 j2)) λ _ j3 ⟨J,j4,j5,j6⟩=>?_
   refine thn (ht C k g f l _ j3 J j4 _ j5 j6) λ b j7 ⟨g7,g8,c6⟩=>?_
   have b9:∀{Z:Hp} {a0:X1},Inv (BP X a cl y C k g f l) ([(D,({ cls:=.type "list",data:=.seq items a3 }:Obj))]++pinsAt k g3.heap) J Z a0->
     Inv (BP X a cl y C k g f l) [] J Z a0/\b4 (i+1) a0.heap/\(∀b∈k,Z b=none)/\a0.heap.PlainList D items/\Z D=none:=λ {Z a0} a4=>by
    refine ⟨a4.pins_of (λ p G=>nomatch G),T.keep _ _ _ b8 λ b hb o e=>(a4.pin (b,o) (ZB _ (ZB _ (Ft hb e)))).1,λ b hb=>?_,?_,?_⟩
    ·obtain ⟨o,e,d⟩:=T.obj _ _ b8 b hb;exact (a4.pin (b,o) (ZB _ (ZB _ (Ft hb e)))).2.1
    ·exact ⟨a3,(a4.pin _ (ZB _ (UX _ (Zu.mpr rfl)))).1⟩
    ·exact (a4.pin _ (ZB _ (UX _ (Zu.mpr rfl)))).2.1
   cases b with
   | false=>
    rw [if_neg ZE] at c6;obtain ⟨e6,hm,j8⟩:=c6;obtain ⟨e7,e8,e9,f0,c7⟩:=b9 g8;rw [if_neg ZE];exact ⟨e6,hm,i+1,J,q,items,g7,e7,e8,e9,f0,b0,c7,j8⟩
   | true=>
    rw [if_pos rfl] at c6;rw [if_pos rfl];refine thn (h3 C k g f l _ j7 J g7 _ g8 c6) λ v a0 ⟨K,Z,a4,j9,e6,hm,k0⟩=>?_
    obtain ⟨e7,e8,e9,f0,c7⟩:=b9 a4;have g9:items.size<=X2:=by
     have e:q.length=items.size:=by simpa using b0.length
     omega
    refine xj (hsz:=g9) f0 λ k1 h0 d4=>?_
    have k2:∀K c,cl.lookup K=some c->c≠D:=λ K c e e4=>by
     obtain ⟨v,o,c5,_⟩:=R.cell K c (a6.sub K c e);rw [e4,S] at c5;cases c5
    have np:∀p∈(X.pn++g)++[],p.1≠D:=λ p G e4=>by
     rw [UB] at G;have e:=(R.pin p G).1;rw [e4,S] at e;cases e
    have k3:Inv (BP X a cl y C k g f l) [] J Z { a0 with heap:=k1 }:=e7.turned (it:=D) (t':=a0.toks) (λ b o hb e=>d4.extBut b o hb e) c7 a7 (.inr (wb a9)) k2 np
    refine ⟨e6,hm,i+1,J,q++[K],items.push v,Z,k3,T.keep _ _ _ e8 λ b hb o e=>d4.extBut b o (d0 b hb) e,e9,h0,?_,c7,k0⟩
    rw [wQ];exact b0.append (.cons j9 .nil)
 have k4:Inv (BP X a cl y C k g f l) [] (Fg M b3) l { f with heap:=E,toks:=f.toks+([]:List (Str×Value)).length }:=
  Px R c2 (λ b hb=>a9▸b5 b hb) P a6 (by rw [a9];exact d9) rfl R.bare c9 I h4 d6 (ht:=R.tk)
 have d5:b4 0 E:=T.keep _ _ _ c8 λ b _ o e=>c9 b o e
 have c0:∀z:X1,z={ f with heap:=E,toks:=f.toks+([]:List (Str×Value)).length }->
   zK (model X.prog X.w) X.A (.compLoop (.ListComp a5 [⟨tg,iter,W,0⟩] a pos) 0 (.ref it) (.ref D) (zk a cl C X.env)) (xy (model X.prog X.w) X.A X.xe use QQ (.ref D) C) z:=by
  rintro z rfl
  exact Vd _ f8 h7 ⟨0,_,[],#[],l,k4,d5,λ b hb=>(c2 b hb).1,e0,.nil,f5,h8⟩
 exact xz (c0 _ rfl) (T.self X.A 0 _ _ _ d5 (c0 _ rfl))
theorem j7 {ex:Addr}{X:Cx}{tg o iter:Expr}{p:List Expr}{a:Scope}{pos:Pos}{t:TI}{S:TG}{tt:TT}{u:TE}{cl:List (Str×Addr)}(d:List Str)(c:List (Option Nat))(D:X.A.handled=some (.ref ex))(E:QV ex X tg iter t)
  (F:∀C e b f g,PG (BP X a cl d C e b f g) tg S) (ht:∀C e b f g,Bo (BP X a cl d C e b f g) p tt) (G:∀C e b f g,PE (BP X a cl d C e b f g) o u)
  (v:CapOk X a cl) (hcell:∀l∈a.names,l.2≠.cell) (n:a.kind=.function) (k:∀l∈a.names,l.2=.local->a.names.lookup l.1=some .local) (I:c.length=d.length)
  (q:∀(i j:Nat),c[i]?=some (some j)->∃l:Str,d[i]?=some l/\X.N[j]?=some l/\(zV a X.env).names.lookup l=some .cell/\X.env.scope.names.lookup l=some .cell)
  (J:∀x,UW iter X.env x=pure x:=by intro _;rfl):
  PE X (.ListComp o [⟨tg,iter,p,0⟩] a pos) (FJ t S tt u c):=by
 intro b s V H Q W h;rw [eval_ListComp];refine cT (use:=none) d c D E F ht G v hcell n k I q J (λ C T e f Y g Z pl U items a0 K L w y z r B M O P=>?_) W h
 obtain ⟨m,hn,_⟩:=w.loc;exact ⟨m,hn,λ h' R=>⟨.ref T,_,Ly K L w y z r B M O R,rfl,P T z⟩⟩
def Yu (K:FrG)(ex C:Addr)(dx:Option Addr)(n:Nat)(t:TGs):TG:=λ v b H Q=>∃a xs,v=.ref a/\SqT K H a xs/\xs.length=n/\HX H ex C dx/\t xs b H Q
theorem gb {X:Cx}{pos:Pos}{ex C:Addr}{dx:Option Addr}{d:List Expr}{k:Nat}{t:TGs}{n:Nat}(l:X.A.handled=some (.ref ex))(h:PGs X d t)
  (hn:(JM d X.env).length=n:=by rfl) (g:(JM d X.env).findIdx? (·.1)=none:=by rfl):PG X (.Tuple d k pos) (Yu X.K ex C dx n t):=by
 intro c s i H v u Q m r f;obtain ⟨a,xs,e1,p,hl,hex,f⟩:=f;subst e1;cases r
 obtain ⟨its,j,ht,y⟩:=m.tuple p;have ht:s.heap.IsTuple a its.toArray:=ht;refine nU l (λ h' x=>aP hex m.hok λ b u o _ e=>x _ o (YO (ZI e)) e) ht (by simp [hn,<- hl,j.length]) g λ h' q=>?_
 have w:Inv X c i H { s with heap:=h' }:=m.kept (t':=s.toks) λ b o e=>q b o (YO (ZI e)) e
 exact h c _ i H xs _ Q w (by simpa using j) f
theorem Vy (h:Heap)(b:Addr):(h.update b λ o=>{ o with data:=.freed }).get? b=none:=by
 obtain ⟨os,l⟩:=h;unfold Heap.get? Heap.update;simp only [Array.getElem?_modify];cases os[b]?<;>rfl
theorem Xf {P:Yg}{w:World}{fs:List Addr}{H g:Hp}{h i a m:Heap}{b:Addr}{o:Obj}{vs:Array Value}(j:∀c:Heap,m.StaysIn c->i.UpToSlots c->Un fs [] H g h c/\HOk P w g c)(st:m.StaysIn a)(p:i.UpToSlots a)
  (r:m.get? b=none) (hb:a.get? b=some o) (hd:o.data=.fields vs):g b=none/\h.get? b=none:=by
 have f:∀x,x≠b->(a.update b λ o=>{ o with data:=.freed }).get? x=a.get? x:=λ x n=>XG _ _ (WU n)
 obtain ⟨u,k⟩:=j (a.update b λ o=>{ o with data:=.freed }) (λ x o q=>(f x λ d=>by rw [d,r] at q;cases q).trans (st x o q)) λ x u q l=>by
  obtain ⟨s,d⟩:=p x u q l;refine ⟨s,(f x λ t=>?_).trans d⟩
  rw [t,hb] at d;cases d
  exact l vs hd
 refine ⟨k.none_of (Vy a b),?_⟩;cases e:h.get? b with
 | none=>rfl
 | some o=>
  obtain ⟨v,d⟩:=u.there b o e λ d=>nomatch d
  rw [Vy] at d;cases d
theorem gG {P:Yg}{w:World}{fs:List Addr}{H d:Hp}{g h:Heap}{a:Addr}{f:Heap->Prop}(u:Un fs [] H d g h/\HOk P w d h)(r:d a=none)(s:g.get? a=none)(ex:f h)(i:∃o,h.get? a=some o)
  (j:∀l p:Heap,f l->(∀o,l.get? a=some o->p.get? a=some o)->f p):Un fs [] H (upd d a (.ext f)) g h/\HOk P w (upd d a (.ext f)) h:=by
 have k:∀b o,d b=some o->upd d a (.ext f) b=some o:=λ b o q=>by rw [Ax (BZ q r)];exact q
 refine ⟨⟨u.1.keep,u.1.slot,λ b o e n t=>?_,u.1.there,λ b xs e=>k _ _ (u.1.tups b xs e),λ b o x e=>k _ _ (u.1.frzs b o x e),λ b ps e=>?_⟩,λ b o e=>?_⟩
 ·have:b≠a:=λ y=>by rw [y,s] at e;cases e
  rw [Ax this];exact u.1.free b o e n t
 ·obtain ⟨m,q⟩:=u.1.tbls b ps e;exact ⟨m,k _ _ q⟩
 ·by_cases hb:b=a
  ·subst hb;rw [Aj] at e;cases e
   exact ⟨ex,i,j⟩
  ·rw [Ax hb] at e;exact (u.2 b o e).stay (λ c v _ q=>q) (λ c q=>k _ _ q) λ c xs q=>k _ _ q
theorem track {P:Yg}{w:World}{fs:List Addr}{H g:Hp}{i h C:Heap}{v:Value}(c:Chn C h v)(cl:∀b o vs,C.get? b=none->h.get? b=some o->o.data=.fields vs->g b=none/\i.get? b=none)
  (u:Un fs [] H g i h/\HOk P w g h):∃a,(Un fs [] H a i h/\HOk P w a h)/\ChT a v/\(∀b o,g b=some o->a b=some o)/\∀b,a b=g b\/ChT a (.ref b):=by
 induction c with
 | none=>exact ⟨g,u,.none,λ _ _ f=>f,λ _=>.inl rfl⟩
 | @ref b o vs m y e d t _ z=>
  obtain ⟨a,n,p,r,j⟩:=z;obtain ⟨A,B⟩:=cl b o vs y e d;cases q:a b with
  | some l=>
   rcases j b with f | f
   ·rw [f,A] at q;cases q
   ·exact ⟨a,n,f,r,j⟩
  | none=>
   have k:∀x l,a x=some l->upd a b (xH b o.cls o.dict m) x=some l:=λ x l f=>by rw [Ax (BZ f q)];exact f
   refine ⟨upd a b (xH b o.cls o.dict m),gG n q B ⟨o,vs,e,rfl,rfl,d,t⟩ ⟨o,e⟩ (λ _ _ f k=>f.stay k),.ref Aj (p.same k),λ x l f=>k _ _ (r x l f),λ x=>?_⟩
   by_cases s:x=b
   ·subst s;exact .inr (.ref Aj (p.same k))
   ·rcases j x with f | f
    ·exact .inl ((Ax s).trans f)
    ·exact .inr (f.same k)
section
variable {X:Cx}{pins:List (Addr×Obj)}{σ:St}{H H2:Hp}{s s':X1}{a C Bc:Addr}{t:Option Addr}{B:Heap}{D:Ends}{xc n:Str}{np hp:Pos}{b₀:Stmt}{suite:List Stmt}{rest:List ui}{ts:TS}{i:Nat}
theorem km (R:Inv X pins σ H s)(M:X.stack=X.env::X.outer)(hf:X.env.frame=some X.env.locals)(os:s'.os=s.os)(bare:yG s'.gens)
  (m:∀l:Heap,B.StaysIn l->s'.heap.UpToSlots l->Un (frs X.stack) [] H H2 s.heap l/\HOk X.prog X.w H2 l) (a4:FlyD B X.stack a (.ref C) t .none s'.heap) (d3:H2 a=none) (d4:s.heap.get? a=none)
  (b5:Gl X xc) (a5:X.mg xc=some (.ref Bc)) (hm:QP X.K (.ref C) (.ref Bc)=some true) (b6:PSs (X.hnd a) (b₀::suite) ts) (p:X.N.Nodup) (y:X.N[i]?=some n) (d:X.env.scope.names.lookup n=some .local)
  (q:∀j,(∀b o,H2 b=some o->j b=some o)->HX j a C t->ts (D.gone i) (σ.set i (some (.ref a))) j) (a6:(xc == ("__debug__":Str))=false:=by decide) (ht:1<=s'.toks):
  wpAny (model X.prog X.w) X.A (yo (.ref a) X.env) (λ _ S=>wpAny (model X.prog X.w) X.A (jp (.ref a) none) (λ _ U=>
   wpAny (model X.prog X.w) X.A (handleBy (.ref a) X.env (.ExceptHandler (some (.Name xc np)) (some n) (b₀::suite) hp::rest)) (SP X pins D) X.xe U) X.xe S) X.xe s':=by
 have a7:X.A.frames=some (X.env::X.outer):=by rw [<- M];exact R.ok.frames
 have V:FlyD B (X.env::X.outer) a (.ref C) t .none s'.heap:=by rw [<- M];exact a4
 refine KH a7 hf V λ b7 F O=>?_
 refine G4 (s:={ s' with heap:=b7 }) F λ G k P=>?_
 have a8:Inv X pins σ H2 { s' with heap:=G }:=Gh R os bare (m G k.1 (O.trans P))
 obtain ⟨ob,a9,Y,_⟩:=k.there;have LT:yj (model X.prog X.w) G (typeOf (.ref a)) (.ref C):=Y▸(ul a9).andThen .now;refine wpAny_handleBy_cons (codeAny_handlers_test (EY (X:=X.hnd a) (a8.hnd a) b5 a5 ?_ a6)) (by intro q;cases q)
 refine PySem.W.exm_one (K:=X.K) a8.kIn LT hm _ _ _ _ (λ _ _ e=>e) ?_
 refine codeAny_handlers_suite_as ?_;refine G4 (s:={ s' with heap:=G }) k λ Z h b0=>?_
 have Q:=(O.trans P).trans b0;obtain ⟨d2,a0,I,J,_⟩:=h.there;have a1:Chn B Z (.ref a):=by
  obtain ⟨_,b8,_,o,d5,vs,ts,T,b9,_,_,hd,_,_,_,_,_,_,d6,c1,c0⟩:=h;exact .ref b8 b9 hd c1 c0
 obtain ⟨j,b1,c2,c3,_⟩:=track a1 (λ b o vs c4 c5 c6=>Xf m h.1 Q c4 c5 c6) (m Z h.1 Q)
 have c7:HX j a C t:=by
  cases c2 with
  | ref e c=>
   obtain ⟨o,vs,b4,b2,b3,_⟩:=(b1.2 a _ e).1;rw [a0] at b4;cases b4
   rw [I] at b2;rw [J] at b3;subst b2 b3;exact ⟨_,e,c⟩
 have c8:Inv X pins σ j { s' with heap:=Z }:=Gh R os bare b1
 refine Fo (X:=X.hnd a) (c8.hnd a) p y (.inl d) (show RelV (.ref a) (YI a) from rfl) (λ c9 d0=>?_) (.inr d)
 refine XW (b6 pins c9 _ _ (D.gone i) d0 (q j c3 c7)) (λ f d1 L=>?_) (λ x d1 b4=>b4.elim)
 cases f with
 | next=>
  obtain ⟨z,a2,a3,q⟩:=L;exact Kg (a3.unhnd R.ok) p y d λ E g=>⟨_,_,g,q⟩
 | ret u=>
  obtain ⟨v,z,a2,a3,r,q⟩:=L;exact Kg (a3.unhnd R.ok) p y d λ E g=>⟨v,_,_,g,r,q⟩
 | brk=>
  obtain ⟨z,a2,a3,q⟩:=L;exact Kg (a3.unhnd R.ok) p y d λ E g=>⟨_,_,g,q⟩
 | cont=>
  obtain ⟨z,a2,a3,q⟩:=L;exact Kg (a3.unhnd R.ok) p y d λ E g=>⟨_,_,g,q⟩
end
def pM (K:FrG)(f:Addr)(k:Ends)(g:St)(i:Nat)(h:Addr->TS):XK:=λ c d j=>∃C,c=.ref C/\QP K (.ref C) (.ref f)=some true/\∀a e,(∀b o,j b=some o->e b=some o)->HX e a C d->h a (k.gone i) (g.set i (some (.ref a))) e
section
variable {X:Cx}{xc n:Str}{pos np hp:Pos}{Bc:Addr}{b₀:Stmt}{suite:List Stmt}{ts:Addr->TS}{i:Nat}
theorem gA {c:List Stmt}{l:U3}(hb:Vb X c l)(m:X.stack=X.env::X.outer)(hf:X.env.frame=some X.env.locals)
  (o:X.mg xc=some (.ref Bc)) (w:∀a,PSs (X.hnd a) (b₀::suite) (ts a)) (x:X.N.Nodup) (y:X.N[i]?=some n) (g:X.env.scope.names.lookup n=some .local) (p:Gl X xc:=by rfl) (r:(xc == ("__debug__":Str))=false:=by decide):
  PS X (.Try c [.ExceptHandler (some (.Name xc np)) (some n) (b₀::suite) hp] [] [] pos) (λ z b H=>l (pM X.K Bc z b i ts) (λ j=>z.nx b j) b H):=by
 intro k s b H z M h;refine js (XW (wpAny_toks_of M.tk (hb k s b H _ _ M h)) (λ f A ⟨_,B⟩=>?_) (λ e s' ⟨ht,D⟩=>?_))
 ·obtain ⟨rfl,j,E,q⟩:=B;exact yi ⟨b,j,E,q⟩
 ·obtain ⟨O,A,F,a,C,d,P,R,rfl,os,bare,t,u,G,I,Q,J,v,L⟩:=D;cases J
  exact km F m hf os bare t u G I p o v (w a) x y g (L a) r ht
end
structure FnH (P:Yg)(w:World)(K:FrG)(mg:Str->Option Value)(base:Heap)(k:Nat)(f:Addr)(fd:JN)(ps:List Str)(sp:Addr->Sp):Prop where
 len:∀ex vs H Q E,sp ex vs H Q E->vs.length=ps.length
 run:∀(ex:Addr) (A:XE) (outer:List Env) (s:X1) (H:Hp) (args:Args) (us:List Value) (vs:List V) (Q:VK) (E:XK),A.handled=some (.ref ex)->RoomB false k A->Env0 P w K mg base A outer s H->qq s fd args (ps.zip us)->Vals vs us->sp ex vs H Q E->1<=s.toks->
  zK (model P w) A (.call (.ref f) args) (CR (Cz P w) outer P w H s Q E) s
theorem vY {P:Yg}{w:World}{K:FrG}{mg:Str->Option Value}{base:Heap}{k:Nat}{f:Addr}{name c:Str}{d:Arguments}{h:List Stmt}{a:Scope}{F kV y G cdv ct X:Value}{I Y:Option Addr}
  {J:Array (Option Value)} {N ps:List Str} {sp:Addr->Sp} (Z:K.lookup f=some ⟨X,Y,.func (YR name c d h a F kV y G I cdv ct),J⟩) (L:XP K cdv c=true) (M:FnScope N ps a)
  (len:∀ex vs H Q E,sp ex vs H Q E->vs.length=ps.length)
  (m:∀(ex:Addr) (A:XE) (outer:List Env) (s:X1) (H:Hp) (vs:List V) (Q:VK) (E:XK),A.handled=some (.ref ex)->RoomB false k (A.deeper (yC c a s.heap.objs.size f cdv))->sp ex vs H Q E->
   ∃t,PSs (Cd false P w K mg base N c a f cdv A outer s H E) h t/\t { nx:=λ _ g=>Q .non g,rt:=Q } (start N vs) H):
  FnH P w K mg base (k+1) f (YR name c d h a F kV y G I cdv ct) ps sp:=by
 refine ⟨len,λ ex A outer s H args us vs Q E a0 O l hb r z R=>?_⟩
 have hl:=len _ _ _ _ _ z;have S:K.In s.heap:=l.mod.kin.keeps λ b o e=>(l.bs b o e).1
 have lim:s.heap.NoLimit:=l.mod.nolimit.keeps λ b o e=>(l.bs b o e).1
 have p:∀a1∈ps.zip us,a.names.lookup a1.1=some .local\/(a.names.lookup a1.1=some .cell/\((zn (s.heap.objs.size+1) a.names []).lookup a1.1).isSome=true):=λ ⟨n,v⟩ a2=>by
  rcases M.par n (xQ a2).1 with q | q
  ·exact .inl q
  ·exact .inr ⟨q,xm _ _ _ (.inl q)⟩
 refine codeAny_call_function O.depth (S _ _ Z) rfl M.co M.gen rfl (FA S L) (hb _ _ _ _ ?_);refine Xm M.kind p (.inl R) λ env a3 T x U=>?_
 subst a3;refine ⟨lim.keeps x.toInCall.keep,codeAny_func ?_⟩;obtain ⟨t,ht,a4⟩:=m ex A outer s H vs Q E a0 (O.deeper _) z;have a6:Inv (Cd false P w K mg base N c a f cdv A outer s H E) [] (start N vs) H T:=WF M (λ a7=>nomatch a7) l hl r x U
 refine XW (ht [] T (start N vs) H _ a6 a4) (λ a5 s' j=>?_) λ e s' j=>j
 have B:∀{i:St} {g:Hp} {v:V} {u:Value},Inv (Cd false P w K mg base N c a f cdv A outer s H E) [] i g s'->RelV v u->Q v g->CE outer P w H s Q u s':=
  λ {i g v u} C D q=>⟨v,g,C.os,C.bare,C.base,C.hok,D,q⟩
 cases a5 with
 | ret u=>
  obtain ⟨v,i,g,C,D,q⟩:=j;exact B C D q
 | next=>
  obtain ⟨i,g,C,q⟩:=j;exact B (v:=V.non) (u:=WR) C rfl q
 | brk=>
  obtain ⟨_,_,_,q⟩:=j;exact UQ q
 | cont=>
  obtain ⟨_,_,_,q⟩:=j;exact UQ q
structure CalH (P:Yg)(w:World)(K:FrG)(mg:Str->Option Value)(base:Heap)(k:Nat)(x:Str)(ps:List Str)(sp:Addr->Sp):Prop where
 ex:∃(f:Addr) (fd:JN),FnH P w K mg base k f fd ps sp/\mg x=some (.ref f)/\YN K (.ref f)=true/\Binds K fd ps []
theorem TopFn.calH {P:Yg}{w:World}{K:FrG}{mg:Str->Option Value}{base:Heap}{x:Str}{st:Stmt}{N ps:List Str}{k:Nat}{sp:Addr->Sp}(T:TopFn K mg x st)(j:FnScope N ps (defScope st))
  (hb:∀(kV b c:Value) (d:Option Addr) (cdv ct:Value) (us:List Value),us.length=ps.length->yR (YR x x (defArgs st) (defBody st) (defScope st) .none kV b c d cdv ct) ⟨us,[]⟩=pure (ps.zip us))
  (len:∀ex vs H Q E,sp ex vs H Q E->vs.length=ps.length)
  (a:∀(f:Addr) (cdv:Value) (ex:Addr) (A:XE) (outer:List Env) (s:X1) (H:Hp) (vs:List V) (Q:VK) (E:XK),A.handled=some (.ref ex)->RoomB false k (A.deeper (yC x (defScope st) s.heap.objs.size f cdv))->sp ex vs H Q E->
   ∃t,PSs (Cd false P w K mg base N x (defScope st) f cdv A outer s H E) (defBody st) t/\t { nx:=λ _ e=>Q .non e,rt:=Q } (start N vs) H):CalH P w K mg base (k+1) x ps sp:=by
 obtain ⟨f,fd,g,hm⟩:=T.ex;obtain ⟨m,n,kV,b,c,d,cdv,ct,i,rfl,l,h⟩:=id g.ex;exact ⟨f,_,vY l h j len (a f cdv),hm,g.kp,g.binds hb⟩
section
variable {X:Cx}{k:Nat}{ps:List Str}{sp:Addr->Sp}{x:Str}{p pos:Pos}{e:Expr}{es:List Expr}{t:TA}{E:XK}{ex:Addr}
theorem pC (n:X.A.handled=some (.ref ex))(C:CalH X.prog X.w X.K X.mg X.base k x ps sp)(o:RoomB false k X.A)(v:Passes (Cz X.prog X.w) X E)(ha:PA X (e::es) t)(y:Gl X x:=by rfl)(g:(x == ("__debug__":Str))=false:=by decide)
  (z:YM (e::es) X.env=(false,eval e X.env)::YM es X.env:=by rfl) (i:(QK pos (YM es X.env)).any (·.1)=false:=by rfl):
  PE X (.Call (.Name x p) (e::es) [] pos) (tCall (sp ex) [] E t):=by
 obtain ⟨f,fd,G,hm,B,hb⟩:=C.ex;intro b s j H Q D h;refine JO (EY D y hm ?_ g);refine JJ (h₀:=X.base) D.ok.mod.kin B (thn (ha pos b s j H _ D h) λ us d ⟨vs,l,a,r,q⟩=>⟨a.kIn,?_⟩) z i
 have m:Vals (vs++[]) (us++[]):=r.append .nil;have hl:(us++[]).length=ps.length:=by rw [<- m.length];exact G.len _ _ _ _ _ q
 refine wpAny_call (xv a.tk (xw (G.run ex X.A X.stack d l ⟨us,[]⟩ (us++[]) (vs++[]) Q E n o a.env0 (hb d us a.kIn hl) m q a.tk) λ r s' c ht=>?_))
 cases r with
 | error e=>exact v b j l d e s' a c ht
 | ok F=>
  cases F with
  | ret u=>exact a.after c
  | next=>exact UQ c
  | brk=>exact UQ c
  | cont=>exact UQ c
end
section
variable {X:Cx}
theorem eX:CallR X (.builtin "isinstance") (λ xs H Q=>∃a C d v c b,xs=[.ref a,v]/\HX H a C d/\ExcK X.K C/\RelV v c/\ZJ X.K (.ref C) c=some b/\Q (.bl b) H):=by
 intro m s z H xs us Q k r h;obtain ⟨a,C,d,v,c,b,rfl,⟨n,ha,_⟩,A,f,e,q⟩:=h;obtain ⟨u,g,rfl,o,j⟩:=vals2 r;cases (show u=YI a from o)
 have p:g=c:=by
  cases v with
  | ref x=>exact (show g=.ref x from j).trans (show c=.ref x from f).symm
  | ty T=>exact (show g=.type T from j).trans (show c=.type T from f).symm
  | non=>exact (show g=.none from j).trans (show c=.none from f).symm
  | bl l=>exact (show g=.bool l from j).trans (show c=.bool l from f).symm
  | int i=>obtain ⟨t,rfl⟩:=f;exact absurd e (by unfold ZJ kitCls;simp)
  | str i=>obtain ⟨t,rfl⟩:=f;exact absurd e (by unfold ZJ kitCls;simp)
  | byt i=>obtain ⟨t,rfl⟩:=f;exact absurd e (by unfold ZJ kitCls;simp)
  | flt i=>obtain ⟨t,rfl⟩:=f;exact absurd e (by unfold ZJ kitCls;simp)
 subst p;have ob:ObjOk X.prog X.w H s.heap a (xH a (.ref C) d n):=k.hok a _ ha;exact zq k.tk (kia_one (eY A) k.kIn (XH.at ob.1) e (λ l=>nomatch l) λ tk y=>⟨.bl b,H,k.tok _,rfl,q⟩)
end
section
variable {X:Cx}{e:Expr}{ta:TE}{f:Str}{pos:Pos}
theorem En {K:FrG}(g:X.K=K:=by rfl):CallR X (.builtin "isinstance") (λ xs H Q=>∃a C d v c b,xs=[.ref a,v]/\HX H a C d/\ExcK K C/\RelV v c/\ZJ K (.ref C) c=some b/\Q (.bl b) H):=g▸eX
end
end L2
namespace L2
open PySem PySem.Spec PyProof.Rows PySem.Builtin
theorem gf {K:FrG}{ex C:Addr}{dx:Option Addr}{a b:Addr}{xs zs:List V}{J:TG}{tt:TT}{o:TE}{Q:VK}{d:St}{H:Hp}(f:Nat->St->List V->Hp->Prop)(le:xs.length<=zs.length)(w:f 0 d [] H)(y:∀i d c H,i<=xs.length->f i d c H->c.length<=X2/\SqL K H a xs/\SqL K H b zs/\HX H ex C dx)
  (z:∀i x t d c H p,xs[i]?=some x->zs[i]?=some t->f i d c H->H p=none->J (.ref p) d (upd H p (.tup [x,t])) λ g A=>tt g A λ b q=>if b=true then o g q λ B D=>Nx xs.length f i g (c++[B]) D else Nx xs.length f i g c q)
  (hd:∀d c H p,f xs.length d c H->H p=none->Q (.ref p) (upd H p (.lst c))):Fe J tt o (Qs K ex C dx a b) d H Q:=by
 refine ⟨λ i m d c H=>m=xs.length - i/\i<=xs.length/\f i d c H,⟨xs.length,by simp,JI _,w⟩,?_⟩
 rintro i m h c H ⟨rfl,E,p⟩
 obtain ⟨t,k,s,F⟩:=y i h c H E p;refine ⟨t,?_⟩;by_cases j:i < xs.length
 ·have l:i < zs.length:=W1 j le;refine .inr ⟨⟨xs,zs,xs[i],zs[i],k,s,by simp [j],by simp [l]⟩,λ x L B=>?_⟩
  obtain ⟨r,u,v,n,rfl,G,I,rfl⟩:=B;exact z i u v h c H r (G xs k) (I zs s) p n
 ·have e:i=xs.length:=by omega
  subst e;exact .inl ⟨⟨xs,k,YE _,F⟩,λ r n=>hd h c _ r p n⟩
theorem jR {X:Cx}{pos:Pos}{ex C:Addr}{dx:Option Addr}{a:List Expr}{k:Nat}{t:TGs}{n:Nat}{K:FrG}(h:PGs X a t)(c:X.A.handled=some (.ref ex):=by assumption)
  (hn:(JM a X.env).length=n:=by rfl) (b:(JM a X.env).findIdx? (·.1)=none:=by rfl) (d:X.K=K:=by rfl):PG X (.Tuple a k pos) (Yu K ex C dx n t):=d▸gb c h hn b
end L2
namespace L2
open PySem PySem.Spec PyProof.Rows
section
variable {M:Model}{A:XE}{E:Value->X1->Prop}{s:X1}{base:Heap}{env:Env}{outer l:List Env}{L e:Addr}{c:Value}{d:Option Addr}
theorem vL {D:Value}{k:Option Addr}{Q:Unit->X1->Prop}(x:FlyD base l e c d D s.heap)(h:∀m h',FlyD base l e c d m h'->s.heap.UpToSlots h'->Q () { s with heap:=h' }):
  wpAny M A (jp (.ref e) k) Q E s:=by
 obtain ⟨st,ne,fr,o,K,vs,p,T,r,F,t,hd,w,y,z,g,dT,G,B,c1,H⟩:=x;have C:3 < p.size:=(UR.mp G).1;unfold jp;refine Y3 (XZ r hd w ?_);rw [if_pos (show (YI T != WR)=true by simp)]
 generalize (k.elim WR λ f=>zC (f:Nat))=v
 have a:∀b,b≠T->(s.heap.update T (Xd (·.setIfInBounds 3 v))).get? b=s.heap.get? b:=λ b n=>XG _ _ (WU n)
 have i:∀b u,s.heap.get? b=some u->(∀xs,u.data≠.fields xs)->b≠T:=λ b u q j I=>by
  subst I;rw [g] at q;cases q;exact j p dT
 have J:Chn base (s.heap.update T (Xd (·.setIfInBounds 3 v))) B:=H.mono λ b u us q d=>by
  by_cases hb:b=T
  ·subst hb;rw [g] at q;cases q
   exact ⟨_,_,XB _ g (UD (XV d _)),XV d _,UM (by decide)⟩
  ·exact ⟨u,us,(a b hb).trans q,d,rfl⟩
 refine QU g dT C (h v _ ⟨λ b u q=>(a b λ I=>by rw [I,y] at q;cases q).trans (st b u q),ne,fr.of_keeps λ b u q j=>⟨u,(a b (i b u q j)).trans q,rfl⟩,
  o,_,vs,_,T,(a e (WU z)).trans r,F,t,hd,w,y,z,XB _ g (UD (XV dT _)),XV dT _,by simp [C],B,c1,J⟩ λ b u q j=>⟨u.slots,(a b (i b u q j)).trans q⟩)
theorem dU {m:Value}{Q:Unit->X1->Prop}(p:A.frames=some (env::outer))(hf:env.frame=some L)(x:FlyD base (env::outer) e c d m s.heap)
  (h:∀h',FlyD base (env::outer) e c d (zC L) h'->s.heap.UpToSlots h'->Q () { s with heap:=h' }):wpAny M A (yo (.ref e) env) Q E s:=by
 obtain ⟨st,ne,fr,o,J,vs,z,T,r,B,t,hd,v,C,D,i,dT,w,y,c1,F⟩:=id x;subst B t;have a:∀b,b≠T->(s.heap.update T (Xd (·.setIfInBounds 3 WR))).get? b=s.heap.get? b:=λ b n=>XG _ _ (WU n)
 have j:∀b u,s.heap.get? b=some u->(∀xs,u.data≠.fields xs)->b≠T:=λ b u q g G=>by
  subst G;rw [i] at q;cases q;exact g z dT
 have H:Chn base (s.heap.update T (Xd (·.setIfInBounds 3 WR))) y:=F.mono λ b u us q d=>by
  by_cases hb:b=T
  ·subst hb;rw [i] at q;cases q
   exact ⟨_,_,XB _ i (UD (XV d _)),XV d _,UM (by decide)⟩
  ·exact ⟨u,us,(a b hb).trans q,d,rfl⟩
 unfold yo;simp only [hf];refine Y3 (XZ r hd v ?_);rw [if_pos (show (YI T != WR)=true by simp)];refine Y3 (XZ i dT w ?_)
 by_cases k:(m == zC L)=true
 ·rw [if_pos k];have e1:m=zC L:=by simpa using k
  subst e1;exact ZH (h s.heap x λ b u q _=>⟨u.slots,q⟩)
 ·rw [if_neg k];refine Y3 (QU i dT (UR.mp w).1 ?_);refine Pn (s:={ s with heap:=s.heap.update T (Xd (·.setIfInBounds 3 WR)) }) p hf (λ b u q=>(a b λ G=>by rw [G,C] at q;cases q).trans (st b u q)) ne (fr.of_keeps λ b u q g=>⟨u,(a b (j b u q g)).trans q,rfl⟩)
   ((a e (WU D)).trans r) hd (UR.mp v).1 ⟨y,c1,H⟩ λ h' f I=>h h' f λ b u q g=>I b u ((a b (j b u q g)).trans q) g
theorem nR {b:Value}{Q:Unit->X1->Prop}(a:A.frames=some (env::outer))(hf:env.frame=some L)(x:FlyD base (env::outer) e c d b s.heap)
  (h:∀h',FlyD base outer e c d .none h'->s.heap.UpToSlots h'->Q () { s with heap:=h' }):wpAny M A (leaving env (.ref e)) Q E s:=
 Y3 (dU a hf x λ f g i=>G4 (s:={ s with heap:=f }) g λ j k m=>h j k.pop (i.trans m))
end
section
variable {prog:Yg}{w:World}{A:XE}{R:Result->X1->Prop}{s:X1}
theorem oN {g a iter:Expr}{i:List Expr}{e:Scope}{pos:Pos}{it j:Value}{env:Env}(C:Nat->X1->Prop)
  (turn:∀n s,C n s->wpAny (model prog w) A (yV it) (λ r b=>match r with
   | none=>R (.ok .next) b
   | some v=>wpAny (model prog w) A (zc a it v) (λ _ f=>wpAny (model prog w) A (yL a env v) (λ _ k=>
     wpAny (model prog w) A (forIn i true λ c r=>if r=true then do let ok <- GH c env (eval c env);pure (UH ok) else pure (UH r)) (λ ok d=>
      if ok=true then wpAny (model prog w) A (eval g env) (λ x l=>
       wpAny (model prog w) A (call (.builtin "list.append") [j,x]) (λ _ o=>∃m,m < n/\C m o) (λ _ _=>False) l) (notedBy (model prog w) A env λ x s'=>R (.error x) s') d
      else ∃m,m < n/\C m d) (λ _ _=>False) k) (λ _ _=>False) f) (λ _ _=>False) b) (λ _ _=>False) s)
  (n:Nat) (h:C n s):
  zK (model prog w) A (.compLoop (.ListComp g [⟨a,iter,i,0⟩] e pos) 0 it j env) R s:=by
 refine codeAny_loop rfl C (λ n s D=>?_) n h
 show wpAny _ A ((compTurn (.ListComp g [⟨a,iter,i,0⟩] e pos) 0 it j env).onRaise (λ x=>do yo x env;theTreesLotGoes x)) _ _ s
 refine wpAny_noted ?_;rw [compTurn_list];refine Y3 (Qu (Y3 (XW (turn n s D) (λ r b p=>?_) λ _ _ q=>q.elim)))
 cases r with
 | none=>exact ZH p
 | some v=>
  refine Y3 (XW p (λ _ f u=>?_) λ _ _ q=>q.elim)
  refine Y3 (XW u (λ _ k y=>Y3 (XW y (λ ok d t=>?_) λ _ _ q=>q.elim)) λ _ _ q=>q.elim)
  cases ok with
  | false=>exact ZH ⟨rfl,t⟩
  | true=>
   exact Y3 (Y3 (XW t (λ x l z=>Y3 (XW z (λ _ o B=>ZH (ZH ⟨rfl,B⟩)) λ _ _ q=>q.elim)) λ _ _ q=>q))
end
def iB (X:Cx)(C:Addr)(x:Value)(s':X1):Prop:=∃m,s'.heap.Ns C m/\∀h',JT C s'.heap h'->∀a:Env,a.locals=C->wpAny (model X.prog X.w) X.A (passOn "comprehension.variables-let-go" x a:Sem Value) (λ _ _=>False) X.xe { s' with heap:=h' }
abbrev Om (X:Cx)(a:Scope)(cl:List (Str×Addr))(c:List Str)(C:Addr)(d:List Addr)(b:List (Addr×Obj))(e:X1)(f:Hp):Cx:=
 (BP X a cl c C d b e f).wish (notedBy (model X.prog X.w) X.A (zk a cl C X.env) (iB X C))
theorem qb {X:Cx}{tg a6 iter:Expr}{Z:List Expr}{a:Scope}{pos:Pos}{f1:TI}{k5:TG}{tt:TT}{f2:TE}{cl:List (Str×Addr)}(y:List Str)(P:List (Option Nat))(f3:X.calm=true)(h1:PI X tg iter f1)
  (h2:∀C k g K l,PG (BP X a cl y C k g K l) tg k5) (ht:∀C k g K l,Bo (BP X a cl y C k g K l) Z tt) (h3:∀C k g K l a0,Inv X g a0 l K->(∀b∈k,FpOk X g l b)->PE (Om X a cl y C k g K l) a6 f2)
  (a7:CapOk X a cl) (hcell:∀M∈a.names,M.2≠.cell) (R:a.kind=.function) (b3:∀M∈a.names,M.2=.local->a.names.lookup M.1=some .local) (h4:P.length=y.length)
  (d7:∀(i j:Nat),P[i]?=some (some j)->∃M:Str,y[i]?=some M/\X.N[j]?=some M/\(zV a X.env).names.lookup M=some .cell/\X.env.scope.names.lookup M=some .cell)
  (h5:∀x,UW iter X.env x=pure x) {g:List (Addr×Obj)} {s:X1} {a0:St} {H:Hp} {Q:VK} {use:Option (Value->Sem Unit)} {QQ:Value->X1->Prop}
  (f4:∀(C B:Addr) (k:List Addr) (K b2:X1) (l c2:Hp) (pl:List (Addr×Obj)) (D:St) (items:Array Value) (q:List V),Inv X g a0 l K->(∀b∈k,FpOk X g l b)->Inv (BP X a cl y C k g K l) pl D c2 b2->b2.heap.PlainList B items->c2 B=none->K.heap.get? B=none->B≠C->
   Vals q items.toList->q.length<=X2->(∀p,c2 p=none->Q (.ref p) (upd c2 p (.lst q)))->xy (model X.prog X.w) X.A X.xe use QQ (.ref B) C (.ok .next) b2)
  (k8:Inv X g a0 H s) (h:FJ f1 k5 tt f2 P a0 H Q):wpAny (model X.prog X.w) X.A (xG (.ListComp a6 [⟨tg,iter,Z,0⟩] a pos) a X.env (firstIterPos [⟨tg,iter,Z,0⟩] pos) (newList []) false (eval iter X.env) use) QQ X.xe s:=by
 refine yS (use:=use) rfl h5 a7.clos R b3 (thn (h1 g s a0 H _ k8 h) λ k9 a3 E=>thn E λ k6 f d8=>?_)
 obtain ⟨it,k,b4,l2,l,rfl,L,T,c9,b5,h6,⟨h7,h8⟩,turn⟩:=d8;have b6:∀b∈k,b < f.heap.objs.size:=λ b hb=>by obtain ⟨o,e,_⟩:=T.obj _ _ c9 b hb;exact ZI e
 refine UU (xM hcell (by intro M h9;simp at h9) (λ E I F=>?_) R)
 dsimp only at I F ⊢
 generalize b7:f.heap.push { cls:=.type "list",dict:=none,data:=.seq ([]:List Value).toArray }=a1 at I F ⊢;have d9:a1.objs.size=f.heap.objs.size+1:=by rw [<- b7,UC]
 have a8:f.heap.objs.size≠a1.objs.size:=by rw [d9];exact YO (zw _)
 have e0:f.heap.objs.size<=a1.objs.size:=by rw [d9];exact xa _
 have a9:∀b,b < f.heap.objs.size->b≠a1.objs.size:=λ b hb=>by rw [d9];exact YO (wP hb)
 have d0:∀b o,f.heap.get? b=some o->E.get? b=some o:=λ b o e=>F.extBut b o (a9 b (ZI e)) (X9 _ (b7▸X9 _ e))
 have e1:E.PlainList f.heap.objs.size #[]:=⟨_,F.extBut _ _ a8 (X9 _ (b7▸YL _ rfl))⟩;have S:f.heap.get? f.heap.objs.size=none:=zH (YE _);have f5:l f.heap.objs.size=none:=L.hok.fresh (YE _);generalize b0:f.heap.objs.size=B at *;generalize k7:a1.objs.size=C at *;have d1:∀b∈k,b≠B:=λ b hb=>YO (b6 b hb)
 have U:∀{t:Hp} {pl:List (Addr×Obj)},(∀p∈pl,p.1=B)->(∀b∈k,t b=none)->∀b∈k,FpOk (BP X a cl y C k g f l) pl t b:=λ {t pl} f6 hn b hb=>by
  obtain ⟨l0,i0,f7,l1,i1,i2⟩:=b5 b hb;refine ⟨hn b hb,a9 b (b6 b hb),JH L i0 f7,.inl hb,λ M c e=>i1 M c (a7.sub M c e),λ p G=>?_⟩
  rcases XA.mp G with G | G
  ·exact i2 p G
  ·rw [f6 p G];exact (d1 b hb).symm
 have f8:∀n s',(∃i D q,∃(items:Array Value),∃t,Inv (BP X a cl y C k g f l) [] D t s'/\b4 i s'.heap/\(∀b∈k,t b=none)/\s'.heap.PlainList B items/\Vals q items.toList/\t B=none/\h6 i n D q t)->
   wpAny (model X.prog X.w) X.A (yV (.ref it)) (λ r a3=>match r with
   | none=>xy (model X.prog X.w) X.A X.xe use QQ (.ref B) C (.ok .next) a3
   | some v=>wpAny (model X.prog X.w) X.A (zc tg (.ref it) v) (λ _ c3=>wpAny (model X.prog X.w) X.A (yL tg (zk a cl C X.env) v) (λ _ c4=>
     wpAny (model X.prog X.w) X.A (forIn Z true λ c r=>if r=true then do let ok <- GH c (zk a cl C X.env) (eval c (zk a cl C X.env));pure (UH ok) else pure (UH r)) (λ ok z=>
      if ok=true then wpAny (model X.prog X.w) X.A (eval a6 (zk a cl C X.env)) (λ x e2=>
       wpAny (model X.prog X.w) X.A (call (.builtin "list.append") [.ref B,x]) (λ _ a4=>∃m,m < n/\∃i D q,∃(items:Array Value),∃t,Inv (BP X a cl y C k g f l) [] D t a4/\b4 i a4.heap/\(∀b∈k,t b=none)/\a4.heap.PlainList B items/\Vals q items.toList/\t B=none/\h6 i m D q t) (λ _ _=>False) e2) (notedBy (model X.prog X.w) X.A (zk a cl C X.env) λ x s'=>xy (model X.prog X.w) X.A X.xe use QQ (.ref B) C (.error x) s') z
      else ∃m,m < n/\∃i D q,∃(items:Array Value),∃t,Inv (BP X a cl y C k g f l) [] D t z/\b4 i z.heap/\(∀b∈k,t b=none)/\z.heap.PlainList B items/\Vals q items.toList/\t B=none/\h6 i m D q t) (λ _ _=>False) c4) (λ _ _=>False) c3) (λ _ _=>False) a3) (λ _ _=>False) s':=by
  rintro n e3 ⟨i,O,q,items,b8,i3,d2,d3,f9,b1,g0,i4⟩
  obtain ⟨i5,i6⟩:=turn i n O q b8 i4;obtain ⟨a5,c5⟩:=id f9;have e4:B∉frs X.stack:=λ c6=>by
   obtain ⟨_,o,e,_⟩:=L.stack.mem c6;rw [S] at e;cases e
  have d4:Inv (BP X a cl y C k g f l) [(B,{ cls:=.type "list",data:=.seq items a5 })] O b8 e3:=i3.pins_of λ p G=>by
   have e:p=(B,{ cls:=.type "list",data:=.seq items a5 }):=by simpa using G
   subst e;exact ⟨c5,g0,a8,e4,λ v c6=>by cases c6⟩
  have one:∀p∈[(B,({ cls:=.type "list",data:=.seq items a5 }:Obj))],p.1=B:=λ p G=>by
   have e:p=(B,{ cls:=.type "list",data:=.seq items a5 }):=by simpa using G
   subst e;rfl
  rcases i6 with ⟨stop,i7⟩ | ⟨go,step⟩
  ·refine thn (T.done (BP X a cl y C k g f l) rfl rfl rfl f3 i _ e3 O b8 (λ _ _=>False) d4 (U one d3) d2 stop) λ r b2 ⟨e5,g1⟩=>?_
   subst e5;obtain ⟨i8,g2,_⟩:=g1.pin _ (ZB _ (Zu.mpr rfl));exact f4 C B k f b2 l b8 _ O items q L b5 g1 ⟨a5,i8⟩ g2 (b0▸S) a8 b1 i5 i7
  ·refine thn (T.item (BP X a cl y C k g f l) rfl rfl rfl f3 i _ e3 O b8 (λ _ _=>False) d4 (U one d3) d2 go) λ r b2 ⟨u,e5,i9⟩=>?_
   subst e5;refine thn i9 λ _ g3 ⟨x,g4,j0,j1,j2,b9,g5⟩=>?_
   have g6:=j0.pinned (U one g5) (T.obj _ _ b9);refine thn (h2 C k g f l _ g3 O g4 x u _ g6 j1 (step x g4 j2)) λ _ j3 ⟨J,j4,j5,j6⟩=>?_
   refine thn (ht C k g f l _ j3 J j4 _ j5 j6) λ b j7 ⟨g7,g8,c7⟩=>?_
   have c0:∀{a2:Hp} {W:X1},Inv (BP X a cl y C k g f l) ([(B,({ cls:=.type "list",data:=.seq items a5 }:Obj))]++pinsAt k g3.heap) J a2 W->
     Inv (BP X a cl y C k g f l) [] J a2 W/\b4 (i+1) W.heap/\(∀b∈k,a2 b=none)/\W.heap.PlainList B items/\a2 B=none:=λ {a2 W} Y=>by
    refine ⟨Y.pins_of (λ p G=>nomatch G),T.keep _ _ _ b9 λ b hb o e=>(Y.pin (b,o) (ZB _ (ZB _ (Ft hb e)))).1,λ b hb=>?_,?_,?_⟩
    ·obtain ⟨o,e,d⟩:=T.obj _ _ b9 b hb;exact (Y.pin (b,o) (ZB _ (ZB _ (Ft hb e)))).2.1
    ·exact ⟨a5,(Y.pin _ (ZB _ (UX _ (Zu.mpr rfl)))).1⟩
    ·exact (Y.pin _ (ZB _ (UX _ (Zu.mpr rfl)))).2.1
   cases b with
   | false=>
    rw [if_neg ZE] at c7;obtain ⟨e6,hm,j8⟩:=c7;obtain ⟨e7,e8,e9,f0,c8⟩:=c0 g8;rw [if_neg ZE];exact ⟨e6,hm,i+1,J,q,items,g7,e7,e8,e9,f0,b1,c8,j8⟩
   | true=>
    rw [if_pos rfl] at c7;rw [if_pos rfl];refine XW (h3 C k g f l a0 L b5 _ j7 J g7 _ (g8.wish _) c7) (λ v W ⟨M,a2,Y,j9,e6,hm,k0⟩=>?_) (λ x W c6=>by cases use<;>exact c6)
    have Y:=Y.unwish;obtain ⟨e7,e8,e9,f0,c8⟩:=c0 Y;have g9:items.size<=X2:=by
     have e:q.length=items.size:=by simpa using b1.length
     omega
    refine xj (hsz:=g9) f0 λ k1 h0 d5=>?_
    have k2:∀M c,cl.lookup M=some c->c≠B:=λ M c e c6=>by
     obtain ⟨v,o,c5,_⟩:=L.cell M c (a7.sub M c e);rw [c6,S] at c5;cases c5
    have np:∀p∈(X.pn++g)++[],p.1≠B:=λ p G c6=>by
     rw [UB] at G;have e:=(L.pin p G).1;rw [c6,S] at e;cases e
    have k3:Inv (BP X a cl y C k g f l) [] J a2 { W with heap:=k1 }:=e7.turned (it:=B) (t':=W.toks) (λ b o hb e=>d5.extBut b o hb e) c8 a8 (.inr (wb b0)) k2 np
    refine ⟨e6,hm,i+1,J,q++[M],items.push v,a2,k3,T.keep _ _ _ e8 λ b hb o e=>d5.extBut b o (d1 b hb) e,e9,h0,?_,c8,k0⟩
    rw [wQ];exact b1.append (.cons j9 .nil)
 have k4:Inv (BP X a cl y C k g f l) [] (Fg P a0) l { f with heap:=E,toks:=f.toks+([]:List (Str×Value)).length }:=
  Px L b5 (λ b hb=>b0▸b6 b hb) R a7 (by rw [b0];exact e0) rfl L.bare d0 I h4 d7 (ht:=L.tk)
 have d6:b4 0 E:=T.keep _ _ _ c9 λ b _ o e=>d0 b o e
 have c1:∀z:X1,z={ f with heap:=E,toks:=f.toks+([]:List (Str×Value)).length }->
   zK (model X.prog X.w) X.A (.compLoop (.ListComp a6 [⟨tg,iter,Z,0⟩] a pos) 0 (.ref it) (.ref B) (zk a cl C X.env)) (xy (model X.prog X.w) X.A X.xe use QQ (.ref B) C) z:=by
  rintro z rfl
  exact oN _ f8 h7 ⟨0,_,[],#[],l,k4,d6,λ b hb=>(b5 b hb).1,e1,.nil,f5,h8⟩
 exact xz (c1 _ rfl) (T.self X.A 0 _ _ _ d6 (c1 _ rfl))
theorem lN {X:Cx}{tg t iter:Expr}{u:List Expr}{a:Scope}{pos z B:Pos}{T:TI}{c8:TG}{tt:TT}{U:TE}{cl:List (Str×Addr)}{f:Str}{i:Nat}(V:X.N.Nodup)(W:X.N[i]?=some f)(a7:Loc X.env.scope f)(w:List Str)(g:List (Option Nat))(a8:X.calm=true)(a9:PI X tg iter T)
  (b0:∀C q d l n,PG (BP X a cl w C q d l n) tg c8) (ht:∀C q d l n,Bo (BP X a cl w C q d l n) u tt) (b1:∀C q d l n D,Inv X d D n l->(∀b∈q,FpOk X d n b)->PE (Om X a cl w C q d l n) t U)
  (Y:CapOk X a cl) (hcell:∀f∈a.names,f.2≠.cell) (G:a.kind=.function) (E:∀f∈a.names,f.2=.local->a.names.lookup f.1=some .local) (b2:g.length=w.length)
  (P:∀(i j:Nat),g[i]?=some (some j)->∃f:Str,w[i]?=some f/\X.N[j]?=some f/\(zV a X.env).names.lookup f=some .cell/\X.env.scope.names.lookup f=some .cell)
  (b3:∀x,UW iter X.env x=pure x:=by intro _;rfl) (Z:xf (.ListComp t [⟨tg,iter,u,0⟩] a pos) (some (.Name f B)) z.line X.env=pure true:=by rfl)
  (a0:X.fn f=true\/X.env.scope.names.lookup f=some .local:=by first | exact .inl rfl | exact .inr rfl | assumption):
  PS X (.Assign [.Name f B] (.ListComp t [⟨tg,iter,u,0⟩] a pos) z) (Sx i (FJ T c8 tt U g)):=by
 intro d s D H d1 d2 h;rw [exec_Assign_Name_used _ _ _ _ Z];refine Y3 (Qu (Y3 ?_));show wpAny _ X.A (do let _ <- xG (.ListComp t [⟨tg,iter,u,0⟩] a pos) a X.env _ (newList []) false (eval iter X.env) (some (yL (.Name f B) X.env))) _ _ s
 refine Y3 (XW (qb (use:=some (yL (.Name f B) X.env)) (QQ:=λ _ s'=>SP X d d1 .next s') w g a8 a9 b0 ht b1 Y hcell G E b2 P b3
  (λ C k q l Q n I pl c9 items J y b4 K a1 a2 R M b5 b6 b7=>?_) d2 h) (λ _ s' b8=>ZH (ZH b8)) λ _ _ e=>e)
 have F:l.heap.objs.size<=C:=K.ok.above;obtain ⟨m,hn,_⟩:=K.loc;obtain ⟨L,b9,c0,a3,O,hrest⟩:=id hn;have d0:Inv X d D (upd I k (.lst J)) Q:=Ly y b4 K a1 a2 R M b5 b6 (wR ..);have a4:upd I k (.lst J) C=none:=by rw [Ax (WU M)];exact K.free
 have c1:C≠X.env.locals:=WB (W1 y.lt F);have c2:C∉X.fs:=y.nofs F;have c3:Inv X (d++[(C,L)]) D (upd I k (.lst J)) Q:=d0.pins_of λ p r=>by
  rcases XA.mp r with r | r
  ·exact d0.pin p (ZB _ r)
  ·have e:p=(C,L):=by simpa using r
   subst e;exact ⟨a3,a4,c1,c2,λ v S=>by rw [O] at S;cases S⟩
 show wpAny _ X.A (yL (.Name f B) X.env (.ref k)) _ _ Q;refine wU (Fo c3 V W a7 (show RelV (.ref k) (YI k) from rfl) (λ a5 a6=>?_) a0)
 obtain ⟨c4,_⟩:=a6.pin (C,L) (ZB _ (ZB _ (Zu.mpr rfl)));refine ⟨m,⟨L,b9,c0,c4,O,hrest⟩,λ h' c5=>?_⟩
 have c6:Inv X d (D.set i (some (.ref k))) (upd I k (.lst J)) a5:=a6.unpinned;refine ⟨_,_,c6.turned (it:=C) (t':=a5.toks) (λ b o hb e=>c5.extBut b o hb e) a4 c1 (.inr (U2 y.sz F)) (λ x c e S=>?_) (λ p r S=>?_),b7 k a2⟩
 ·obtain ⟨v,o,c7,_⟩:=y.cell x c e;exact absurd (ZI c7) (by rw [S];exact wC.mpr F)
 ·have e:=(y.pin p r).1;exact absurd (ZI e) (by rw [S];exact wC.mpr F)
theorem Xj {h h' base a:Heap}:∀{l:List Env},h.FunFrames base l->(∀b∈l.filterMap (·.frame),∀o,h.get? b=some o->h'.get? b=some o)->(∀b,base.get? b=none->a.get? b=none)->h'.FunFrames a l
 | [],_,_,_=>trivial
 | env::l,x,k,n=>by
  obtain ⟨d,⟨c,o,hf,hn,f,hd⟩,g⟩:=x;have e:(env::l).filterMap (·.frame)=c::l.filterMap (·.frame):=by rw [QY,hf]
  rw [e] at k;exact ⟨d,⟨c,o,hf,n c hn,k c (ZU ..) o f,hd⟩,Xj g (λ b hb=>k b (Ya _ hb)) n⟩
def putAt (h:Heap)(C:Addr)(o:Obj):Heap:=⟨Array.ofFn (n:=max h.objs.size (C+1)) λ i=>if i.val=C then o else (h.objs[i.val]?).getD { cls:=.none,data:=.freed },h.life⟩
theorem jJ {h:Heap}{C:Addr}{o:Obj}(n:o.isFreed=false):(putAt h C o).get? C=some o:=by
 have e:(putAt h C o).objs[C]?=some o:=by
  unfold putAt;simp only [GW];rw [dif_pos (W1 (zw C) (Nat.le_max_right _ _))];simp
 unfold Heap.get?;rw [e];obtain ⟨c,d,a,b⟩:=o;cases a<;>first | rfl | cases n
theorem vA {h:Heap}{C b:Addr}{o:Obj}(n:b≠C):(putAt h C o).get? b=h.get? b:=by
 have e:(putAt h C o).objs[b]?=if b < max h.objs.size (C+1) then some ((h.objs[b]?).getD { cls:=.none,data:=.freed }) else none:=by
  unfold putAt;simp only [GW]
  split<;>simp [n]
 unfold Heap.get?;rw [e];by_cases a:b < h.objs.size
 ·rw [if_pos (W1 a (Nat.le_max_left _ _)),Array.getElem?_eq_getElem a];rfl
 ·rw [Array.getElem?_eq_none (wC.mp a)];by_cases c:b < max h.objs.size (C+1)
  ·rw [if_pos c];rfl
  ·rw [if_neg c]
theorem Lf {a:Heap}{l:List Addr}{b:Addr}(h:a.get? b=none):(UF a l).get? b=none:=by
 cases e:(UF a l).get? b with
 | none=>rfl
 | some o=>rw [JG _ e] at h;cases h
theorem jr {X:Cx}{E:XK}{r:Scope}{cl:List (Str×Addr)}{a7:List Str}{C:Addr}{x:List Addr}{i:List (Addr×Obj)}{t:X1}{y:Hp}{a8:St}(Bd:BodyCx X E)(I:Inv X i a8 y t)(a9:∀b∈x,FpOk X i y b):
  Passes (Cz X.prog X.w) (Om X r cl a7 C x i t y) E:=by
 intro pl b0 H s e s' N h ht;have N:Inv (BP X r cl a7 C x i t y) pl b0 H s:=N.unwish;obtain ⟨a,V,d,p,c6,rfl,os,bare,O,b1,c7,f5,q⟩:=h;have P:X.A.frames=some (X.env::X.outer):=by rw [<- Bd.stk];exact I.ok.frames
 have Y:FlyD c6 (X.env::X.outer) a (.ref V) d .none s'.heap:=by rw [<- Bd.stk];exact b1
 show wpAny (model X.prog X.w) X.A (yo (.ref a) X.env) _ _ s';refine KH P Bd.fr Y λ J z Q=>?_
 obtain ⟨b2,f6⟩:=O J z.1 Q;have b3:H C=none:=N.free;obtain ⟨m,hn,_⟩:=N.loc;obtain ⟨j,c8,c9,R,B,hrest⟩:=id hn;have above:t.heap.objs.size<=C:=N.ok.above;have b4:C∉frs X.stack:=λ g=>by
  obtain ⟨_,o,e,_⟩:=I.stack.mem g;exact absurd (ZI e) (wC.mpr above)
 have K:J.get? C=some j:=b2.keep C j R b3 b4 λ g=>nomatch g
 have S:p C=none:=b2.free C j R b3 λ g=>nomatch g
 refine ⟨m,⟨j,c8,c9,K,B,hrest⟩,λ Z d0 d1 _=>?_⟩
 have k:∀b o,b≠C->J.get? b=some o->Z.get? b=some o:=λ b o n e=>d0.extBut b o n e
 obtain ⟨st,ne,fr,o,d2,vs,d3,T,L,a0,b5,hd,b6,d4,d5,b7,dT,d6,d7,c1,d8⟩:=id z;have M:∀b u us,J.get? b=some u->u.data=.fields us->b≠C:=λ b u us e dd g=>by
  rw [g,K] at e;cases e
  rw [B] at dd;cases dd
 obtain ⟨f7,d9,e0⟩:=d8.mem;have a1:FlyD (UF c6 [C]) (X.env::X.outer) a (.ref V) d (zC X.env.locals) Z:=by
  refine ⟨λ b u q=>k b u (λ g=>?_) (st b u (JG _ q)),Lf ne,Xj fr (λ b hb o e=>k b o (λ g=>b4 (by rw [Bd.stk,<- g];exact hb)) e) (λ b=>Lf),o,d2,vs,d3,T,k _ _ (M _ _ _ L hd) L,a0,b5,hd,b6,Lf d4,d5,k _ _ (M _ _ _ b7 dT) b7,dT,d6,d7,c1,?_⟩
  ·rw [g,xI _ (Zu.mpr rfl)] at q;cases q
  ·exact (e0 _ λ b hb=>Lf (d9 b hb).1).mono λ b u us e dd=>⟨u,us,k b u (M b u us e dd) e,dd,rfl⟩
 unfold PySem.passOn;refine Y3 (XZ (k _ _ (M _ _ _ L hd) L) hd b6 ?_);rw [if_neg (by simp)]
 refine Y3 (vL (s:={ s' with heap:=Z }) a1 λ f3 e1 a2 b8=>wpAny_throw ?_)
 rw [Bd.xe];refine nR (s:={ s' with heap:=e1 }) P Bd.fr a2 λ e2 l b9=>?_
 have a3:=b8.trans b9;have D:∀f:Heap,(UF c6 [C]).StaysIn f->e2.UpToSlots f->Un (frs X.outer) [] X.H₀ p X.s₀.heap f/\HOk X.prog X.w p f:=by
  intro f a4 a5;have c0:(putAt f C j).get? C=some j:=jJ (by
   cases e:j.isFreed with
   | false=>rfl
   | true=>
    obtain ⟨_,_,e3,_⟩:=j;cases (show e3=_ from B)
    cases e)
  have go:∀b,b≠C->(putAt f C j).get? b=f.get? b:=λ b n=>vA n
  obtain ⟨e4,e5⟩:=O (putAt f C j) (λ b u q=>by
   by_cases hb:b=C
   ·subst hb;rw [c0,<- K];exact st _ _ q
   ·rw [go b hb];exact a4 b u (yI _ q (by simpa using hb))) (λ b u q c2=>by
   obtain ⟨e6,g⟩:=Q b u q c2;by_cases hb:b=C
   ·subst hb;exact ⟨e6,by rw [c0,<- K];exact g⟩
   ·obtain ⟨c3,e7⟩:=(a3.trans a5) b _ (k b _ hb g) c2;exact ⟨c3,by rw [go b hb];exact e7⟩)
  have e8:HOk X.prog X.w p f:=λ b o e=>(e5 b o e).stay (λ c v a0 g=>by
   rw [<- go c (λ a6=>by
    subst a6;rcases a0 with a6 | a6
    ·rw [<- a6,S] at e;cases e
    ·rw [S] at a6;cases a6)]
   exact g) (λ _ g=>g) λ _ _ g=>g
  have F:∀b o,t.heap.get? b=some o->b≠C:=λ b o e=>YO (W1 (ZI e) above)
  have U:Un (frs X.stack) x y p t.heap (putAt f C j):=Un.trans N.base (e4.mono (λ _ g=>g) λ _ g=>nomatch g)
  have f8:Inv X i a8 p { s' with heap:=f }:=I.call' (s':={ s' with heap:=f }) (ch:=x) (ht:=ht) (os.trans N.os)
   ⟨λ b o e n hb G=>(go b (F b o e)).symm.trans (U.keep b o e n hb G),λ b o e n hb G=>(U.slot b o e n hb G).imp λ _ g=>(go b (F b o e)).symm.trans g,U.free,λ b o e G=>(U.there b o e G).imp λ _ g=>(go b (F b o e)).symm.trans g,U.tups,U.frzs,U.tbls⟩ e8 bare λ b hb=>by
    obtain ⟨f9,e9,a9,f0,f1,f2⟩:=a9 b hb;exact ⟨f0,e9,f1,f2⟩
  exact Sq Bd f8 (λ _ _ g=>g) (λ b u g _=>⟨u.slots,g⟩) f (λ b o g=>JG _ g) (λ b u g _=>⟨u.slots,g⟩)
 obtain ⟨ob,c4,_,_,f4,c5⟩:=l.there;exact ⟨a,V,d,p,UF c6 [C],rfl,(os.trans N.os).trans I.os,bare,D,l,c7,(Xf D l.1 (λ b u q _=>⟨u.slots,q⟩) l.2.1 c4 c5).2,q⟩
end L2
namespace Lib
open PySem L2 Fr Op Tx
end Lib
namespace L2
open PySem PySem.Spec PyProof.Rows
end L2
namespace Lib
open PySem L2 Fr Op Tx
end Lib
namespace L2
open PySem PySem.Spec PyProof.Rows
section
variable {prog:Yg}{w:World}{A:XE}{E:Value->X1->Prop}{s:X1}{env:Env}
variable {nm q:Str}{C N:Addr}{bs bm bmB:List Value}{hdct:Bool}{sn:List Str}{sub:List Value}{ab:Bool}{col:Option Bool}{dd:Option Addr}{k0 k1 k2 k3 k5:Option Value}{newId:String}
abbrev Gq (h:Heap)(e a:Addr):Heap:=((h.update e (Xd (·.setIfInBounds 3 .none))).update e (Xd (·.setIfInBounds 4 (.bool true)))).update e (Xd (·.setIfInBounds 2 (.ref a)))
theorem kI {a:Addr}{x c:Sem Value}{Q:Flow->X1->Prop}(i:bm.contains (.type "BaseException")=true)(L:A.handled=some (.ref a))
  (M:∀f,wpAny (model prog w) A c (λ r g=>r=.none/\g=f) E f)
  (h:wpAny (model prog w) A x (λ v f=>∃e t,v=.ref e/\f.heap.get? C=some (excClassObj nm q C N bs bm hdct sn sub ab col dd k0 k1 k2 k3 k5 newId)/\
   f.heap.get? e=some { cls:=.ref C,data:=.fields #[.ref t,.none,.none,.none,.bool false,.none] }/\(∃g' u:Heap,Chn g' u (.ref a)/\u.get? e=none/\∀b o,u.get? b=some o->f.heap.get? b=some o)/\E (.ref e) { f with heap:=Gq f.heap e a }) E s):
  wpAny (model prog w) A (raiseStmt env (some x) (some c)) Q E s:=by
 have y:(YI C::bm).contains (.type "BaseException")=true:=by rw [List.contains_cons,i,Bool.or_true]
 unfold raiseStmt;refine Y3 (XW h (λ v f l=>?_) λ _ _ x=>x)
 obtain ⟨e,t,rfl,j,m,⟨_,O,k,n,P⟩,R⟩:=l;obtain ⟨z,u,d,tk,os⟩:=f;have B:a≠e:=λ D=>by
  cases k with
  | ref _ F _ _ _=>rw [D,n] at F;cases F
 have T:C≠e:=λ D=>by
  rw [D] at j;have:=m.symm.trans j;cases this
 refine Y3 (WO (XW (M _) (λ r g p=>?_) λ _ _ x=>x))
 obtain ⟨rfl,rfl⟩:=p;refine Y3 (ZH ?_)
 repeat (first | with_reducible refine wpAny_loadPart_at m ?_ | with_reducible refine wpAny_loadPart_at j ?_ | (with_reducible refine wpAny_isSubtype_exc j ?_;rw [y]) | wp_step)
 unfold raiseNew;refine Y3 (wpAny_handled ?_);rw [L];show wpAny _ _ (do
  if (YI a != YI e)=true then
   let _ <- wh [YI e] (runValue (.builtin "proto.unchain" ⟨[.ref e,.ref a,.ref a,.bool false],[]⟩))
   updateField e 2 (.ref a)
  throw (.ref e)) _ _ _
 have S:(YI a != YI e)=true:=by simpa using B
 rw [if_pos S];have G:∀b o,O.get? b=some o->((z.update e (Xd λ x=>x.setIfInBounds 3 WR)).update e (Xd λ x=>x.setIfInBounds 4 (yT true))).get? b=some o:=λ b o hb=>by
  have H:b≠e:=λ D=>by rw [D,n] at hb;cases hb
  rw [XG _ _ (WU H),XG _ _ (WU H)];exact P b o hb
 refine Y3 (WO (wpAny_runValue (X5 k rfl G n .refl ?_)));have I:=XB (Xd λ x=>x.setIfInBounds 3 WR) m rfl
 have J:=XB (Xd λ x=>x.setIfInBounds 4 (yT true)) I rfl
 have K:wpAny (model prog w) A (setField (.ref e) 2 (.ref a)) (λ _ s'=>wpAny (model prog w) A (throw (YI e)) Q E s') E { heap:=(z.update e (Xd λ x=>x.setIfInBounds 3 WR)).update e (Xd λ x=>x.setIfInBounds 4 (yT true)),gens:=u,drawn:=d,toks:=tk,os:=os }:=
  QU J rfl (by simp) (wpAny_throw R)
 exact Y3 K
theorem ph {P:String}{g:String}(G:ExcBaseFacts P newId g bmB){a:Addr}{n:Str->Option Value}{O:Str}{o i p r:Pos}{x:Nat}{j:List Expr}{Q:Flow->X1->Prop}
  (hb:bm.contains (.type "BaseException")=true) (H:A.handled=some (.ref a)) (y:(QK i (YM j env)).any (·.1)=false) (z:n "__init__"=none)
  (h:wpAny (model prog w) A (eval (.Name O o) env) (λ f B=>f=.ref C/\wpAny (model prog w) A (evalArgs (.ref C) true (QK i (YM j env)) [])
   (λ b c=>b.kw=[]/\b.pos.length<=X2/\c.heap.get? C=some (excClassObj nm q C N bs bm hdct sn sub ab col dd k0 k1 k2 k3 k5 newId)/\c.heap.Ns N n/\OwnTail c.heap bmB bm/\(∃g',Chn g' c.heap (.ref a))/\
    ∀h' e,Heap.MadeExcOf c.heap h' e (.ref C) b.pos->E (.ref e) { c with heap:=Gq h' e a }) E B) E s):
  wpAny (model prog w) A (exec (.Raise (some (.Call (.Name O o) j [] i)) (some (.Constant .none x r)) p) env) Q E s:=by
 rw [arm_exec_Raise];simp only [evalOpt,Option.map];have I:∀u,wpAny (model prog w) A (do let v <- eval (.Constant .none x r) env;GP p;pure v) (λ J c=>J=.none/\c=u) E u:=λ u=>
  Y3 (Constant_none (Y3 (Qu (ZH ⟨rfl,rfl⟩))))
 refine Y3 (Qu (kI (k5:=k5) (k3:=k3) (k2:=k2) (k1:=k1) (k0:=k0) (dd:=dd) (col:=col) (ab:=ab) (sub:=sub) (sn:=sn) (hdct:=hdct) (bs:=bs) (N:=N) (q:=q) (nm:=nm) (newId:=newId) (C:=C) (a:=a) hb H I (Y3 (XW (wpAny_Call_ofName (XW h (λ f B k=>?_) λ _ _ D=>D)) (λ v R K=>Y3 (Qu (ZH K))) λ _ _ D=>D))))
 obtain ⟨rfl,k⟩:=k;unfold GN;refine Y3 (WO (XW k (λ b c l=>Y3 (Qu ?_)) λ _ _ D=>D))
 obtain ⟨S,bk⟩:=b;obtain ⟨L,hl,m,hn,T,⟨g',F⟩,l⟩:=l;obtain rfl:bk=[]:=L;obtain ⟨M,U,d,tk,os⟩:=c;simp only [y];refine Y3 (wpAny_keeperOf_exc m ?_);refine Y3 (wpAny_call_exc_subT (hrest:=hl) G T m hn z λ h' e hm=>Y3 (WO (wpAny_point (ZH ?_))))
 obtain ⟨t,ht,_,_⟩:=hm.there;exact ⟨e,t,rfl,hm.keeps _ _ m,ht,⟨g',M,F,hm.new,hm.keeps⟩,l h' e hm⟩
end
section
variable {X:Cx}{pins:List (Addr×Obj)}{σ:St}{H H2:Hp}{s s':X1}{a C Bc D0:Addr}{t:Option Addr}{B:Heap}{D:Ends}{xc y:Str}{np hp p1 p2 p3 p4:Pos}{kk jj:Nat}{z₀:Str}{p5:Pos}{rest:List ui}
theorem uA {E:XK}(Bd:BodyCx X E)(V:Inv X pins σ H s)(os:s'.os=s.os)(bare:yG s'.gens)
  (i:∀c:Heap,B.StaysIn c->s'.heap.UpToSlots c->Un (frs X.stack) [] H H2 s.heap c/\HOk X.prog X.w H2 c) (j:FlyD B X.stack a (.ref C) t .none s'.heap)
  (b4:Gl X xc) (Y:X.mg xc=some (.ref Bc)) (hm:QP X.K (.ref C) (.ref Bc)=some true) (c9:ExcCls X.K X.mg y D0) (Z:Gl X y)
  (q:E (.ref D0) none H2) (a0:(xc == ("__debug__":Str))=false:=by decide) (a1:(y == ("__debug__":Str))=false:=by decide) (ht:1<=s'.toks:=by first | assumption | exact Inv.tk (by assumption) | exact YU _ _ | omega):
  wpAny (model X.prog X.w) X.A (yo (.ref a) X.env) (λ _ Q=>wpAny (model X.prog X.w) X.A (jp (.ref a) none) (λ _ R=>
   wpAny (model X.prog X.w) X.A (handleBy (.ref a) X.env (.ExceptHandler (some (.Name xc np)) none [.Raise (some (.Call (.Name y p1) [.Constant (.str z₀) jj p5] [] p2)) (some (.Constant .none kk p4)) p3] hp::rest)) (SP X pins D) X.xe R) X.xe Q) X.xe s':=by
 have l:=Bd.stk;have hf:=Bd.fr;have O:X.A.frames=some (X.env::X.outer):=by rw [<- l];exact V.ok.frames
 have S:FlyD B (X.env::X.outer) a (.ref C) t .none s'.heap:=by rw [<- l];exact j
 refine KH O hf S λ b5 G n=>?_
 refine G4 (s:={ s' with heap:=b5 }) G λ I g p=>?_
 have a2:Inv X pins σ H2 { s' with heap:=I }:=Gh V os bare (i I g.1 (n.trans p))
 obtain ⟨ob,a3,U,_⟩:=g.there;have LT:yj (model X.prog X.w) I (typeOf (.ref a)) (.ref C):=U▸(ul a3).andThen .now;refine wpAny_handleBy_cons (codeAny_handlers_test (EY (X:=X.hnd a) (a2.hnd a) b4 Y ?_ a0)) (by intro q;cases q)
 refine PySem.W.exm_one (K:=X.K) a2.kIn LT hm _ _ _ _ (λ _ _ e=>e) ?_
 refine codeAny_handlers_suite ?_;refine G4 (s:={ s' with heap:=I }) g λ d f P=>?_
 have h:Inv X pins σ H2 { s' with heap:=d }:=Gh V os bare (i d f.1 ((n.trans p).trans P))
 have r:Chn B d (.ref a):=by
  obtain ⟨_,v,_,o,d0,vs,d1,T,b6,_,_,hd,_,_,_,_,_,_,d2,c1,b7⟩:=f;exact .ref v b6 hd c1 b7
 obtain ⟨z,a4,a5⟩:=r.mem;have a6:PassesOwnAt (model X.prog X.w) (X.A.mark (some (.ref a))) X.A X.env X.xe:=by rw [Bd.xe];exact PassesOwnAt.leaving
 refine wpAny_passesOwnAt a6 (zZ ?_);obtain ⟨b8,N,nm,b9,bs,hdct,sn,sub,ab,col,dd,k0,k1,k2,k3,k5,d3,c0,c2,a7,a8⟩:=Uc V.ok.mod.kin c9.ob;have J:b8.contains (.type "BaseException")=true:=a8.hasType (X:="BaseException") (by decide+kernel)
 have a9:(QK p2 (YM [.Constant (.str z₀) jj p5] X.env)).any (·.1)=false:=rfl
 refine ph (nm:=nm) (q:=b9) (N:=N) (bs:=bs) (hdct:=hdct) (sn:=sn) (sub:=sub) (ab:=ab) (col:=col) (dd:=dd) (k0:=k0) (k1:=k1) (k2:=k2) (k3:=k3) (k5:=k5) F.excBase_ValueError J rfl a9 a7 (EY (X:=X.hnd a) (h.hnd a) Z c9.mg ⟨rfl,?_⟩ a1);refine yy (wo (wm (k:=jj) (pos:=p5) (wM ⟨rfl,by show 1<=X2;decide,h.bk _ _ c0,c2.keeps h.bk,a8.keeps h.bk,⟨_,r⟩,λ h' e hm=>?_⟩)))
 have L:Inv X pins σ H2 { s' with heap:=d,toks:=s'.toks+1 }:=h.tok _
 rw [Bd.xe];have b0:∀env∈X.stack,∀b,env.frame=some b->b∈z++frs X.stack:=λ env c3 b hb=>ZB _ (yd.mpr ⟨env,c3,hb⟩)
 have c4:d.FunFrames (UF d (z++frs X.stack)) (X.env::X.outer):=by
  have M:=qc h.stack b0;rw [<- Bd.stk];exact M
 obtain ⟨d4,b1,_,_⟩:=hm.there;have b2:(UF d (z++frs X.stack)).get? e=none:=by
  cases c5:(UF d (z++frs X.stack)).get? e with
  | none=>rfl
  | some o=>have M:=JG _ c5;rw [hm.new] at M;cases M
 have kp:∀b o,d.get? b=some o->(Gq h' e a).get? b=some o:=λ b o hb=>by
  have v:e≠b:=λ M=>by rw [<- M,hm.new] at hb;cases hb
  unfold Gq;rw [XG _ _ v,XG _ _ v,XG _ _ v];exact hm.keeps b o hb
 have e1:=XB (Xd λ x=>x.setIfInBounds 3 WR) b1 rfl
 have e2:=XB (Xd λ x=>x.setIfInBounds 4 (yT true)) e1 rfl
 have c6:=XB (Xd λ x=>x.setIfInBounds 2 (YI a)) e2 rfl
 have c7:Chn (UF d (z++frs X.stack)) (Gq h' e a) (.ref a):=(a5 _ λ b m=>xI _ (UX _ m)).mono λ b o vs hb hd=>⟨o,vs,kp b o hb,hd,rfl⟩
 refine YC (s:={ s' with heap:=Gq h' e a,toks:=s'.toks+1 }) O Bd.fr (λ b o q=>kp b o (JG _ q)) b2 (c4.of_keeps λ b o q _=>⟨o,kp b o q,rfl⟩) c6 rfl rfl ⟨_,rfl,c7⟩ λ d5 j c8=>?_
 refine ⟨e,D0,none,H2,_,rfl,L.os,L.bare,λ c st b3=>?_,j,L.hok.none_of hm.new,TJ L (λ b M=>by rw [Bd.ex] at M;cases M) hm.new,q⟩
 have d6:Inv X pins σ H2 { s' with heap:=c }:=Gh V os bare (i c (λ b o q=>st b o (yI _ (f.1 b o q) λ m=>by
   rcases XA.mp m with m | m
   ·rw [(a4 b m).1] at q;cases q
   ·rw [l] at m;rw [(f.2.2.1.mem m).1] at q;cases q))
  (((((n.trans p).trans P).trans λ b u q _=>⟨u.slots,kp b u q⟩).trans c8).trans b3))
 exact Sq Bd d6 (λ _ _ q=>q) (λ b u q _=>⟨u.slots,q⟩) c (λ b o q=>JG _ q) (λ b u q _=>⟨u.slots,q⟩)
end
section
variable {X:Cx}{c:Bool}{k:Nat}{ps:List Str}{sp:Sp}{x xc y:Str}{p pos cpos rpos np hp p1 p2 p3 p4 p5:Pos}{e:Expr}{es:List Expr}{t:TA}{Bc D0:Addr}{kk jj:Nat}{z₀:Str}
theorem fK {E:XK}(Bd:BodyCx X E)(C:CalB X.prog X.w X.K X.mg X.base c k x ps sp)(J:RoomB c k X.A)(ha:PA X.nox (e::es) t)(l:X.mg xc=some (.ref Bc))(Y:ExcCls X.K X.mg y D0)(L:Gl X x:=by rfl)(m:Gl X xc:=by rfl)(n:Gl X y:=by rfl)
  (o:(x == ("__debug__":Str))=false:=by decide) (u:(xc == ("__debug__":Str))=false:=by decide) (z:(y == ("__debug__":Str))=false:=by decide)
  (M:YM (e::es) X.env=(false,eval e X.env)::YM es X.env:=by rfl) (B:(QK cpos (YM es X.env)).any (·.1)=false:=by rfl):
  PS X (.Try [.Return (some (.Call (.Name x p) (e::es) [] cpos)) rpos] [.ExceptHandler (some (.Name xc np)) none [.Raise (some (.Call (.Name y p1) [.Constant (.str z₀) jj p5] [] p2)) (some (.Constant .none kk p4)) p3] hp] [] [] pos)
   (λ V b H=>t b H λ vs D=>sp (vs++[]) D V.rt λ c _ d=>∃g,c=.ref g/\QP X.K (.ref g) (.ref Bc)=some true/\E (.ref D0) none d):=by
 obtain ⟨f,fd,Z,hm,N,hb⟩:=C.ex;intro O s b H V P h;refine js (zZ (wT (JO (EY P L hm ?_ o))));refine JJ (h₀:=X.base) P.ok.mod.kin N (thn (PA.any ha cpos P h) λ us a0 ⟨vs,D,i,r,q⟩=>⟨i.kIn,?_⟩) M B
 refine thn (HY Z J hb i r q λ e s' Q ht=>?_) λ v a1 ⟨R,d,S,T,j⟩=>⟨R,b,d,S,T,j⟩
 obtain ⟨a,C,t,a2,a5,rfl,os,bare,F,G,a3,a4,g,U,I,j⟩:=Q;cases U
 exact uA Bd i os bare F G m l I Y n j u z
end
section
variable {X:Cx}{k:Nat}{m:Str}{pos apos:Pos}{e o:Expr}{es:List Expr}{ta:TE}{t:TA}{E:XK}
def fL (P:Yg)(w:World)(K:FrG)(mg:Str->Option Value)(base:Heap)(k:Nat)(m:Str)(E:XK)(ta:TE)(t:TA):TE:=λ b H Q=>ta b H λ x c=>∃a C dx fs ps sp,x=.ref a/\c a=some (.ins C dx fs)/\fs.lookup m=none/\
 MC P w K mg base k C m ps sp/\t b c λ vs d=>sp (x::vs) d Q E
theorem Dg {pl:Sem Bool}(p:Passes (Cz X.prog X.w) X E)(v:PE X o ta)(y:RoomB true k X.A)(ha:PA X (e::es) t)
  (c:YM (e::es) X.env=(false,eval e X.env)::YM es X.env:=by rfl) (d:(QK pos (YM es X.env)).any (·.1)=false:=by rfl)
  (ht:eval (.Call (.Attribute o m apos) (e::es) [] pos) X.env=(do
   let g <- eval o X.env
   GP apos.atName
   let (f,first) <- wh [g] (jo g m pl)
   GN pos f first (QK pos (YM (e::es) X.env)) (wG pos (yD [] X.env))):=by rfl):
  PE X (.Call (.Attribute o m apos) (e::es) [] pos) (fL X.prog X.w X.K X.mg X.base k m E ta t):=by
 intro b s i H Q I h;refine yp (pl:=pl) (thn (v b s i H _ I h) λ u z ⟨x,B,j,D,a,C,dx,fs,ps,sp,ex,F,l,M,q⟩=>?_) ht
 subst ex;obtain rfl:u=YI a:=D;obtain ⟨f,fd,J,hm,hb⟩:=M.ex;refine Jd j F M.cl hm l ?_;refine JJ (first:=[.ref a]) (h₀:=X.base) I.ok.mod.kin hm.kp (thn (ha pos b z i B _ j q) λ us L ⟨vs,N,n,r,G⟩=>⟨n.kIn,?_⟩) c d
 exact QS (us:=.ref a::us) (vs:=.ref a::vs) (dvs:=[]) (ds:=[]) (E:=E) J.ok y.room hb .nil p n (.cons rfl r) (by rw [UB];exact G)
end
end L2
namespace Lib
open PySem L2 Fr Op Tx
noncomputable def numOf (x:Str):Option Rat:=@dite (Option Rat) (∃q,Short q/\Am q=x) (Classical.propDecidable _) (λ c=>some (Classical.choose c)) (λ _=>none)
theorem vO {p q:Rat}(h:Am p=Am q):p=q:=rm (by rw [<- Do,<- Do,h])
theorem Vv {q:Rat}(h:Short q):numOf (Am q)=some q:=by
 unfold numOf;have c:∃p,Short p/\Am p=Am q:=⟨q,h,rfl⟩;rw [dif_pos c];exact congrArg some (vO (qV c).2)
theorem Ub {x:Str}{q:Rat}(h:numOf x=some q):Short q/\x=Am q:=by
 unfold numOf at h;by_cases c:∃q,Short q/\Am q=x
 ·rw [dif_pos c] at h;have:=qV c;rw [UN h] at this;exact ⟨this.1,this.2.symm⟩
 ·rw [dif_neg c] at h;cases h
theorem dm {x:Str}(h:∀q,Short q->Am q≠x):numOf x=none:=by
 unfold numOf;rw [dif_neg];rintro ⟨q,a,b⟩
 exact h q a b
theorem jt {x:Str}(h:numOf x=none):∀q,Short q->Am q≠x:=λ q a e=>by
 rw [<- e,Vv a] at h;cases h
def jz (K:FrG)(N:Addr):Sp:=λ vs H Q E=>∃x:Str,vs=[.str x]/\x.length<=100000/\(∀q,numOf x=some q->∀v a,Same H a->DV K a v (BK q)->Q v a)/\(numOf x=none->∀a,Same H a->E (.ref N) none a)
def lg (C:Addr):Sp:=λ vs H Q E=>∃v,vs=[v]/\
 ((∃(x:Str) (q:Rat),v=.str x/\Short q/\cl x=sh q/\∀(r:Addr) a,Same H a->a r=some (Fz q)->Q (.ref r) a)\/
   (∃x:Str,v=.str x/\x.length<=100000/\(∀q,Short q->cl x≠sh q)/\∀a,Same H a->E (.ref C) none a))
end Lib
namespace Lib
open PySem L2 Fr Op Tx PySem.NumText PySem.Builtin.Str
def Hs (l:List Nat):Bool:=
 let neg:=decide (l.head?=some 45)
 let c:=if neg=true then l.drop 1 else l
 match cut 47 c with
 | [a]=>decide (dg (JY a)=a) && decide (JY a < 10 ^ 15) && (!neg || decide (JY a≠0))
 | [a,b]=>decide (dg (JY a)=a) && decide (JY a < 10 ^ 15) && (!neg || decide (JY a≠0)) && decide (dg (JY b)=b) && decide (JY b < 10 ^ 15) && decide (1 < JY b) && decide (we (JY a) (JY b)=1)
 | _=>false
theorem nJ {q:Rat}(h:Short q):Hs (sh q)=true:=by
 unfold Hs;dsimp only
 have e1:=JL q;have e2:=Hq q;have c:q.num < 0->q.num.natAbs≠0:=λ b=>by omega
 by_cases b:q.num < 0
 ·rw [decide_eq_true b] at e1;rw [if_pos b] at e2;rw [e1,if_pos rfl,e2,HN];by_cases a:q.den=1
  ·rw [if_pos a];simp only [Ff,decide_true,xF,Bool.not_true,ua];rw [decide_eq_true h.n,decide_eq_true (c b)];rfl
  ·rw [if_neg a];simp only [Ff,decide_true,xF,Bool.not_true,ua];rw [decide_eq_true h.n,decide_eq_true (c b),decide_eq_true h.d,decide_eq_true (show 1 < q.den by have:=q.den_nz;omega),decide_eq_true q.reduced]
   rfl
 ·rw [decide_eq_false b] at e1;rw [if_neg b] at e2;rw [e1,if_neg ZE,e2,HN];by_cases a:q.den=1
  ·rw [if_pos a];simp only [Ff,decide_true,xF,Bool.not_false,qo,Bool.and_true];rw [decide_eq_true h.n]
  ·rw [if_neg a];simp only [Ff,decide_true,xF,Bool.not_false,qo,Bool.and_true];rw [decide_eq_true h.n,decide_eq_true h.d,decide_eq_true (show 1 < q.den by have:=q.den_nz;omega),decide_eq_true q.reduced]
   rfl
theorem uQ {x:Str}(h:Hs (cl x)=false):numOf x=none:=dm λ q a e=>by
 rw [<- e,Do,nJ a] at h;cases h
end Lib
namespace L2
open PySem PySem.Spec PyProof.Rows
section
variable {X:Cx}{k:Nat}{C:Addr}{ps:List Str}{sp:Sp}{x:Str}{p pos:Pos}{tg l:Expr}{tl:TE}
theorem eE (M:MkC X.prog X.w X.K X.mg X.base k x C ps sp)(b:RoomB true (k+1) X.A)(c:Gl X x:=by rfl)(a:(x == ("__debug__":Str))=false:=by decide):
  PE X (.Call (.Name x p) [] [] pos) (tMake C sp [] E0 tNil):=by
 obtain ⟨f,fd,d,hm,hb⟩:=M.ex;exact pO hm d.ok b.room c M.mg hb .nil Aw a
end
end L2
namespace Tx
open PySem PySem.Spec PySem.Builtin PySem.Builtin.Str L2 Lib Fr Op
theorem YK (s a b:Y2)(r:List Y2):XI s (a::b::r)=a++s++XI s (b::r):=rfl
theorem j1 (s a:Y2):XI s [a]=a:=rfl
def G7 (u x:Y2)(qs:List Rat):Y2:=XI ⟨#[32]⟩ (u::x::qs.map Am)
theorem Rc {p u x:Y2}(h:cl p=cl u++[32]):p++x=G7 u x []:=ext (by
 unfold G7;rw [Bh,h,xo,YK,j1,Bh,Bh])
theorem Yh {u x:Y2}{qs:List Rat}(a:32∉cl u)(b:32∉cl x):Xs (G7 u x qs) (Y1 " ")=u::x::qs.map Am:=by
 refine Rk ?_;rw [Ln,Dr];refine Mj (by simp) λ t ht=>?_
 rcases ZT.mp ht with rfl | ht
 ·exact a
 rcases ZT.mp ht with rfl | ht
 ·exact b
 obtain ⟨q,_,rfl⟩:=Jb.mp ht;exact KR q 32 (by decide)
theorem Y5:∀a:List Y2,(XI ⟨#[32]⟩ a).length<=(a.map λ t=>t.length+1).sum
 | []=>JI _
 | [t]=>by rw [j1];simp
 | t::u::r=>by
  have:=Y5 (u::r);rw [YK,<- Ci,Bh,Bh,ZA,ZA,YV,yN];simp only [Ci];have e:(QN #[32]).length=1:=rfl;omega
theorem Vn {a:Type}{f:a->Nat}{c:Nat}:∀{l:List a},(∀x∈l,f x<=c)->(l.map f).sum<=l.length * c
 | [],_=>JI _
 | x::l,h=>by
  rw [YV,yN,U1,jS];have:=h x ZU;have:=Vn (l:=l) λ d b=>h d (Ya _ b)
  omega
theorem Xx {u x:Y2}{qs:List Rat}(c:u.length<=8)(d:x.length<=8)(a:qs.length<=5)(h:∀q∈qs,Short q):(G7 u x qs).length<=300:=by
 have b:=Y5 (u::x::qs.map Am);rw [YV,yN,YV,yN,xr] at b;have e:(qs.map ((λ t:Y2=>t.length+1) ∘ Am)).sum<=qs.length * 41:=Vn λ q a=>uS (K4 (h q a))
 have f:qs.length * 41<=5 * 41:=QE _ a;show (XI ⟨#[32]⟩ (u::x::qs.map Am)).length<=300;omega
theorem G6:(2:Nat) ^ 1900<=10 ^ 575:=by decide+kernel
theorem qz {q:Rat}(h:Bd 1900 q):(Am q).length<=1200:=by
 have a:=(Dw (m:=q.num.natAbs) (k:=575) (by decide)).mpr (W1 h.1 G6)
 have b:=(Dw (m:=q.den) (k:=575) (by decide)).mpr (W1 h.2 G6)
 rw [<- Ci,Do];unfold sh
 split<;>split<;>simp only [ZA,U1,WA]<;>omega
end Tx
namespace Lib
open PySem L2 Fr Op Tx
def BnA (K:FrG)(H:Hp)(l:Addr)(ps:List Pc):Prop:=∃xs,H l=some (.lst xs)/\DVs K H xs (ps.map Bv)/\xs.length=ps.length
theorem BnA.of {K:FrG}{H:Hp}{l:Addr}{xs:List V}{ps:List Pc}(h:H l=some (.lst xs))(d:DVs K H xs (ps.map Bv)):BnA K H l ps:=⟨xs,h,d,by have:=d.len;rw [Y6] at this;exact this⟩
theorem BnA.keep {K:FrG}{H a:Hp}{l:Addr}{ps:List Pc}(h:BnA K H l ps)(s:Same H a):BnA K a l ps:=by
 obtain ⟨xs,b,c,d⟩:=h;exact ⟨xs,s _ _ b,c.keep s,d⟩
theorem BnA.dv {K:FrG}{H:Hp}{l:Addr}{ps:List Pc}(h:BnA K H l ps):DV K H (.ref l) (Fx ps):=by
 obtain ⟨xs,a,b,c⟩:=h;exact .lst (SqL.of a) b
theorem lO {m:Nat}{p:Pc}(ok:p.ok)(b:p.bd m)(hm:m<=40):DX p:=by
 have sh:∀q:Rat,Bd m q->Short q:=λ q h=>by
  have c:(2:Nat) ^ 40<=10 ^ 15:=by decide
  have e:(2:Nat) ^ m<=2 ^ 40:=xK (by decide) hm
  exact ⟨by have:=h.n;omega,by have:=h.d;omega⟩
 refine ⟨ok,λ q a=>?_⟩
 cases p with
 | gap f=>rw [Zu.mp a];exact sh _ b
 | glass f=>rw [Zu.mp a];exact sh _ b
 | stop lo g=>
  rcases ZT.mp a with rfl | h
  ·exact sh _ b.1
  ·rw [Zu.mp h];exact sh _ b.2
abbrev Cm:=Str->Option (List Pc)
def setB (b:Cm)(x:Str)(ps:List Pc):Cm:=λ a=>if a=x then some ps else b a
def OkB (ps:List Pc):Prop:=ps.length<=6/\∀p∈ps,DX p/\p.fd 12 17
theorem OkB.sh {ps:List Pc}(h:OkB ps):∀p∈ps,DX p:=λ p a=>(h.2 p a).1
theorem gR {m M n:Nat}(a:m<=n)(b:M<=n):∀{p:Pc},p.fd m M->p.bd n
 | .gap _,h=>Bd.mono h a
 | .glass _,h=>Bd.mono h a
 | .stop _ _,h=>⟨h.1.mono b,h.2.mono b⟩
theorem OkB.good {ps:List Pc}(h:OkB ps):Good 18 ps:=⟨U2 h.1 (by decide),λ p a=>(h.2 p a).1.1,λ p a=>gR (by decide) (by decide) (h.2 p a).2⟩
def DicB (K:FrG)(H:Hp)(q:List Addr)(a:List (Key×V))(b:Cm):Prop:=∀x:Str,match b x with
 | none=>valV a (.inr x)=none
 | some ps=>OkB ps/\∃l,valV a (.inr x)=some (.ref l)/\BnA K H l ps/\l∉q
section
variable {K:FrG}{H H':Hp}{q:List Addr}{a l:Addr}{kvs:List (Key×V)}{S:Cm}{ps:List Pc}{x:Str}
theorem DicB.at (h:DicB K H q kvs S)(e:S x=some ps):OkB ps/\∃l,valV kvs (.inr x)=some (.ref l)/\BnA K H l ps/\l∉q:=by
 have:=h x;rw [e] at this;exact this
theorem DicB.no (h:DicB K H q kvs S)(e:S x=none):valV kvs (.inr x)=none:=by
 have:=h x;rw [e] at this;exact this
theorem DicB.map (h:DicB K H q kvs S)(f:∀l ps,BnA K H l ps->l∉q->BnA K H' l ps):DicB K H' q kvs S:=λ x=>by
 have:=h x;cases e:S x with
 | none=>rw [e] at this;exact this
 | some ps=>
  rw [e] at this;obtain ⟨o,l,c,d,b⟩:=this;exact ⟨o,l,c,f l ps d b,b⟩
theorem Pg (h:BnA K H l ps)(t:Ex H H')(s:∀o,H l=some o->H' l=some o):BnA K H' l ps:=by
 obtain ⟨xs,b,c,d⟩:=h;exact ⟨xs,s _ b,Ep t (Ew JV ps) c,d⟩
theorem DicB.keep (h:DicB K H q kvs S)(s:Same H H'):DicB K H' q kvs S:=h.map λ l ps b _=>b.keep s
theorem fX {c:List (Key×V)}(h:H a=some (.dK c))(s:SD a H H'):Ex H H':=λ b f=>⟨λ e=>s b _ (λ d=>by rw [d,h] at e;cases e) e,λ o e=>s b _ (λ d=>by rw [d,h] at e;cases e) e⟩
theorem XN {c:List (Key×V)}(h:BnA K H l ps)(ha:H a=some (.dK c))(s:SD a H H'):BnA K H' l ps:=by
 refine Pg h (fX ha s) λ o e=>s _ _ (λ d=>?_) e
 obtain ⟨xs,b,_⟩:=h;rw [d,ha] at b;cases b
theorem DicB.keepD {c:List (Key×V)}(h:DicB K H q kvs S)(ha:H a=some (.dK c))(s:SD a H H'):DicB K H' q kvs S:=h.map λ l ps b _=>XN b ha s
theorem DicB.nil:DicB K H q [] (λ _=>none):=λ _=>rfl
theorem DicB.put (h:DicB K H q kvs S)(b:BnA K H l ps)(n:l∉q)(o:OkB ps):DicB K H q (putK kvs (.inr x) (.ref l)) (setB S x ps):=λ c=>by
 unfold setB;by_cases e:c=x
 ·subst e;rw [if_pos rfl];exact ⟨o,l,by rw [Nr,if_pos rfl],b,n⟩
 ·rw [if_neg e];have d:¬ (yc c:Key)=.inr x:=λ k=>e (FO k)
  have:=h c;cases f:S c with
  | none=>rw [f] at this;rw [show valV (putK kvs (.inr x) (.ref l)) (.inr c)=valV kvs (.inr c) by rw [Nr,if_neg d]];exact this
  | some qs=>
   rw [f] at this;obtain ⟨o,l,g,i,j⟩:=this;exact ⟨o,l,by rw [Nr,if_neg d];exact g,i,j⟩
end
theorem pB (a:List (Key×V))(k:Key)(v:V):(putK a k v).length<=a.length+1:=by
 unfold putK
 split
 ·rw [Y6];omega
 ·simp
structure DkA (K:FrG)(H:Hp)(q:List Addr)(C o dx d:Addr)(S:Cm)(n:Nat):Prop where
 o:H o=some (.ins C dx [("benches",.ref d)])
 d:∃kvs,H d=some (.dK kvs)/\kvs.length<=n/\DicB K H q kvs S
section
variable {K:FrG}{H H':Hp}{q:List Addr}{C o dx d a l:Addr}{S:Cm}{n:Nat}{ps:List Pc}{x:Str}
theorem DkA.keep (h:DkA K H q C o dx d S n)(s:Same H H'):DkA K H' q C o dx d S n:=by
 obtain ⟨b,c,e,f⟩:=h.d;exact ⟨s _ _ h.o,b,s _ _ c,e,f.keep s⟩
theorem DkA.ok (h:DkA K H q C o dx d S n)(e:S x=some ps):OkB ps:=by
 obtain ⟨c,f,g,b⟩:=h.d;exact (b.at e).1
theorem DkA.ne (h:DkA K H q C o dx d S n):o≠d:=λ e=>by
 obtain ⟨c,b,_⟩:=h.d;have:=h.o;rw [e,b] at this;cases this
theorem DkA.put {c:List (Key×V)}(h:DkA K H q C o dx d S n)(e:H d=some (.dK c))(b:BnA K H l ps)(f:l∉q)(ok:OkB ps):DkA K (upd H d (.dK (putK c (.inr x) (.ref l)))) q C o dx d (setB S x ps) (n+1):=by
 obtain ⟨g,i,k,j⟩:=h.d;cases i.symm.trans e
 refine ⟨by rw [Ax h.ne];exact h.o,_,Aj,U2 (pB _ _ _) (by omega),?_⟩
 exact (j.put b f ok).keepD e JX
end
def iR (C:Addr):Sp:=λ vs H Q _=>∃a dx,vs=[.ref a]/\H a=some (.ins C dx [])/\∀d,H d=none->Q .non (upd (upd H d (.dK [])) a (.ins C dx [("benches",.ref d)]))
def qO (K:FrG)(C:Addr):Sp:=λ vs H Q _=>∃(o dx d:Addr) (q:List Addr) (x:Str) (a:Cm) (n:Nat) (ps:List Pc),vs=[.ref o,.str x]/\DkA K H q C o dx d a n/\a x=some ps/\∀l,BnA K H l ps->l∉q->Q (.ref l) H
def j8 (K:FrG)(C:Addr):Sp:=λ vs H Q _=>∃(o dx d:Addr) (q:List Addr) (l:Addr) (x:Str) (b:Cm) (n:Nat) (ps:List Pc),vs=[.ref o,.str x,.ref l]/\DkA K H q C o dx d b n/\n<=1000/\BnA K H l ps/\l∉q/\OkB ps/\
 ∀a,SD d H a->DkA K a q C o dx d (setB b x ps) (n+1)->Q (.str "ok") a
def Nm (x:Str):Prop:=nameB x=true
def FQ (x t:Str):Str:=Y1 "bench "++x++Y1 " "++t
def ZS (K:FrG)(C:Addr):Sp:=λ vs H Q _=>∃(o dx d:Addr) (q:List Addr) (x:Str) (c:Cm) (n:Nat) (ps:List Pc),vs=[.ref o,.str (FQ x (Cv ps))]/\DkA K H q C o dx d c n/\(∀a∈q,∃e,H a=some e)/\n<=1000/\Nm x/\OkB ps/\
 ∀b,SD d H b->DkA K b q C o dx d (setB c x ps) (n+1)->Q (.str "ok") b
def jV:Sp:=λ vs H Q _=>∃x:Str,vs=[.str x]/\Nm x/\∀a,Same H a->Q .non a
def bD (K:FrG)(b:List Pc->List Rat->Str->Prop):Sp:=λ vs H Q _=>∃(v u:V) (ps:List Pc) (qs:List Rat) (t:Str),vs=[v,u]/\DV K H v (Fx ps)/\OkB ps/\DV K H u (.list (qs.map BK))/\b ps qs t/\∀a,Same H a->Q (.str t) a
def Wc (K:FrG)(C:Addr)(u:Str)(m:Nat)(c:List Pc->List Rat->Str->Prop):Sp:=λ vs H Q _=>∃(o dx d:Addr) (q:List Addr) (x:Str) (b:Cm) (n:Nat) (ps:List Pc) (qs:List Rat) (t:Str),vs=[.ref o,.str (G7 u x qs)]/\DkA K H q C o dx d b n/\Nm x/\b x=some ps/\qs.length=m/\(∀q∈qs,Short q)/\(u=Y1 "sharp"->∃q,qs[4]?=some q/\0<=q)/\c ps qs t/\∀a,Same H a->Q (.str t) a
theorem nP:Gp ⟨#[32]⟩=false:=by decide+kernel
theorem Nm.no {x:Str}(h:Nm x):32∉cl x:=λ m=>by
 have h:nameB x=true:=h;unfold nameB at h;have b:=(XY.mp h).2;have a:=zX.mp b ⟨#[32]⟩ (Jb.mpr ⟨32,m,rfl⟩);rw [nP] at a;cases a
theorem Nm.len {x:Str}(h:Nm x):x.length<=8:=qH h
theorem Dq (x:Str):(cl x).length=x.length:=rfl
theorem R4 (x t:Str):cl (FQ x t)=cl (Y1 "bench")++32::(cl x++32::cl t):=by
 unfold FQ;rw [Bh,Bh,Bh,show cl (Y1 "bench ")=cl (Y1 "bench")++[32] by decide+kernel,show cl (Y1 " ")=[32] by decide+kernel]
 simp only [US];rfl
theorem sE {x t:Str}(h:Nm x):∃r,Xs (FQ x t) (Y1 " ")=Y1 "bench"::r:=by
 have e:(Xs (FQ x t) ⟨#[32]⟩).map cl=cl (Y1 "bench")::cut 32 (cl x++32::cl t):=by
  rw [Dr,R4,Hi _ (by decide+kernel)]
 have e:(Xs (FQ x t) (Y1 " ")).map cl=cl (Y1 "bench")::cut 32 (cl x++32::cl t):=e;cases f:Xs (FQ x t) (Y1 " ") with
 | nil=>rw [f] at e;cases e
 | cons a r=>
  rw [f] at e
  injection e with e1 e2
  exact ⟨r,by rw [ext e1]⟩
theorem Xc {x t:Str}(h:Nm x):(FQ x t).length=t.length+x.length+7:=by
 rw [<- Dq,R4];simp only [ZA,U1,Dq];rw [show (Y1 "bench").length=5 by decide+kernel]
 omega
def Dt (a t r:Int):Str:=UA (Y1 "lens") none (some t)++⟨#[97+a.toNat]⟩++UA (Y1 "lens") (some t) (some (t+r))
def called (a i:Int):Str:=if a % 3=0 then zU (Y1 "m") (1+i) else Dt ((a / 24+5 * i) % 26) (a / 3 % 5) (a % 4)
theorem T3:∀a:Fin 26,∀t:Fin 5,∀r:Fin 4,nameB (Dt (a.val:Nat) (t.val:Nat) (r.val:Nat))=true/\Dt (a.val:Nat) (t.val:Nat) (r.val:Nat)≠Dt (((a.val+5) % 26:Nat):Int) (t.val:Nat) (r.val:Nat):=by decide+kernel
theorem rA:∀i:Fin 4,nameB (zU (Y1 "m") (1+((i.val:Nat):Int)))=true:=by decide+kernel
theorem Zg (a:Int){i:Int}(c:0<=i)(h:i < 4):Nm (called a i):=by
 unfold Nm called
 split
 ·have:=rA ⟨i.toNat,by omega⟩
  have e:((i.toNat:Nat):Int)=i:=by omega
  simp only [e] at this;exact this
 ·have:=(T3 ⟨((a / 24+5 * i) % 26).toNat,by omega⟩ ⟨(a / 3 % 5).toNat,by omega⟩ ⟨(a % 4).toNat,by omega⟩).1
  have e1:((((a / 24+5 * i) % 26).toNat:Nat):Int)=(a / 24+5 * i) % 26:=by omega
  have e2:(((a / 3 % 5).toNat:Nat):Int)=a / 3 % 5:=by omega
  have b:(((a % 4).toNat:Nat):Int)=a % 4:=by omega
  simp only [e1,e2,b] at this;exact this
theorem ig:∀a:Fin 26,(Y1 "abcdefghijklmnopqrstuvwxyz").cps[a.val]?=some (97+a.val):=by decide+kernel
theorem bF:∀t:Fin 5,∀r:Fin 4,(UA (Y1 "lens") none (some ((t.val:Nat):Int))).length<=4/\(UA (Y1 "lens") (some ((t.val:Nat):Int)) (some (((t.val:Nat):Int)+((r.val:Nat):Int)))).length<=4:=by decide+kernel
def X4 (K:FrG):Sp:=λ vs H Q _=>∃(v:V) (q:Rat),vs=[v]/\DV K H v (BK q)/\Bd 1900 q/\Q (.str (Am q)) H
def PBig (p:Pc):Prop:=p.ok/\∀q∈fracs p,Bd 1900 q
def Xv (K:FrG):Sp:=λ vs H Q _=>∃(v:V) (p:Pc),vs=[v]/\DV K H v (Bv p)/\PBig p/\∀a,Same H a->Q (.str (DQ p)) a
def YT (K:FrG):Sp:=λ vs H Q _=>∃(v:V) (ps:List Pc),vs=[v]/\DV K H v (Fx ps)/\ps.length<=60/\(∀p∈ps,PBig p)/\∀a,Same H a->Q (.str (Cv ps)) a
theorem Yp {m:Nat}(h:m < 2 ^ 1900):m.log2 < 1920:=Fr.Tv (zt h (by decide+kernel)) (by decide)
theorem Gi {q:Rat}(h:Short q):Bd 1900 q:=by
 have a:(10:Nat) ^ 15<=2 ^ 1900:=by decide+kernel
 exact ⟨W1 h.n a,W1 h.d a⟩
theorem PBig.of {p:Pc}(h:DX p):PBig p:=⟨h.1,λ q a=>Gi (h.2 q a)⟩
theorem OkB.pbig {ps:List Pc}(h:OkB ps):∀p∈ps,PBig p:=λ p a=>.of (h.sh p a)
theorem Nh (p:Pc)(h:PBig p):∀t∈toks p,t.length<=1200:=λ t ht=>by
 rcases ZT.mp (show t∈wd p::(fracs p).map Am from ht) with rfl | ht
 ·cases p with
  | gap _=>exact U2 (show (Y1 "gap").length<=5 by decide+kernel) (by decide)
  | glass _=>exact U2 (show (Y1 "glass").length<=5 by decide+kernel) (by decide)
  | stop _ _=>exact U2 (show (Y1 "stop").length<=5 by decide+kernel) (by decide)
 ·obtain ⟨q,a,rfl⟩:=Jb.mp ht;exact qz (h.2 q a)
theorem PBig.bd {p:Pc}(h:PBig p):p.bd 1900:=by
 cases p with
 | gap q=>exact h.2 q (by simp [fracs])
 | glass q=>exact h.2 q (by simp [fracs])
 | stop lo a=>exact ⟨h.2 lo (by simp [fracs]),h.2 a (by simp [fracs])⟩
def iT:Sp:=λ vs H Q _=>∃n:Int,vs=[.int n]/\n.natAbs < 10 ^ 575/\∀a:Y2,cl a=(if n < 0 then [45] else [])++dg n.natAbs->Q (.str a) H
end Lib
namespace L2
open PySem PySem.Spec PyProof.Rows PySem.Builtin PySem.Builtin.Str
theorem bO (b c:Str)(u:Tok)(a:(u == 0)=false):isSame (.str b u) (.str c u)=pure true:=by
 show (if (u == 0 || u == 0)=true then _ else if (u == u)=true then _ else _:Sem Bool)=_
 rw [a,beq_self_eq_true];rfl
theorem oX (x a b:Str)(t u:Tok)(c:(u == 0)=false):Gives («str.replace» ⟨[.str x t,.str a u,.str b u],[]⟩) (.val (.str x t)):=by
 show Gives (if ((Xt x a 0 x.length (x.length+1)).isEmpty || (a.length == 0 && b.length == 0))=true then _ else isSame (.str a u) (.str b u) >>= _) _
 cases d:((Xt x a 0 x.length (x.length+1)).isEmpty || (a.length == 0 && b.length == 0))
 ·rw [bO a b u c];exact .rule (.of_eq rfl)
 ·exact .rule (.of_eq rfl)
end L2
namespace Lib
open PySem L2 Fr Op Tx
def XD (ps:List Pc)(_:List Rat)(t:Str):Prop:=t=Cv ps
def BnL (K:FrG)(H:Hp)(bs:List Addr)(a:List (List Pc)):Prop:=bs.length=a.length/\∀(i:Nat) (b:Addr) (ps:List Pc),bs[i]?=some b->a[i]?=some ps->BnA K H b ps
section
variable {K:FrG}{H H':Hp}{bs:List Addr}{pss:List (List Pc)}{b l q:Addr}{ps:List Pc}
theorem BnL.map (h:BnL K H bs pss)(f:∀b∈bs,∀ps,BnA K H b ps->BnA K H' b ps):BnL K H' bs pss:=⟨h.1,λ i b ps hb a=>f b (Xb hb) ps (h.2 i b ps hb a)⟩
theorem BnL.keep (h:BnL K H bs pss)(s:Same H H'):BnL K H' bs pss:=h.map λ _ _ _ a=>a.keep s
theorem BnL.sd {xs:List V}(h:BnL K H bs pss)(hl:H l=some (.lst xs))(s:SD l H H')(n:∀b∈bs,b≠l):BnL K H' bs pss:=h.map λ b hb ps a=>Pg a (s.t hl) λ o e=>s _ _ (n b hb) e
theorem BnL.sdD {a:List (Key×V)}(h:BnL K H bs pss)(hl:H l=some (.dK a))(s:SD l H H'):BnL K H' bs pss:=h.map λ _ _ _ c=>XN c hl s
theorem BnL.snoc (h:BnL K H bs pss)(f:BnA K H b ps):BnL K H (bs++[b]) (pss++[ps]):=⟨by rw [ZA,ZA,h.1];rfl,λ i g d hb a=>by
 by_cases c:i < bs.length
 ·rw [zd c] at hb;rw [zd (by rw [<- h.1];exact c)] at a
  exact h.2 i _ _ hb a
 ·have hl:=Cg hb;rw [ZA] at hl;have e:i=bs.length:=by simp only [U1,WA] at hl;omega
  subst e;rw [yz (YE _),Nat.sub_self] at hb;rw [yz (by rw [h.1];exact YE _),h.1,Nat.sub_self] at a
  cases hb
  cases a
  exact f⟩
end
structure Lw69 (K:FrG)(H:Hp)(C o dx d ln lb q c:Addr)(L:List V)(S:Cm)(n:Nat)(z:Int)(bs:List Addr)(pss:List (List Pc)):Prop where
 dr:DrA H q c L
 ds:DkA K H [q,lb] C o dx d S n
 nm:H ln=some (.lst ((UP 4).map λ k=>V.str (called z (k:Nat))))
 hl:H lb=some (.lst (bs.map V.ref))
 nn:ln≠q/\lb≠q/\ln≠lb/\lb≠c
 bl:BnL K H bs pss
 bn:∀b∈bs,b≠q/\b≠lb
 m:2<=bs.length/\bs.length<=3
 ok:∀ps∈pss,OkB ps
 sx:∀(i:Nat) (ps:List Pc),pss[i]?=some ps->S (called z i)=some ps
section
variable {K:FrG}{H H':Hp}{C o dx d ln lb q c:Addr}{L:List V}{S:Cm}{n:Nat}{z:Int}{bs:List Addr}{pss:List (List Pc)}
theorem Lw69.keep (h:Lw69 K H C o dx d ln lb q c L S n z bs pss)(s:Same H H'):Lw69 K H' C o dx d ln lb q c L S n z bs pss:=⟨h.dr.keep s,h.ds.keep s,s _ _ h.nm,s _ _ h.hl,h.nn,h.bl.keep s,h.bn,h.m,h.ok,h.sx⟩
theorem Lw69.ps (h:Lw69 K H C o dx d ln lb q c L S n z bs pss){i:Nat}(a:i < bs.length):∃b ps,bs[i]?=some b/\BnA K H b ps/\OkB ps/\S (called z i)=some ps:=by
 have e:i < pss.length:=by rw [<- h.bl.1];exact a
 have e1:=XU a;have e2:=XU e;exact ⟨_,_,e1,h.bl.2 i _ _ e1 e2,h.ok _ (Xb e2),h.sx i _ e2⟩
theorem uC:∀a:Fin 26,∀t:Fin 5,∀r:Fin 4,Dt (a.val:Nat) (t.val:Nat) (r.val:Nat)≠Dt (((a.val+10) % 26:Nat):Int) (t.val:Nat) (r.val:Nat):=by decide+kernel
theorem dJ (z:Int):called z 0≠called z 1/\called z 0≠called z 2/\called z 1≠called z 2:=by
 unfold called
 split
 ·exact ⟨by decide+kernel,by decide+kernel,by decide+kernel⟩
 ·have e2:(((z / 3 % 5).toNat:Nat):Int)=z / 3 % 5:=by omega
  have f:(((z % 4).toNat:Nat):Int)=z % 4:=by omega
  have a:=(T3 ⟨((z / 24+5 * 0) % 26).toNat,by omega⟩ ⟨(z / 3 % 5).toNat,by omega⟩ ⟨(z % 4).toNat,by omega⟩).2
  have b:=uC ⟨((z / 24+5 * 0) % 26).toNat,by omega⟩ ⟨(z / 3 % 5).toNat,by omega⟩ ⟨(z % 4).toNat,by omega⟩
  have e:=(T3 ⟨((z / 24+5 * 1) % 26).toNat,by omega⟩ ⟨(z / 3 % 5).toNat,by omega⟩ ⟨(z % 4).toNat,by omega⟩).2
  have g:((((z / 24+5 * 0) % 26).toNat:Nat):Int)=(z / 24+5 * 0) % 26:=by omega
  have h:((((z / 24+5 * 1) % 26).toNat:Nat):Int)=(z / 24+5 * 1) % 26:=by omega
  have b1:(((((z / 24+5 * 0) % 26).toNat+5) % 26:Nat):Int)=(z / 24+5 * 1) % 26:=by omega
  have b2:(((((z / 24+5 * 0) % 26).toNat+10) % 26:Nat):Int)=(z / 24+5 * 2) % 26:=by omega
  have b3:(((((z / 24+5 * 1) % 26).toNat+5) % 26:Nat):Int)=(z / 24+5 * 2) % 26:=by omega
  simp only [g,h,b1,b2,b3,e2,f] at a b e;exact ⟨a,b,e⟩
theorem bf {z:Int}{i j:Nat}(b:i < 3)(a:j < 3)(h:called z i=called z j):i=j:=by
 obtain ⟨e,f,g⟩:=dJ z;have b:i=0\/i=1\/i=2:=by omega
 have a:j=0\/j=1\/j=2:=by omega
 rcases b with rfl | rfl | rfl
 ·rcases a with rfl | rfl | rfl
  ·rfl
  ·exact absurd h e
  ·exact absurd h f
 ·rcases a with rfl | rfl | rfl
  ·exact absurd h.symm e
  ·rfl
  ·exact absurd h g
 ·rcases a with rfl | rfl | rfl
  ·exact absurd h.symm f
  ·exact absurd h.symm g
  ·rfl
end
def vR:Sp:=λ vs H Q _=>∃(a i:Int),vs=[.int a,.int i]/\0<=a/\a < 2147483647/\0<=i/\i < 4/\Q (.str (called a i)) H
def qX (K:FrG):Sp:=λ vs H Q _=>∃(d c:Addr) (f:List V) (m:Nat),vs=[.ref d,.int (m:Int),.int 0]/\m<=3/\DrA H d c f/\∀(l:Addr) (bs:List Addr) (e:List (List Pc)) a,DrA a d c f->SD d H a->H l=none->(∀b∈bs,H b=none/\b≠l)->a l=some (.lst (bs.map V.ref))->bs.length=m->BnL K a bs e->(∀ps∈e,OkB ps)->Q (.ref l) a
theorem cL:∀{p:Pc},p.bd 12->p.fd 12 17
 | .gap _,h=>h
 | .glass _,h=>h
 | .stop _ _,h=>⟨h.1.mono (by decide),h.2.mono (by decide)⟩
theorem jQ {K:FrG}{H:Hp}{q:List Addr}{C o dx d:Addr}(no:H o=none)(a:H dx=none)(ne:dx≠o)(hd:upd (upd H dx (.own o)) o (.ins C dx []) d=none):
  Same H (upd (upd (upd (upd H dx (.own o)) o (.ins C dx [])) d (.dK [])) o (.ins C dx [("benches",.ref d)]))/\DkA K (upd (upd (upd (upd H dx (.own o)) o (.ins C dx [])) d (.dK [])) o (.ins C dx [("benches",.ref d)])) q C o dx d (λ _=>none) 0/\H d=none/\H o=none:=by
 have c:d≠o:=λ e=>by rw [e,Aj] at hd;cases hd
 rw [Ax c] at hd;have f:d≠dx:=λ e=>by rw [e,Aj] at hd;cases hd
 rw [Ax f] at hd;refine ⟨λ b u e=>?_,⟨Aj,[],by rw [Ax c];exact Aj,YE _,DicB.nil⟩,hd,no⟩
 rw [Ax (BZ e no),Ax (BZ e hd),Ax (BZ e no),Ax (BZ e a)];exact e
structure Ly69 (K:FrG)(H:Hp)(C o dx d ln lb q c:Addr)(L:List V)(S:Cm)(i:Nat)(z:Int)(bs:List Addr)(pss:List (List Pc)):Prop where
 dr:DrA H q c L
 ds:DkA K H [q,lb] C o dx d S i
 nm:H ln=some (.lst ((UP 4).map λ k=>V.str (called z (k:Nat))))
 hl:H lb=some (.lst (bs.map V.ref))
 bl:BnL K H bs pss
 sx:∀(j:Nat) (ps:List Pc),j < i->pss[j]?=some ps->S (called z j)=some ps
section
variable {K:FrG}{H H':Hp}{C o dx d ln lb q c:Addr}{L:List V}{S:Cm}{i:Nat}{z:Int}{bs:List Addr}{pss:List (List Pc)}
theorem Ly69.keep (h:Ly69 K H C o dx d ln lb q c L S i z bs pss)(s:Same H H'):Ly69 K H' C o dx d ln lb q c L S i z bs pss:=⟨h.dr.keep s,h.ds.keep s,s _ _ h.nm,s _ _ h.hl,h.bl.keep s,h.sx⟩
theorem Ly69.there (h:Ly69 K H C o dx d ln lb q c L S i z bs pss):∀a∈[q,lb],∃z,H a=some z:=λ a ha=>by
 rcases ZT.mp ha with rfl | ha
 ·obtain ⟨_,_,_,b⟩:=h.dr.d;exact ⟨_,b⟩
 ·rw [Zu.mp ha];exact ⟨_,h.hl⟩
theorem Ly69.next (h:Ly69 K H C o dx d ln lb q c L S i z bs pss){ps:List Pc}(b:pss[i]?=some ps)(m:bs.length<=3)(sd:SD d H H')(ds:DkA K H' [q,lb] C o dx d (setB S (called z i) ps) (i+1)):Ly69 K H' C o dx d ln lb q c L (setB S (called z i) ps) (i+1) z bs pss:=by
 obtain ⟨l,a,_,_⟩:=h.ds.d;have k:=Cg b;rw [<- h.bl.1] at k;refine ⟨h.dr.keepD sd (λ e=>by obtain ⟨_,_,_,f⟩:=h.dr.d;rw [e,a] at f;cases f) (λ e=>by have:=h.dr.c;rw [e,a] at this;cases this),ds,sd _ _ (λ e=>by have:=h.nm;rw [e,a] at this;cases this) h.nm,sd _ _ (λ e=>by have:=h.hl;rw [e,a] at this;cases this) h.hl,h.bl.sdD a sd,λ j p n e=>?_⟩
 unfold setB;by_cases g:j=i
 ·subst g;rw [b] at e;cases e
  rw [if_pos rfl]
 ·rw [if_neg (λ z=>g (bf (by omega) (by omega) z))]
  exact h.sx j p (by omega) e
end
end Lib
namespace L2
open PySem PySem.Spec PyProof.Rows PySem.Builtin PySem.Builtin.Str Tx
def nM:V->List V->Hp->VK->Prop:=λ x vs H Q=>∃i:Str,x=.str i/\vs=[.str (Y1 " "),.int 2]/\(Xs i ⟨#[32]⟩).length<=2/\0 < i.length/\i.length+2<=X2/\∀p,H p=none->Q (.ref p) (upd H p (.lst ((Xs i ⟨#[32]⟩).map V.str)))
theorem qp (x a:Str)(k:Int)(t u v:Tok)(c:(decide (k < -(2 ^ 63:Int)) || decide (k≥2 ^ 63))=false)
  (d:(decide (x.length < a.length) || decide (strKind x < strKind a))=false) (f:(a.length == 0)=false) (hf:(Xt x a 0 x.length (wj x k)).isEmpty=true):
  Meets («str.split» ⟨[.str x t,.str a u,.int k v],[]⟩) (listOfItself x t):=by
 obtain ⟨b,e⟩:=split_sep_max_tree x a k t u v c;refine .of_wp λ prog w A g s h=>?_
 rw [e,d,f,hf];show wpAny _ _ (rule "str.split.same-object" >>= _) _ _ s;exact Y3 (xD (Y3 (wpAny_newList (ZH ⟨_,rfl,h⟩) (by show 1<=X2;decide))))
theorem eG {X:Cx}:MtM X "str.split" nM:=by
 intro f s B H x vs v us Q m C D h;obtain ⟨i,rfl,rfl,hl,J,K,q⟩:=h;obtain ⟨t,rfl⟩:=C;obtain ⟨u,w,rfl,E,n⟩:=vals2 D;obtain ⟨t',rfl⟩:=E;obtain ⟨t2,rfl⟩:=n;have e1:(Y1 " ")=(⟨#[32]⟩:Str):=by decide+kernel
 rw [e1];have c:(decide (i.length < (⟨#[32]⟩:Str).length) || decide (WG i < WG ⟨#[32]⟩))=false:=by
  have k1:WG (⟨#[32]⟩:Str)=1:=by decide+kernel
  have k2:1<=WG i:=by
   unfold WG
   split
   ·exact YE _
   ·split<;>decide
  have k3:(⟨#[32]⟩:Str).length=1:=rfl;rw [k1,k3,decide_eq_false (by omega),decide_eq_false (by omega)]
  rfl
 have o:wj i 2=2:=rfl;have y:=Uv i ⟨#[32]⟩ (k:=2) (by omega)
 have d:∀(l:List (Str×Tok)) (tk:Nat),l.map (·.1)=Xs i ⟨#[32]⟩->l.length<=X2->(∀p∈l,p.2≠0)->1<=tk->EP X f B Q (.ref s.heap.objs.size) { s with heap:=s.heap.push { cls:=.type "list",data:=.seq (xi l).toArray },toks:=tk }:=λ l tk e hl z I=>by
  refine ⟨.ref s.heap.objs.size,_,?_,rfl,q _ m.fresh⟩;rw [<- e];exact m.lnew (Kv l z) (by rw [Y6,Y6];exact hl)
 cases hf:(Xt i ⟨#[32]⟩ 0 i.length (i.length+1)).isEmpty
 ·have g:Xs i ⟨#[32]⟩=zL i (Xt i ⟨#[32]⟩ 0 i.length (i.length+1)) (⟨#[32]⟩:Str).length:=(if_neg (ne_true_of_eq_false c)).trans (if_neg (ne_true_of_eq_false hf));have A:(Xt i ⟨#[32]⟩ 0 i.length (i.length+1)).length<=2:=by
   rw [g,length_partsBetween] at hl;omega
  have j:Xt i ⟨#[32]⟩ 0 i.length (wj i 2)=Xt i ⟨#[32]⟩ 0 i.length (i.length+1):=by rw [o,y,JU A]
  have b:(Xt i ⟨#[32]⟩ 0 i.length (wj i 2)).isEmpty=false:=by rw [j];exact hf
  refine zQ XO (zz _ _ _) xb (yO _ _ _) (meets_str_split_sep_max i ⟨#[32]⟩ 2 t t' t2 (by decide) c rfl b (by omega) (by rw [j,<- g];exact U2 hl (by decide))) ?_
  show wants _ _ _ { s with toks:=_,heap:=s.heap.push { cls:=.type "list",data:=.seq (strsFrom s.toks (zL i (Xt i ⟨#[32]⟩ 0 i.length (wj i 2)) (⟨#[32]⟩:Str).length)).toArray } }
  rw [j,<- g,strsFrom_eq];refine d (numbered s.toks _) _ (xx _ _) ?_ (Jc _ _ m.tk) (by have:=m.tk;omega)
  have:=congrArg Qf (xx s.toks (Xs i ⟨#[32]⟩));rw [Y6] at this;rw [this];exact U2 hl (by decide)
 ·have b:(Xt i ⟨#[32]⟩ 0 i.length (wj i 2)).isEmpty=true:=by
   rw [o,y];cases e:Xt i ⟨#[32]⟩ 0 i.length (i.length+1) with
   | nil=>rfl
   | cons a r=>rw [e] at hf;cases hf
  exact zQ XO (zz _ _ _) xb (yO _ _ _) (qp i ⟨#[32]⟩ 2 t t' t2 (by decide) c rfl b)
   (d [(i,t)] s.toks ((if_neg (ne_true_of_eq_false c)).trans (if_pos hf)).symm (by show 1<=X2;decide) (λ p G=>by rw [Zu.mp G];exact t.2) m.tk)
end L2
namespace Tx
open PySem PySem.Builtin PySem.Builtin.Str L2 Lib Fr Op PySem.NumText
def Cj (c:Nat)(a l:List Nat):List Nat:=l.flatMap λ k=>if k=c then a else [k]
theorem sS (c:Nat)(a:List Nat):Cj c a []=[]:=rfl
theorem G5 (c:Nat)(a:List Nat)(k:Nat)(l:List Nat):Cj c a (k::l)=(if k=c then a else [k])++Cj c a l:=rfl
def inter (c:List Nat):List (List Nat)->List Nat
 | []=>[]
 | [a]=>a
 | a::b::r=>a++c++inter c (b::r)
theorem bJ (b a:List Nat)(k:Nat)(r:List (List Nat)):inter b ((k::a)::r)=k::inter b (a::r):=by
 cases r<;>rfl
theorem Lk (c:Nat)(l:List Nat):∃p ps,cut c l=p::ps:=by
 cases e:cut c l with
 | nil=>exact absurd e (ZM c l)
 | cons p ps=>exact ⟨p,ps,rfl⟩
theorem P0 (c:Nat)(a:List Nat):∀l:List Nat,inter a (cut c l)=Cj c a l
 | []=>rfl
 | k::l=>by
  have b:=P0 c a l;obtain ⟨p,ps,e⟩:=Lk c l;rw [G5,<- b];by_cases h:k=c
  ·rw [cut,if_pos h,if_pos h,e];rfl
  ·rw [cut,if_neg h,if_neg h,e,bJ];rfl
theorem Ve (a:Y2):∀b:List Y2,cl (XI a b)=inter (cl a) (b.map cl)
 | []=>rfl
 | [t]=>rfl
 | t::u::r=>by
  show cl (t++a++XI a (u::r))=_;rw [Bh,Bh,Ve a (u::r)];rfl
theorem ZP (x j:Y2)(c:Nat)(k1:WG (⟨#[c]⟩:Y2)=1):cl (XT x ⟨#[c]⟩ j)=Cj c (cl j) (cl x):=by
 rw [<- P0,<- Dr,<- Ve]
 congr 1
 have d:(⟨#[c]⟩:Y2).length=1:=rfl;unfold XT Xs;cases f:Xt x ⟨#[c]⟩ 0 x.length (x.length+1) with
 | nil=>
  simp only [List.isEmpty_nil,qo,if_true]
  split<;>rfl
 | cons i r=>
  rw [if_neg (by rw [d];simp)]
  have k:0 < x.length:=by
   cases e:x.length with
   | succ n=>omega
   | zero=>
    have l:=xA x ⟨#[c]⟩ 0 x.length (x.length+1);have h:=Dr x c;have:cl x=[]:=by
     have:(cl x).length=x.length:=by show x.cps.toList.length=_;rw [Jq];rfl
     rw [e] at this;exact List.eq_nil_of_length_eq_zero this
    rw [this] at h;have g:(decide (x.length < (⟨#[c]⟩:Y2).length) || decide (WG x < WG ⟨#[c]⟩))=true:=by rw [e,d];rfl
    exfalso;have q:Xt x ⟨#[c]⟩ 0 x.length (x.length+1)=[]:=by
     rw [e];obtain ⟨⟨xs⟩⟩:=x;cases xs with
     | nil=>rw [PySem.StrLaws.occ_eq];rfl
     | cons a b=>cases e
    rw [q] at f;cases f
  have g:(decide (x.length < (⟨#[c]⟩:Y2).length) || decide (WG x < WG ⟨#[c]⟩))=false:=by
   have k2:1<=WG x:=by
    unfold WG
    split
    ·exact YE _
    ·split<;>decide
   rw [d,k1];simp only [Bool.or_eq_false_iff,decide_eq_false_iff_not];omega
  rw [g,if_neg (by simp),if_neg (by simp)]
  exact qS _ _
theorem bB {c:Nat}:∀{a:List Nat} (m:List Nat),c∉a->∀p ps,cut c m=p::ps->cut c (a++m)=(a++p)::ps
 | [],m,_,p,ps,e=>e
 | k::a,m,h,p,ps,e=>by
  have b:¬ k=c:=λ q=>h (by rw [q];exact ZU ..)
  show cut c (k::(a++m))=_;rw [cut,if_neg b,bB m (λ q=>h (Ya _ q)) p ps e]
  rfl
theorem Wd {c:Nat}{f:List Nat}(b:c≠32)(d:32∉f):∀l:List Nat,cut 32 (Cj c f l)=(cut 32 l).map (Cj c f)
 | []=>rfl
 | k::l=>by
  have a:=Wd b d l;obtain ⟨p,ps,e⟩:=Lk 32 l;rw [e,YV] at a;rw [G5];by_cases h:k=32
  ·have:¬ k=c:=λ q=>b (q.symm.trans h)
   rw [if_neg this];show cut 32 (k::Cj c f l)=_;rw [cut,if_pos h,cut,if_pos h,a,e];rfl
  ·have e2:cut 32 (k::l)=(k::p)::ps:=by rw [cut,if_neg h,e]
   rw [e2,YV,G5];refine bB _ ?_ _ _ a
   split
   ·exact d
   ·simp [WU h]
theorem qL {x a:Y2}{c:Nat}(k1:WG (⟨#[c]⟩:Y2)=1)(b:c≠32)(d:32∉cl a):(Xs (XT x ⟨#[c]⟩ a) ⟨#[32]⟩).map cl=(cut 32 (cl x)).map (Cj c (cl a)):=by
 rw [Dr,ZP _ _ _ k1,Wd b d]
theorem Pr {c:Nat}{d l:List Nat}(h:c∉l):Cj c d l=l:=by
 induction l with
 | nil=>rfl
 | cons k l a=>
  have b:¬ k=c:=λ q=>h (by rw [q];exact ZU ..)
  rw [G5,if_neg b,a λ q=>h (Ya _ q)]
  rfl
theorem nO (c:Nat)(a:List Nat):Cj c a [c]=a:=by
 rw [G5,if_pos rfl,sS,UB]
theorem rJ {c k:Nat}{a l:List Nat}(h:k∈l)(n:k≠c):k∈Cj c a l:=by
 unfold Cj;exact List.mem_flatMap.mpr ⟨k,h,by rw [if_neg n];exact Zu.mpr rfl⟩
end Tx
namespace Lib
open PySem L2 Fr Op Tx
def Ge (u:Str):Option (Nat×Nat):=
 if u=Ac "join" then some (3,0) else if u=Ac "turn" then some (2,0) else if u=Ac "show" then some (1,0) else if u=Ac "walk" then some (1,2) else if u=Ac "table" then some (1,0) else
 if u=Ac "apart" then some (1,0) else if u=Ac "image" then some (1,1) else if u=Ac "field" then some (1,4) else if u=Ac "sharp" then some (1,5) else if u=Ac "rounds" then some (1,0) else none
def WP (w:Str)(r:List Str):Prop:=∀a b,Ge w=some (a,b)->r.length=a+b->(∃c∈r.take a,nameB c=false)\/(∃c∈r.drop a,numOf c=none)\/(w=Ac "sharp"/\∃c q,(r.drop a)[4]?=some c/\numOf c=some q/\q < 0)
def Ju (a:List Str):Prop:=∃w r,a=w::r/\((w=Ac "bench"/\(r.length < 2\/∃c b,r=c::b/\nameB c=false))\/(w≠Ac "bench"/\WP w r))
def badK:List Nat:=[10,45,49]++(UP 26).map (·+65)
theorem o6:∀k∈badK,Gp ⟨#[k]⟩=false:=by decide+kernel
def NN (l:List Nat):Bool:=l.isEmpty || l.any (λ k=>badK.contains k) || decide (8 < l.length)
theorem YS {x:Str}(h:NN (cl x)=true):nameB x=false:=by
 cases e:nameB x with
 | false=>rfl
 | true=>
  unfold nameB at e;obtain ⟨e1,e2⟩:=XY.mp e;obtain ⟨c,d⟩:=XY.mp e1;have g:1<=x.length:=of_decide_eq_true c;have i:x.length<=8:=of_decide_eq_true d;have a:(cl x).length=x.length:=Dq x;unfold NN at h;rcases WV.mp h with h | h
  ·rcases WV.mp h with h | h
   ·rw [uT] at h;rw [h] at a;exact absurd a (by simp;omega)
   ·obtain ⟨k,f,hb⟩:=zY.mp h;have b:=zX.mp e2 ⟨#[k]⟩ (Jb.mpr ⟨k,f,rfl⟩);rw [o6 k (by simpa using hb)] at b
    cases b
  ·have:=of_decide_eq_true h;omega
def GZ (a:List Nat)(w:List Nat):Bool:=w.all λ k=>!a.contains k
def Hz (a:List Nat)(w:List Nat):Bool:=w.isEmpty || w.any (λ k=>badK.contains k && !a.contains k) || (a.contains 66 && w == [66])
def O9:List Nat:=[98,101,110,99,104]
def Ry:List Nat:=[115,104,97,114,112]
def negC:List (List Nat):=[[45,49],[45,49,47,50],[45,49,47,55]]
def Iv (d:List Nat):List (List Nat)->Bool
 | []=>false
 | w::r=>r.isEmpty || (GZ d w && (if w=O9 then decide (r.length < 2) || (match r with | []=>true | c::_=>Hz d c) else
   match Ge ⟨w.toArray⟩ with
   | none=>true
   | some (a,b)=>!decide (r.length=a+b) || (r.take a).any (Hz d) || (r.drop a).any (λ c=>GZ d c && !Hs c) || (decide (w=Ry) && (match (r.drop a)[4]? with | some c=>GZ d c && negC.contains c | none=>false))))
structure Itp (S:List Nat)(s:List Nat->List Nat):Prop where
 fix:∀w,GZ S w=true->s w=w
 mem:∀w k,k∈w->S.contains k=false->k∈s w
 bad:S.contains 66=true->NN (s [66])=true
theorem Itp.sure {b:List Nat}{s:List Nat->List Nat}(i:Itp b s){w:List Nat}(h:Hz b w=true):NN (s w)=true:=by
 unfold Hz at h;rcases WV.mp h with h | h
 ·rcases WV.mp h with h | h
  ·rw [uT] at h;subst h;rw [i.fix [] rfl];rfl
  ·obtain ⟨k,a,hb⟩:=zY.mp h;obtain ⟨b1,b2⟩:=XY.mp hb;have hm:=i.mem w k a (by simpa using b2)
   unfold NN;rw [WV];refine .inl (WV.mpr (.inr (zY.mpr ⟨k,hm,b1⟩)))
 ·obtain ⟨b1,b2⟩:=XY.mp h;have e:w=[66]:=by simpa using b2
  subst e;exact i.bad b1
theorem mY {u:Str}{a b:Nat}(h:Ge u=some (a,b)):1<=a:=by
 unfold Ge at h
 repeat (split at h;· injection h with h;injection h with c d;omega)
 cases h
theorem neg_num {x:Str}(h:negC.contains (cl x)=true):∃q,numOf x=some q/\q < 0:=by
 have a:∀q:Rat,Short q->q < 0->cl x=cl (Am q)->∃q,numOf x=some q/\q < 0:=λ q b c e=>⟨q,by rw [show x=Am q from ext e];exact Vv b,c⟩
 have m:cl x∈negC:=by simpa using h
 unfold negC at m;rcases ZT.mp m with m | m
 ·exact a (-1) ⟨by decide,by decide⟩ (by decide) (by rw [m];decide+kernel)
 rcases ZT.mp m with m | m
 ·exact a (-1/2) ⟨by decide+kernel,by decide+kernel⟩ (by decide+kernel) (by rw [m];decide+kernel)
 ·rw [Zu] at m;exact a (-1/7) ⟨by decide+kernel,by decide+kernel⟩ (by decide+kernel) (by rw [m];decide+kernel)
theorem v4 {D:List Nat}{s:List Nat->List Nat}(i:Itp D s){u:List (List Nat)}(h:Iv D u=true){v:List Str}(e:v.map cl=u.map s):Ju v:=by
 cases u with
 | nil=>cases h
 | cons w r=>
  cases v with
  | nil=>cases e
  | cons c d=>
   rw [YV,YV] at e
   injection e with e1 e2
   have o:d.length=r.length:=by
    have:=congrArg Qf e2;rw [Y6,Y6] at this;exact this
   have E:cl (Ac "bench")=O9:=by decide+kernel
   unfold Iv at h;rcases WV.mp h with h | h
   ·rw [uT] at h;subst h;have U:d.length=0:=o;by_cases hb:c=Ac "bench"
    ·exact ⟨c,d,rfl,.inl ⟨hb,.inl (by omega)⟩⟩
    ·exact ⟨c,d,rfl,.inr ⟨hb,λ a b f l=>absurd (mY f) (by omega)⟩⟩
   ·obtain ⟨f,h⟩:=XY.mp h;have p:cl c=w:=e1.trans (i.fix w f);by_cases hb:w=O9
    ·rw [if_pos hb] at h;have y:c=Ac "bench":=ext (by rw [p,hb,E])
     refine ⟨c,d,rfl,.inl ⟨y,?_⟩⟩;rcases WV.mp h with h | h
     ·exact .inl (by rw [o];exact of_decide_eq_true h)
     ·cases r with
      | nil=>exact .inl (by rw [o];decide)
      | cons g V=>
       cases d with
       | nil=>cases o
       | cons J F=>
        rw [YV,YV] at e2
        injection e2 with K W
        exact .inr ⟨J,F,rfl,YS (by rw [K];exact i.sure h)⟩
    ·rw [if_neg hb] at h;have y:c≠Ac "bench":=λ L=>hb (by rw [<- p,L,E])
     refine ⟨c,d,rfl,.inr ⟨y,λ a b hf hl=>?_⟩⟩
     have M:(⟨w.toArray⟩:Str)=c:=ext (by rw [p])
     rw [M,hf] at h;have h:(!decide (r.length=a+b) || (r.take a).any (Hz D) || (r.drop a).any (λ g=>GZ D g && !Hs g) || (decide (w=Ry) && (match (r.drop a)[4]? with | some g=>GZ D g && negC.contains g | none=>false)))=true:=h
     rw [decide_eq_true (show r.length=a+b by omega)] at h
     have N:(d.take a).map cl=(r.take a).map s:=by rw [Fh,Fh,e2]
     have G:(d.drop a).map cl=(r.drop a).map s:=by rw [Fk,Fk,e2]
     have j:∀{xs:List Str} {z:List (List Nat)} {g:List Nat},xs.map cl=z.map s->g∈z->∃x∈xs,cl x=s g:=λ {xs z g} q m=>by
      have:s g∈xs.map cl:=by rw [q];exact Jb.mpr ⟨g,m,rfl⟩
      obtain ⟨x,k,n⟩:=Jb.mp this;exact ⟨x,k,n⟩
     rcases WV.mp h with h | h
     ·rcases WV.mp h with h | h
      ·rw [show (!true)=false from rfl,ua] at h
       obtain ⟨g,m,A⟩:=zY.mp h;obtain ⟨x,k,n⟩:=j N m;exact .inl ⟨x,k,YS (by rw [n];exact i.sure A)⟩
      ·obtain ⟨g,m,A⟩:=zY.mp h;obtain ⟨B,C⟩:=XY.mp A;obtain ⟨x,k,n⟩:=j G m;exact .inr (.inl ⟨x,k,uQ (by rw [n,i.fix g B];simpa using C)⟩)
     ·obtain ⟨O,t⟩:=XY.mp h;have P:w=Ry:=of_decide_eq_true O;have H:c=Ac "sharp":=ext (by rw [p,P];decide+kernel)
      cases q:(r.drop a)[4]? with
      | none=>rw [q] at t;cases t
      | some g=>
       rw [q] at t;obtain ⟨B,C⟩:=XY.mp t;have I:((d.drop a).map cl)[4]?=some (s g):=by rw [G,YA,q];rfl
       rw [YA] at I;obtain ⟨x,Q,R⟩:=UK.mp I;obtain ⟨L,S,T⟩:=neg_num (x:=x) (by rw [R,i.fix g B];exact C)
       exact .inr (.inr ⟨H,x,L,Q,S,T⟩)
def jN (C:Addr):Sp:=λ vs H Q E=>∃x:Str,vs=[.str x]/\x.length<=10000/\(nameB x=true->∀a,Same H a->Q .non a)/\(nameB x=false->∀a,Same H a->E (.ref C) none a)
def jM (C:Addr):Sp:=λ vs H _ E=>∃(l:Addr) (w:Str) (r:List Str),vs=[.ref l]/\H l=some (.lst ((w::r).map V.str))/\WP w r/\r.length<=10000/\(∀x∈r,x.length<=10000)/\∀a,Same H a->E (.ref C) none a
theorem JP {c:Nat}:∀{l:List Nat},∀p∈cut c l,c∉p
 | [],p,h=>by rw [Zu.mp h];exact WE
 | k::l,p,h=>by
  obtain ⟨q,qs,e⟩:=Lk c l;by_cases a:k=c
  ·rw [cut,if_pos a] at h;rcases ZT.mp h with rfl | h
   ·exact WE
   ·exact JP p h
  ·rw [cut,if_neg a,e] at h;rcases ZT.mp h with rfl | h
   ·intro m;rcases ZT.mp m with m | m
    ·exact a m.symm
    ·exact JP q (by rw [e];exact ZU ..) m
   ·exact JP p (by rw [e];exact Ya _ h)
theorem sub_self (c:Nat)(l:List Nat):Cj c [c] l=l:=by
 induction l with
 | nil=>rfl
 | cons k l a=>
  rw [G5,a]
  split
  ·rename_i h;rw [h];rfl
  ·rfl
theorem uZ {t a b c:Str}{r:List Str}(h:Xs t ⟨#[32]⟩=a::b::c::r):∃st:Str,cl t=cl a++32::(cl b++32::cl st)/\32∉cl a/\32∉cl b:=by
 have e:=Dr t 32;rw [h] at e;have e:cut 32 (cl t)=cl a::cl b::cl c::r.map cl:=e.symm;have i:=P0 32 [32] (cl t);rw [sub_self,e] at i;refine ⟨⟨(inter [32] (cl c::r.map cl)).toArray⟩,?_,JP _ (by rw [e];exact ZU ..),JP _ (by rw [e];exact Ya _ (ZU ..))⟩
 rw [<- i];show cl a++[32]++(cl b++[32]++inter [32] (cl c::r.map cl))=cl a++32::(cl b++32::inter [32] (cl c::r.map cl));simp
theorem Ng {t x:Str}(h:x∈Xs t ⟨#[32]⟩):x.length<=t.length:=uX h
def Mw (K:FrG)(H:Hp)(v:V):Prop:=(∃d,DV K H v d/\Io d=false)\/∃t:Str,v=.str t/\Ju (Xs t ⟨#[32]⟩)/\t.length<=10000
def n6 (K:FrG)(C N:Addr):Sp:=λ vs H _ E=>∃(o dx d:Addr) (q:List Addr) (x:Str) (a:Cm) (n:Nat),vs=[.ref o,.str x]/\DkA K H q C o dx d a n/\a x=none/\E (.ref N) none H
def cJ (N:Addr):Sp:=λ vs H _ E=>∃(v:V) (t:Str) (r:List Str),vs=[v,.str t]/\Xs t ⟨#[32]⟩=Ac "bench"::r/\(r.length < 2\/∃c b,r=c::b/\nameB c=false)/\t.length<=10000/\∀a,Same H a->E (.ref N) none a
def m7 (K:FrG)(C N:Addr):Sp:=λ vs H _ E=>∃(o dx d:Addr) (q:List Addr) (v:V) (b:Cm) (n:Nat),vs=[.ref o,v]/\DkA K H q C o dx d b n/\Mw K H v/\∀a,Same H a->E (.ref N) none a
def rB (K:FrG)(C N:Addr):Sp:=λ vs H _ E=>∃(o dx d:Addr) (q:List Addr) (x:Str) (b:Cm) (n:Nat),vs=[.ref o,.str (G7 (Ac "show") x [])]/\DkA K H q C o dx d b n/\Nm x/\b x=none/\∀a,Same H a->E (.ref N) none a
theorem nA {t:Str}{r:List Str}(h:Xs t ⟨#[32]⟩=Ac "bench"::r):0 < t.length:=by
 have:=Ng (t:=t) (x:=Ac "bench") (by rw [h];exact ZU ..)
 rw [show (Ac "bench").length=5 by decide+kernel] at this
 omega
theorem aL (c:Nat):∀l:List Nat,(cut c l).length<=l.length+1
 | []=>YE _
 | k::l=>by
  have a:=aL c l;obtain ⟨p,ps,e⟩:=Lk c l;rw [e] at a;by_cases h:k=c
  ·rw [cut,if_pos h,e];simp only [U1] at a ⊢;omega
  ·rw [cut,if_neg h,e];simp only [U1] at a ⊢;omega
theorem uy (t:Str):(Xs t ⟨#[32]⟩).length<=t.length+1:=by
 have e:=congrArg Qf (Dr t 32);rw [Y6] at e;rw [e,<- Dq];exact aL 32 (cl t)
def pZ (N U:Addr):Addr->Sp:=λ ex vs H Q _=>∃(d:Option Addr) (b:Str),vs=[.ref ex]/\((HX H ex N d/\b=Ac "row")\/(HX H ex U d/\b=Ac "unknown"))/\∀l a,Same H a->a l=some (.lst [.str b])->Q (.ref l) a
def gB (K:FrG)(C:Addr):Sp:=λ vs H Q _=>∃(o dx d:Addr) (q:List Addr) (v:V) (c:Cm) (n:Nat) (b:Str),vs=[.ref o,v]/\DkA K H q C o dx d c n/\((Mw K H v/\b=Ac "row")\/(∃x,v=.str (G7 (Ac "show") x [])/\Nm x/\c x=none/\b=Ac "unknown"))/\∀l a,Same H a->a l=some (.lst [.str b])->Q (.ref l) a
def wordsL:List Str:=[Ac "",Ac " ",Ac "bench",Ac "bench N",Ac "show",Ac "show N 1",Ac "show  N",Ac " show N",Ac "shows N",Ac "Show N",Ac "show N ",Ac "N"]++
 [Ac "walk N",Ac "walk N 1",Ac "walk N 1 2 3",Ac "table",Ac "table N N",Ac "apart",Ac "apart N 1",Ac "image N"]++
 [Ac "image N 1 2",Ac "field N 0 1 0",Ac "field N 0 1 0 1 2",Ac "rounds",Ac "sharp N 0 1 0 1",Ac "image 1"]++
 [Ac "join W N",Ac "turn N",Ac "join W N N N",Ac "turn W N 1",Ac "names",Ac "walk N  1 2",Ac "bench  gap 1"]++
 [Ac "rounds N N",Ac "sharp N 0 1 0 1 2 3",Ac "show\tN",Ac "show N\n",Ac "rounds\tN"]++
 [Ac "drop N",Ac "walk\nN",Ac "join",Ac "turn",Ac "bench W",Ac "field N",Ac "sharp N",Ac "image",Ac "walk"]
def namesL:List Str:=[Ac "bench B gap 1",Ac "show B",Ac "join B N N",Ac "rounds B",Ac "join W B N",Ac "join W N B",Ac "turn B N",Ac "turn W B"]++
 [Ac "walk B 1 2",Ac "image B 1",Ac "bench B oops",Ac "table B",Ac "apart B",Ac "field B 0 1 0 1"]++[Ac "sharp B 0 1 0 1 1"]
def someL:List Str:=[Ac "01",Ac "+1",Ac "-0",Ac "1/1",Ac "2/4",Ac "1/0",Ac "1.5",Ac "a",zU (Ac "1") 16,Ac "--1",Ac "1/-2",Ac "1_0",Ac "/2"]++[Ac "1/"++zU (Ac "3") 16]
def numsL:List Str:=[Ac "walk N B 1",Ac "walk N 1 B",Ac "image N B",Ac "field N 0 1 0 B",Ac "sharp N 0 1 0 1 B",Ac "sharp N 0 B 0 1 1"]
def mostL:List Str:=[Ac "sharp N 0 1 0 1 -1",Ac "sharp N 0 1 1 0 -1/2",Ac "sharp N 0 1 0 1 -1/7"]
def Tm (t:Str):Prop:=Iv [78,87] (cut 32 (cl t))=true/\t.length<=100
def Og (t:Str):Prop:=Iv [78,87,66] (cut 32 (cl t))=true/\t.length<=100
theorem cN:∀t∈wordsL,Tm t:=by unfold Tm;decide+kernel
theorem fj:∀t∈namesL,Og t:=by unfold Og;decide+kernel
theorem mU:∀t∈mostL,Tm t:=by unfold Tm;decide+kernel
theorem Ym:∀t∈numsL,Tm t:=by unfold Tm;decide+kernel
theorem pA:∀t∈numsL,∀a∈someL,Tm (XT t (Ac "B") a):=by unfold Tm;decide+kernel
def By (s:List Nat->List Nat)(a t:Str):Prop:=cut 32 (cl t)=(cut 32 (cl a)).map s
theorem By.refl (t:Str):By id t t:=by unfold By;simp
theorem By.rep {s:List Nat->List Nat}{a t d:Str}{c:Nat}(b:By s a t)(k1:WG (⟨#[c]⟩:Str)=1)(f:c≠32)(g:32∉cl d):By (λ w=>Cj c (cl d) (s w)) a (XT t ⟨#[c]⟩ d):=by
 have e:=qL (x:=t) k1 f g;rw [Dr] at e;unfold By at b ⊢;rw [e,b,xr];rfl
theorem By.row {c:List Nat}{s:List Nat->List Nat}{a t:Str}(b:By s a t)(i:Itp c s)(h:Iv c (cut 32 (cl a))=true):Ju (Xs t ⟨#[32]⟩):=v4 i h (by rw [Dr];exact b)
structure Rd (S:List Nat)(s:List Nat->List Nat):Prop where
 fix:∀w,GZ S w=true->s w=w
 mem:∀w k,k∈w->S.contains k=false->k∈s w
theorem Rd.id (a:List Nat):Rd a id:=⟨λ _ _=>rfl,λ _ _ h _=>h⟩
theorem Rd.rep {b:List Nat}{s:List Nat->List Nat}(r:Rd b s){c:Nat}(d:List Nat)(a:b.contains c=true):Rd b (λ w=>Cj c d (s w)):=by
 refine ⟨λ w h=>?_,λ w k h n=>rJ (r.mem w k h n) λ e=>?_⟩
 ·show Cj c d (s w)=w;rw [r.fix w h];refine Pr λ m=>?_
  have:=zX.mp h c m;rw [a] at this;cases this
 ·rw [e,a] at n;cases n
theorem Rd.itp {a:List Nat}{s:List Nat->List Nat}(r:Rd a s)(h:a.contains 66=true->NN (s [66])=true):Itp a s:=⟨r.fix,r.mem,h⟩
def Dm (t:Str):Prop:=Ju (Xs t ⟨#[32]⟩)/\t.length<=10000
theorem vf {c:Nat}{e l:List Nat}{n:Nat}(a:e.length<=n)(b:1<=n):(Cj c e l).length<=l.length * n:=by
 induction l with
 | nil=>exact JI _
 | cons k l d=>
  rw [G5,ZA,U1,Nat.add_mul,Nat.one_mul,wc];refine Nat.add_le_add d ?_
  split
  ·exact a
  ·exact b
theorem Hc {t d:Str}{c n:Nat}(k1:WG (⟨#[c]⟩:Str)=1)(a:d.length<=n)(b:1<=n):(XT t ⟨#[c]⟩ d).length<=t.length * n:=by
 rw [<- Dq,ZP _ _ _ k1,<- Dq t];exact vf a b
theorem kN:WG (⟨#[78]⟩:Str)=1:=by decide+kernel
theorem kW:WG (⟨#[87]⟩:Str)=1:=by decide+kernel
theorem kB:WG (⟨#[66]⟩:Str)=1:=by decide+kernel
theorem VG {t x b:Str}(h:Tm t)(nx:Nm x)(a:Nm b):Dm t/\Dm (XT t ⟨#[78]⟩ x)/\Dm (XT t ⟨#[87]⟩ b)/\Dm (XT (XT t ⟨#[78]⟩ x) ⟨#[87]⟩ b)/\(XT t ⟨#[78]⟩ x).length<=1000:=by
 obtain ⟨hb,hl⟩:=h;have c0:∀{s},Rd [78,87] s->Itp [78,87] s:=λ r=>r.itp λ e=>by cases e
 have c:(XT t ⟨#[78]⟩ x).length<=800:=U2 (Hc kN nx.len (by decide)) (by omega)
 have d:(XT t ⟨#[87]⟩ b).length<=800:=U2 (Hc kW a.len (by decide)) (by omega)
 have f:(XT (XT t ⟨#[78]⟩ x) ⟨#[87]⟩ b).length<=6400:=U2 (Hc kW a.len (by decide)) (by omega)
 have b1:=(By.refl t).rep kN (by decide) nx.no
 refine ⟨⟨(By.refl t).row (c0 (.id _)) hb,by omega⟩,⟨b1.row (c0 ((Rd.id _).rep _ rfl)) hb,by omega⟩,⟨((By.refl t).rep kW (by decide) a.no).row (c0 ((Rd.id _).rep _ rfl)) hb,by omega⟩,⟨(b1.rep kW (by decide) a.no).row (c0 (((Rd.id _).rep _ rfl).rep _ rfl)) hb,by omega⟩,by omega⟩
theorem f9:32∉cl (Ac "w"):=by decide+kernel
theorem lV {t x b:Str}(h:Og t)(nx:Nm x)(g:NN (cl b)=true)(bn:32∉cl b)(bl:b.length<=9):
  ∀t1∈[t,XT t ⟨#[78]⟩ x],t1.length<=800/\∀t2∈[t1,XT t1 ⟨#[87]⟩ (Ac "w")],t2.length<=800/\Dm t2/\Dm (XT t2 ⟨#[66]⟩ b):=by
 obtain ⟨hb,hl⟩:=h;have a:∀{s t2},By s t t2->Rd [78,87,66] s->s [66]=[66]->t2.length<=800->t2.length<=800/\Dm t2/\Dm (XT t2 ⟨#[66]⟩ b):=λ {s t2} b2 r e l=>by
  refine ⟨l,⟨b2.row (r.itp λ _=>by rw [e];decide+kernel) hb,by omega⟩,⟨(b2.rep kB (by decide) bn).row ((r.rep _ rfl).itp λ _=>?_) hb,U2 (Hc kB bl (by decide)) (by omega)⟩⟩
  show NN (Cj 66 (cl b) (s [66]))=true;rw [e,nO];exact g
 have i:(Ac "w").length<=1:=by decide+kernel
 have two:∀{s t1},By s t t1->Rd [78,87,66] s->s [66]=[66]->t1.length<=800->∀t2∈[t1,XT t1 ⟨#[87]⟩ (Ac "w")],t2.length<=800/\Dm t2/\Dm (XT t2 ⟨#[66]⟩ b):=λ {s t1} b1 r e l t2 c=>by
  rcases ZT.mp c with rfl | c
  ·exact a b1 r e l
  ·rw [Zu.mp c];refine a (b1.rep kW (by decide) f9) (r.rep _ rfl) ?_ (U2 (Hc kW i (by decide)) (by omega))
   show Cj 87 _ (s [66])=_;rw [e,Pr (by decide)]
 intro t1 d;rcases ZT.mp d with rfl | d
 ·exact ⟨by omega,two (By.refl _) (.id _) rfl (by omega)⟩
 ·rw [Zu.mp d];have f:(XT t ⟨#[78]⟩ x).length<=800:=U2 (Hc kN nx.len (by decide)) (by omega)
  refine ⟨f,two ((By.refl _).rep kN (by decide) nx.no) ((Rd.id _).rep _ rfl) ?_ f⟩
  show Cj 78 _ [66]=_;rw [Pr (by decide)]
def gO:Sp:=λ vs H Q _=>vs=[]/\∀l a,Same H a->a l=some (.lst (wordsL.map V.str))->Q (.ref l) a
def iJ:Sp:=λ vs H Q _=>∃(c:Int),vs=[.int c]/\∀(l:Addr) (a:List Str) b,Same H b->b l=some (.lst (a.map V.str))->a.length=9->(∀t∈a,Tm t)->Q (.ref l) b
end Lib
namespace Lib
open PySem L2 Fr Op Tx PySem.Builtin.Str
structure UpOk (x:Str):Prop where
 nn:NN (cl (zg x))=true
 no:32∉cl (zg x)
 len:(zg x).length<=9
theorem rY:∀a:Fin 26,∀t:Fin 5,∀r:Fin 4,NN (cl (zg (Dt (a.val:Nat) (t.val:Nat) (r.val:Nat))))=true/\32∉cl (zg (Dt (a.val:Nat) (t.val:Nat) (r.val:Nat)))/\(zg (Dt (a.val:Nat) (t.val:Nat) (r.val:Nat))).length<=9:=by decide+kernel
theorem cX:∀i:Fin 4,NN (cl (zg (zU (Y1 "m") (1+((i.val:Nat):Int)))))=true/\32∉cl (zg (zU (Y1 "m") (1+((i.val:Nat):Int))))/\(zg (zU (Y1 "m") (1+((i.val:Nat):Int)))).length<=9:=by decide+kernel
theorem oO (a:Int){i:Int}(d:0<=i)(h:i < 4):UpOk (called a i):=by
 have b:NN (cl (zg (called a i)))=true/\32∉cl (zg (called a i))/\(zg (called a i)).length<=9:=by
  unfold called
  split
  ·have:=cX ⟨i.toNat,by omega⟩
   have e:((i.toNat:Nat):Int)=i:=by omega
   simp only [e] at this;exact this
  ·have:=rY ⟨((a / 24+5 * i) % 26).toNat,by omega⟩ ⟨(a / 3 % 5).toNat,by omega⟩ ⟨(a % 4).toNat,by omega⟩
   have e1:((((a / 24+5 * i) % 26).toNat:Nat):Int)=(a / 24+5 * i) % 26:=by omega
   have e2:(((a / 3 % 5).toNat:Nat):Int)=a / 3 % 5:=by omega
   have c:(((a % 4).toNat:Nat):Int)=a % 4:=by omega
   simp only [e1,e2,c] at this;exact this
 exact ⟨b.1,b.2.1,b.2.2⟩
theorem vZ {x:Str}{lo a:Option Int}{k:Nat}(h:k∈cl (UA x lo a)):k∈cl x:=by
 unfold UA at h
 split at h
 ·exact h
 ·have h:k∈List.filterMap (λ j=>x.cps[j]?) (Xy.Str.strSliceIndices lo a 1 x.length):=by simpa [cl] using h
  obtain ⟨j,_,b⟩:=yd.mp h;exact yx.mpr (Array.mem_of_getElem? b)
def KZ (x:Str):List Str:=[zg x,x++Ac "1",Ac "abcdefghi",Ac "a-b",Ac "1",UA x none (some 1)++Ac "\n"]
theorem Zq {l:List Nat}{k:Nat}(h:k∈l)(b:badK.contains k=true):NN l=true:=by
 unfold NN;rw [WV];exact .inl (WV.mpr (.inr (zY.mpr ⟨k,h,b⟩)))
theorem kJ {x:Str}(nx:Nm x)(u:UpOk x):∀b∈KZ x,NN (cl b)=true/\32∉cl b/\b.length<=9:=by
 intro b hb;unfold KZ at hb;have a:=nx.len;rcases ZT.mp hb with rfl | hb
 ·exact ⟨u.nn,u.no,u.len⟩
 rcases ZT.mp hb with rfl | hb
 ·have e:cl (x++Ac "1")=cl x++[49]:=by rw [Bh];rfl
  refine ⟨Zq (k:=49) (by rw [e];simp) (by decide+kernel),λ m=>?_,?_⟩
  ·rw [e] at m;rcases XA.mp m with m | m
   ·exact nx.no m
   ·cases Zu.mp m
  ·rw [<- Dq,e,ZA,Dq];show _+1<=9;omega
 rcases ZT.mp hb with rfl | hb
 ·decide+kernel
 rcases ZT.mp hb with rfl | hb
 ·decide+kernel
 rcases ZT.mp hb with rfl | hb
 ·decide+kernel
 ·rw [Zu.mp hb];have e:cl (UA x none (some 1)++Ac "\n")=cl (UA x none (some 1))++[10]:=by rw [Bh];rfl
  refine ⟨Zq (k:=10) (by rw [e];simp) (by decide+kernel),λ m=>?_,?_⟩
  ·rw [e] at m;rcases XA.mp m with m | m
   ·exact nx.no (vZ m)
   ·cases Zu.mp m
  ·have:=xp x none (some 1);rw [<- Dq,e,ZA,Dq];show _+1<=9;omega
def lq:Sp:=λ vs H Q _=>∃(c:Int) (x:Str),vs=[.int c,.str x]/\Nm x/\UpOk x/\∀(l:Addr) (a:List Str) b,Same H b->b l=some (.lst (a.map V.str))->a.length=15->(∀t∈a,Dm t)->Q (.ref l) b
def vU (K:FrG):Sp:=λ vs H Q _=>∃(b:Int) (x c:Str),vs=[.int b,.str x,.str c]/\0<=b/\Nm x/\UpOk x/\Nm c/\∀v a,Same H a->Mw K a v->Q v a
end Lib
namespace L2
open PySem PySem.Spec PyProof.Rows
section
variable {X:Cx}{c:Bool}{k:Nat}{sp:Sp}{x:Str}{p pos:Pos}{E:XK}
def bw (sp:Sp)(E:XK):TE:=λ _ H Q=>sp [] H Q E
theorem pI (C:CalB X.prog X.w X.K X.mg X.base c k x [] sp)(g:RoomB c k X.A)(i:Passes (Cz X.prog X.w) X E)(j:Gl X x:=by rfl)(b:(x == ("__debug__":Str))=false:=by decide):
  PE X (.Call (.Name x p) [] [] pos) (bw sp E):=by
 obtain ⟨f,fd,n,hm,l,hb⟩:=C.ex;intro a s m H Q d h;refine JO (EY d j hm ?_ b);refine xX d.kIn l ?_;exact HY n g hb d .nil h λ e s' h ht=>i a m H s e s' d h ht
end
end L2
namespace L2
open PySem PySem.Spec PyProof.Rows PySem.Builtin
section
variable {X:Cx}{K:FrG}{o e:Expr}{es:List Expr}{to:TE}{t:TA}{name:Str}{apos cpos:Pos}{T id:String}{r:V->List V->Hp->VK->Prop}
theorem LQ (g:PlainAttrs T)(slot:Slot T name id)(f:typeOf (.builtin id)=pure (.type "method_descriptor"))(hm:MtR X id r)(h:PE X o to)(ha:PA X (e::es) t)(i:X.K=K:=by rfl)
  (b:yn o name X.env (eval o X.env)=eval o X.env:=by rfl)
  (d:((QK cpos (YM (e::es) X.env)).all (λ x=>!x.1) && (wG cpos (yD [] X.env)).all (λ x=>x.1.isSome)
   && decide ((e::es).length+([]:List GS).length+(if ([]:List GS).isEmpty then 0 else 1) < 30))=true:=by rfl)
  (c:(apos.endLine == cpos.line)=true:=by rfl) (j:YM (e::es) X.env=(false,eval e X.env)::YM es X.env:=by rfl) (a:(QK cpos (YM es X.env)).any (·.1)=false:=by rfl):
  PE X (.Call (.Attribute o name apos) (e::es) [] cpos) (tBM K T r to t):=i▸Br g slot f hm h ha b d c j a
end
end L2
namespace L2
open PySem PySem.Spec PyProof.Rows PySem.Builtin PySem.Builtin.Str
section
variable {X:Cx}
def cM:V->List V->Hp->VK->Prop:=λ x vs H Q=>∃i b a,x=.str i/\vs=[.str b,.str a]/\i.length+(i.length+1) * a.length<=16777216/\Q (.str (XT i b a)) H/\Q (.str i) H
theorem Gy {K:FrG}(k:∀h:Heap,K.In h->xE h)(m:X.K=K:=by rfl):MtM X "str.replace" cM:=by
 intro n s y H x vs v us Q d o p h;obtain ⟨i,c,f,rfl,rfl,hb,a,g⟩:=h;obtain ⟨t,rfl⟩:=o;obtain ⟨z,A,rfl,⟨b,rfl⟩,⟨j,rfl⟩⟩:=vals2 p;have q:xE s.heap:=k _ (m▸d.kIn);have hl:wa (i.length+(Xt i c 0 i.length (i.length+1)).length * f.length)=false:=by
  have r:=xA i c 0 i.length (i.length+1);have B:(Xt i c 0 i.length (i.length+1)).length * f.length<=(i.length+1) * f.length:=QE _ r;have e:(2:Nat) ^ 24=16777216:=by decide
  unfold wa X2;exact decide_eq_false (by omega)
 have u:(b.1 == 0)=false:=beq_false_of_ne b.2;by_cases e:b.1=j.1
 ·rw [<- e];exact call_gives Ql (zz _ _ _) F.entry_str_replace (F.args_str_replace_3 _ _ _) (oX i c f t.1 b.1 u) ⟨.str i,H,d,⟨t,rfl⟩,g⟩
 ·refine call_givesAt Ql (zz _ _ _) F.entry_str_replace (F.args_str_replace_3 _ _ _) (gives_str_replace2 i c f t.1 b.1 j.1 λ _=>⟨by simp [b.2,j.2],by simp [e],hl⟩) q ?_
  unfold XT at a;cases l:((Xt i c 0 i.length (i.length+1)).isEmpty || (c.length == 0 && f.length == 0))
  ·rw [l] at a;simp only [QA,if_false] at a ⊢;cases w:(c == f)
   ·simp only [QA,if_false];exact ⟨fits_replaced c hb,.str _,H,d.tok _,⟨⟨_,WB d.tk⟩,rfl⟩,a⟩
   ·simp only [if_true];exact ⟨⟨.str i,H,d,⟨t,rfl⟩,g⟩,⟨fits_replaced c hb,.str _,H,d.tok _,⟨⟨_,WB d.tk⟩,rfl⟩,a⟩⟩
  ·rw [l] at a;simp only [if_true] at a ⊢;exact ⟨.str i,H,d,⟨t,rfl⟩,g⟩
end
end L2
namespace Lib
open PySem L2 Fr Op Tx
theorem gP:∀a:Fin 26,∀t:Fin 5,∀r:Fin 4,∀i:Fin 3,Dt (((a.val+15) % 26:Nat):Int) (t.val:Nat) (r.val:Nat)≠Dt (((a.val+5 * i.val) % 26:Nat):Int) (t.val:Nat) (r.val:Nat):=by decide+kernel
theorem rG:∀i:Fin 3,zU (Y1 "m") (1+3)≠zU (Y1 "m") (1+((i.val:Nat):Int)):=by decide+kernel
theorem n8 (a:Int){i:Nat}(h:i < 3):called a ((3:Nat):Int)≠called a (i:Int):=by
 unfold called
 split
 ·exact rG ⟨i,h⟩
 ·have:=gP ⟨(a / 24 % 26).toNat,by omega⟩ ⟨(a / 3 % 5).toNat,by omega⟩ ⟨(a % 4).toNat,by omega⟩ ⟨i,h⟩
  have e1:((((a / 24 % 26).toNat+15) % 26:Nat):Int)=(a / 24+5 * ((3:Nat):Int)) % 26:=by omega
  have e2:((((a / 24 % 26).toNat+5 * i) % 26:Nat):Int)=(a / 24+5 * (i:Int)) % 26:=by omega
  have b:(((a / 3 % 5).toNat:Nat):Int)=a / 3 % 5:=by omega
  have c:(((a % 4).toNat:Nat):Int)=a % 4:=by omega
  simp only [e1,e2,b,c] at this;exact this
def vJ (K:FrG)(C:Addr):Sp:=λ vs H Q _=>∃(q c:Addr) (g:List V) (b:Int),vs=[.ref q,.int b,.int 0]/\DrA H q c g/\0<=b/\b < 2147483647/\∀(r o dx d e lb:Addr) (h:Cm) (n:Nat) (bs:List Addr) (f:List (List Pc)) a,SD q H a->a r=some (.lst [.ref o,.ref e,.ref lb])->n<=3->Lw69 K a C o dx d e lb q c g h n b bs f->h (called b ((3:Nat):Int))=none->Q (.ref r) a
end Lib
namespace L2
open PySem PySem.Spec PyProof.Rows
end L2
namespace Lib
open PySem L2 Fr Op Tx
theorem jO {bs:List Addr}(m:Int)(h:(0:Int) < (((bs.map V.ref).length:Nat):Int)):∃j:Nat,m % (((bs.map V.ref).length:Nat):Int)=(j:Int)/\j < bs.length:=by
 have a:=Qy m (Int.ne_of_gt h);have b:=Jl m h;refine ⟨(m % (((bs.map V.ref).length:Nat):Int)).toNat,by omega,?_⟩
 rw [Y6] at a b ⊢;omega
end Lib
namespace L2
open PySem
def Rn (e:xg):Bool:=match e.key with | .str _ _=>true | _=>false
def oK (o:Option Obj):Bool:=match o with
 | some ⟨_,_,.dict a _,_⟩=>a.toList.all Rn && (nsFind a sharingNotToldKey).isNone
 | _=>false
theorem qj {K:FrG}(b:oK (K.lookup cStatics)=true):∀h:Heap,K.In h->xE h:=λ h X=>by
 cases e:K.lookup cStatics with
 | none=>rw [e] at b;cases b
 | some o=>
  rw [e] at b;have c:=X _ _ e;obtain ⟨cl,j,d,k⟩:=o;cases d with
  | dict a f=>
   have b:(a.toList.all Rn && (nsFind a sharingNotToldKey).isNone)=true:=b;obtain ⟨b1,b2⟩:=XY.mp b;refine ⟨λ l=>nsFind a l,⟨_,a,f,c,rfl,λ x g=>?_,λ _=>rfl⟩,Option.isNone_iff_eq_none.mp b2⟩
   have:=zX.mp b1 x (yx.mpr g);unfold Rn at this;cases i:x.key with
   | str n t=>exact ⟨n,t,rfl⟩
   | _=>rw [i] at this;cases this
  | _=>cases b
end L2
namespace K70
open PySem L2 Lib Fr Op
seal PE PT PW PA PS PSs PG PGs PI PO
def top (i:Nat):Stmt:=PySem.Challenge.pw_grindbench_k70_rows_that_are_none.main.body.getD i (.Pass ⟨0,0,0,0⟩)
abbrev Rr:Stmt:=top 12
theorem uP:FnScope ["thing"] ["thing"] (defScope Rr):=by walk_at "s"
abbrev Pj:Stmt:=top 13
theorem Gk:FnScope ["one","other","greater","lesser","rest"] ["one","other"] (defScope Pj):=by walk_at "s"
abbrev R7:Stmt:=top 14
theorem HJ:FnScope ["thing","top","bottom"] ["thing"] (defScope R7):=by walk_at "s"
abbrev Zz:Stmt:=top 15
abbrev Zf:Stmt:=top 16
abbrev Up:Stmt:=top 17
abbrev YJ:Stmt:=top 18
abbrev Y4:Stmt:=top 19
abbrev Sy:Stmt:=top 20
theorem bz:FnScope ["one","other"] ["one","other"] (defScope Sy):=by walk_at "s"
abbrev Iz:Stmt:=top 30
theorem dD:FnScope ["thing"] ["thing"] (defScope Iz):=by walk_at "s"
abbrev Vi:Stmt:=top 31
abbrev Qa:Stmt:=top 32
theorem Qh:FnScope ["bench","number","thing"] ["bench"] (defScope Qa):=by walk_at "s"
abbrev Ui:Stmt:=top 37
abbrev W0:Stmt:=top 38
abbrev Ys:Stmt:=top 39
abbrev Yk:Stmt:=top 40
abbrev aB:Stmt:=top 41
abbrev ZG:Stmt:=top 42
abbrev aa:Stmt:=top 44
abbrev W8:Stmt:=top 45
abbrev Wi:Stmt:=top 46
abbrev Wf:Stmt:=top 47
abbrev X7:Stmt:=top 48
abbrev WK:Stmt:=top 50
abbrev aq:Stmt:=top 51
abbrev Vs:Stmt:=top 52
abbrev Xq:Stmt:=top 53
abbrev U7:Stmt:=top 55
abbrev ZL:Stmt:=top 57
abbrev Ti:Stmt:=top 58
abbrev XJ:Stmt:=top 59
abbrev ZC:Stmt:=top 60
abbrev Vf:Stmt:=top 61
abbrev Vl:Stmt:=top 62
abbrev Yw:Stmt:=top 63
abbrev Tj:Stmt:=top 64
abbrev QD:Stmt:=top 68
theorem Oj:FnScope ["one","top","bottom"] ["one"] (defScope QD):=by walk_at "s"
abbrev RB:Stmt:=top 69
theorem YB:FnScope ["text"] ["text"] (defScope RB):=by walk_at "s"
abbrev Fy:Stmt:=top 71
theorem Dy:FnScope ["text","is_below","parts","top","bottom","one"] ["text"] (defScope Fy):=by walk_at "s"
abbrev Z0:Stmt:=top 73
abbrev Wh:Stmt:=top 74
abbrev Yx:Stmt:=top 75
abbrev Yl:Stmt:=top 77
abbrev Yo:Stmt:=top 78
abbrev X6:Stmt:=top 79
abbrev W7:Stmt:=top 80
abbrev YH:Stmt:=top 81
abbrev Vg:Stmt:=top 82
abbrev Z4:Stmt:=top 83
abbrev aj:Stmt:=top 84
abbrev Rf:Stmt:=top 88
theorem dZ:FnScope ["thing"] ["thing"] (defScope Rf):=by walk_at "s"
abbrev Y7:Stmt:=top 90
abbrev Xp:Stmt:=top 93
abbrev Tn:Stmt:=top 98
abbrev RX:Stmt:=top 107
theorem Pz:FnScope ["text","words","word"] ["text"] (defScope RX):=by walk_at "s"
abbrev Ri:Stmt:=top 108
theorem jH:FnScope ["word"] ["word"] (defScope Ri):=by walk_at "s"
abbrev YF:Stmt:=top 110
abbrev T9:Stmt:=top 111
theorem je:FnScope ["reader","word","deep","times","parts"] ["reader","word","deep"] (defScope T9):=by walk_at "s"
abbrev Nf:Stmt:=top 112
theorem Jf:FnScope ["reader","deep","word","low","high"] ["reader","deep"] (defScope Nf):=by walk_at "s"
abbrev Qm:Stmt:=top 114
theorem Uj:FnScope ["reader","deep","parts"] ["reader","deep"] (defScope Qm):=by walk_at "s"
abbrev Ni:Stmt:=top 115
theorem Ie:FnScope ["parts","count","part"] ["parts"] (defScope Ni):=by walk_at "s"
abbrev Ox:Stmt:=top 116
theorem KN:FnScope ["parts","pieces","part"] ["parts"] (defScope Ox):=by walk_at "s"
abbrev Qi:Stmt:=top 117
theorem Qt:FnScope ["text","reader","parts"] ["text"] (defScope Qi):=by walk_at "s"
abbrev R0:Stmt:=top 118
theorem pQ:FnScope ["piece"] ["piece"] (defScope R0):=by walk_at "s"
abbrev Su:Stmt:=top 119
theorem jh:FnScope ["bench"] ["bench"] (defScope Su):=by walk_at "s"
abbrev Td:Stmt:=top 121
theorem gh:FnScope ["bench"] ["bench"] (defScope Td):=by walk_at "s"
abbrev ao:Stmt:=top 126
abbrev NQ:Stmt:=top 127
theorem rM:FnScope ["bench","numbers"] ["bench","numbers"] (defScope NQ):=by walk_at "s"
abbrev W3:Stmt:=top 128
abbrev YD:Stmt:=top 129
abbrev Xe:Stmt:=top 130
abbrev Ut:Stmt:=top 131
abbrev ZD:Stmt:=top 132
abbrev Wx:Stmt:=top 133
abbrev UL:Stmt:=top 134
abbrev Ov:Stmt:=top 136
theorem Yb:FnScope ["word"] ["word"] (defScope Ov):=by walk_at "s"
abbrev RC:Stmt:=top 137
theorem Zh:FnScope ["word"] ["word"] (defScope RC):=by walk_at "s"
abbrev Ss:Stmt:=top 139
theorem El:FnScope ["words","form","names","name","numbers"] ["words"] (defScope Ss):=by walk_at "s"
abbrev Rq:Stmt:=top 142
theorem nF:FnScope ["_law_script","_law_k"] ["_law_script","_law_k"] (defScope Rq):=by walk_at "s"
abbrev T8:Stmt:=top 143
theorem cB:FnScope ["_law_script","_law_start"] ["_law_script","_law_start"] (defScope T8):=by walk_at "s"
abbrev RM:Stmt:=top 144
theorem Qd:FnScope ["_law_drawn_here","_law_many","_law_cells","_law_number"] ["_law_drawn_here","_law_many"] (defScope RM):=by walk_at "s"
abbrev PB:Stmt:=top 145
theorem Jw:FnScope ["_law_top","_law_bottom","_law_one","_law_other"] ["_law_top","_law_bottom"] (defScope PB):=by walk_at "s"
abbrev T5:Stmt:=top 146
theorem cU:FnScope ["_law_one","_law_other"] ["_law_one","_law_other"] (defScope T5):=by walk_at "s"
abbrev Ho:Stmt:=top 147
theorem Gz:FnScope ["_law_drawn_here","_law_far","_law_top","_law_bottom"] ["_law_drawn_here","_law_far"] (defScope Ho):=by walk_at "s"
abbrev Rm:Stmt:=top 148
theorem Ii:FnScope ["_law_drawn_here","_law_far","_law_way","_law_one","_law_other"] ["_law_drawn_here","_law_far"] (defScope Rm):=by walk_at "s"
abbrev Q6:Stmt:=top 149
theorem fV:FnScope ["_law_one","_law_other"] ["_law_one","_law_other"] (defScope Q6):=by walk_at "s"
abbrev Qq:Stmt:=top 151
theorem dF:FnScope ["_law_one","_law_other"] ["_law_one","_law_other"] (defScope Qq):=by walk_at "s"
abbrev T4:Stmt:=top 152
theorem Hl:FnScope ["_law_number","_law_figures","_law_left"] ["_law_number"] (defScope T4):=by walk_at "s"
abbrev NT:Stmt:=top 153
theorem ir:FnScope ["_law_part_here"] ["_law_part_here"] (defScope NT):=by walk_at "s"
abbrev Ny:Stmt:=top 154
theorem oH:FnScope ["_law_piece_here"] ["_law_piece_here"] (defScope Ny):=by walk_at "s"
abbrev Tf:Stmt:=top 155
theorem uN:FnScope ["_law_bench"] ["_law_bench"] (defScope Tf):=by walk_at "s"
abbrev SX:Stmt:=top 156
theorem RJ:FnScope ["_law_number","_law_k","_law_letter","_law_at"] ["_law_number","_law_k"] (defScope SX):=by walk_at "s"
abbrev QH:Stmt:=top 157
theorem Fv:FnScope ["_law_drawn_here","_law_many","_law_least","_law_found","_law_k","_law_bench","_law_j","_law_piece_here","_law_low_here"] ["_law_drawn_here","_law_many","_law_least"] (defScope QH):=by walk_at "s"
abbrev K3:Stmt:=top 158
theorem Il:FnScope ["_law_drawn_here","_law_number","_law_least","_law_names_here","_law_benches_here","_law_desk","_law_k"] ["_law_drawn_here","_law_number","_law_least"] (defScope K3):=by walk_at "s"
abbrev Rw:Stmt:=top 159
theorem Mz:FnScope ["_law_desk","_law_row_here","_law_found","_law_e"] ["_law_desk","_law_row_here"] (defScope Rw):=by walk_at "s"
abbrev Sw:Stmt:=top 160
theorem IV:FnScope ["_law_e","_law_some","_law_words_here"] ["_law_e"] (defScope Sw):=by walk_at "s"
abbrev Oh:Stmt:=top 161
theorem HW:FnScope ["_law_rows"] [] (defScope Oh):=by walk_at "s"
abbrev Kq:Stmt:=top 162
theorem Kl:FnScope ["_law_cell","_law_name","_law_bad","_law_rows"] ["_law_cell","_law_name"] (defScope Kq):=by walk_at "s"
abbrev Ko:Stmt:=top 163
theorem MF:FnScope ["_law_cell","_law_some","_law_rows"] ["_law_cell"] (defScope Ko):=by walk_at "s"
abbrev Qc:Stmt:=top 164
theorem G8:FnScope ["_law_cell","_law_name","_law_new","_law_things","_law_rows","_law_called_here"] ["_law_cell","_law_name","_law_new"] (defScope Qc):=by walk_at "s"
abbrev Hu:Stmt:=top 165
theorem Eo:FnScope ["_law_script","_law_drawn_here","_law_number","_law_desk","_law_names_here","_law_benches_here","_law_cell","_law_at","_law_k"] ["_law_script"] (defScope Hu):=by walk_at "s"
abbrev FW:Stmt:=inClass (top 26) 0
abbrev Ke:Stmt:=inClass (top 26) 1
abbrev Jx:Stmt:=inClass (top 27) 0
abbrev LR:Stmt:=inClass (top 27) 1
abbrev K6:Stmt:=inClass (top 28) 0
abbrev M6:Stmt:=inClass (top 28) 1
abbrev K1:Stmt:=inClass (top 29) 0
abbrev Js:Stmt:=inClass (top 29) 1
abbrev Ht:Stmt:=inClass (top 106) 0
theorem vX:FnScope ["self","words"] ["self","words"] (defScope Ht):=by walk_at "s"
abbrev Ia:Stmt:=inClass (top 106) 1
theorem vg:FnScope ["self"] ["self"] (defScope Ia):=by walk_at "s"
abbrev JF:Stmt:=inClass (top 106) 2
theorem nQ:FnScope ["self"] ["self"] (defScope JF):=by walk_at "s"
abbrev JC:Stmt:=inClass (top 106) 3
theorem rZ:FnScope ["self","word"] ["self","word"] (defScope JC):=by walk_at "s"
abbrev JQ:Stmt:=inClass (top 140) 0
theorem fW:FnScope ["self"] ["self"] (defScope JQ):=by walk_at "s"
abbrev Ir:Stmt:=inClass (top 140) 1
theorem DY:FnScope ["self","row","words","read","names"] ["self","row"] (defScope Ir):=by walk_at "s"
abbrev Hj:Stmt:=inClass (top 140) 2
theorem JS:FnScope ["self","row","words"] ["self","row"] (defScope Hj):=by walk_at "s"
abbrev Hk:Stmt:=inClass (top 140) 3
theorem Ue:FnScope ["self","name"] ["self","name"] (defScope Hk):=by walk_at "s"
abbrev Hv:Stmt:=inClass (top 140) 4
theorem cP:FnScope ["self","name","bench"] ["self","name","bench"] (defScope Hv):=by walk_at "s"
structure Adr where
 z0:Nat:=0
 BenchError:Addr
 NoNumber:Addr
 NoText:Addr
 NoTable:Addr
 NoBox:Addr
 NoStock:Addr
 NoWish:Addr
 NoRow:Addr
 Unknown:Addr
 NoBench:Addr
 Piece:Addr
 Gap:Addr
 Glass:Addr
 Stop:Addr
 Reader:Addr
 Desk:Addr
 NOUGHT:Addr
 ONE:Addr
 LEAVING:Addr
 ROWS:Addr
 ROWS_join:Addr
 ROWS_turn:Addr
 ROWS_show:Addr
 ROWS_walk:Addr
 ROWS_table:Addr
 ROWS_apart:Addr
 ROWS_image:Addr
 ROWS_field:Addr
 ROWS_sharp:Addr
 ROWS_rounds:Addr
 ANSWERS:Addr
 ANSWERS_show:Addr
 ANSWERS_walk:Addr
 ANSWERS_table:Addr
 ANSWERS_apart:Addr
 ANSWERS_image:Addr
 ANSWERS_field:Addr
 ANSWERS_sharp:Addr
 ANSWERS_rounds:Addr
 tGAP:Tok
 tGLASS:Tok
 tSTOP:Tok
 tMOST_PIECES:Tok
 tFIGURES:Tok
 tMOST_FIGURES:Tok
 tPARTED:Tok
 tTIMES:Tok
 tOPENED:Tok
 tCLOSED:Tok
 tMOST_TIMES:Tok
 tMOST_DEEP:Tok
 tLETTERS:Tok
 tMOST_LETTERS:Tok
 tDONE:Tok
 tNONE:Tok
 pr:ub
structure Exc (K:FrG)(mg:Str->Option Value)(ad:Adr):Prop where
 tt:True:=trivial
 m_BenchError:mg "BenchError"=some (.ref ad.BenchError)
 m_NoNumber:mg "NoNumber"=some (.ref ad.NoNumber)
 m_NoText:mg "NoText"=some (.ref ad.NoText)
 m_NoTable:mg "NoTable"=some (.ref ad.NoTable)
 m_NoBox:mg "NoBox"=some (.ref ad.NoBox)
 m_NoStock:mg "NoStock"=some (.ref ad.NoStock)
 m_NoWish:mg "NoWish"=some (.ref ad.NoWish)
 m_NoRow:mg "NoRow"=some (.ref ad.NoRow)
 m_Unknown:mg "Unknown"=some (.ref ad.Unknown)
 m_NoBench:mg "NoBench"=some (.ref ad.NoBench)
 Ld:mg "Piece"=some (.ref ad.Piece)
 Ip:mg "Gap"=some (.ref ad.Gap)
 Ig:mg "Glass"=some (.ref ad.Glass)
 Hm:mg "Stop"=some (.ref ad.Stop)
 JW:mg "Reader"=some (.ref ad.Reader)
 JR:mg "Desk"=some (.ref ad.Desk)
 m_GAP:mg "GAP"=some (.str "gap" ad.tGAP)
 z_GAP:ad.tGAP≠0
 m_GLASS:mg "GLASS"=some (.str "glass" ad.tGLASS)
 z_GLASS:ad.tGLASS≠0
 m_STOP:mg "STOP"=some (.str "stop" ad.tSTOP)
 z_STOP:ad.tSTOP≠0
 m_MOST_PIECES:mg "MOST_PIECES"=some (.int 60 ad.tMOST_PIECES)
 m_FIGURES:mg "FIGURES"=some (.str "0123456789" ad.tFIGURES)
 La:ad.tFIGURES≠0
 m_MOST_FIGURES:mg "MOST_FIGURES"=some (.int 15 ad.tMOST_FIGURES)
 m_PARTED:mg "PARTED"=some (.str ";" ad.tPARTED)
 z_PARTED:ad.tPARTED≠0
 m_TIMES:mg "TIMES"=some (.str "times" ad.tTIMES)
 z_TIMES:ad.tTIMES≠0
 KC:mg "OPENED"=some (.str "(" ad.tOPENED)
 N5:ad.tOPENED≠0
 Mm:mg "CLOSED"=some (.str ")" ad.tCLOSED)
 Lr:ad.tCLOSED≠0
 Jo:mg "MOST_TIMES"=some (.int 60 ad.tMOST_TIMES)
 Kr:mg "MOST_DEEP"=some (.int 4 ad.tMOST_DEEP)
 m_LETTERS:mg "LETTERS"=some (.str "abcdefghijklmnopqrstuvwxyz" ad.tLETTERS)
 Kd:ad.tLETTERS≠0
 m_MOST_LETTERS:mg "MOST_LETTERS"=some (.int 8 ad.tMOST_LETTERS)
 m_DONE:mg "DONE"=some (.str "ok" ad.tDONE)
 z_DONE:ad.tDONE≠0
 MP:mg "NONE"=some (.str "none" ad.tNONE)
 Ky:ad.tNONE≠0
 c_NoRow:ExcCls K mg "NoRow" ad.NoRow
 c_Unknown:ExcCls K mg "Unknown" ad.Unknown
 c_NoNumber:ExcCls K mg "NoNumber" ad.NoNumber
 vo:ExcCls K mg "NoText" ad.NoText
 x_NoRow_BenchError:QP K (.ref ad.NoRow) (.ref ad.BenchError)=some true
 x_Unknown_BenchError:QP K (.ref ad.Unknown) (.ref ad.BenchError)=some true
 x_NoNumber_NoNumber:QP K (.ref ad.NoNumber) (.ref ad.NoNumber)=some true
 k_NoRow_NoBench:ZJ K (.ref ad.NoRow) (.ref ad.NoBench)=some false
 k_NoRow_NoBox:ZJ K (.ref ad.NoRow) (.ref ad.NoBox)=some false
 k_NoRow_ValueError:ZJ K (.ref ad.NoRow) (.type "ValueError")=some true
 k_NoRow_NoNumber:ZJ K (.ref ad.NoRow) (.ref ad.NoNumber)=some false
 k_NoRow_NoText:ZJ K (.ref ad.NoRow) (.ref ad.NoText)=some false
 k_NoRow_NoTable:ZJ K (.ref ad.NoRow) (.ref ad.NoTable)=some false
 k_NoRow_NoStock:ZJ K (.ref ad.NoRow) (.ref ad.NoStock)=some false
 k_NoRow_NoWish:ZJ K (.ref ad.NoRow) (.ref ad.NoWish)=some false
 k_NoRow_NoRow:ZJ K (.ref ad.NoRow) (.ref ad.NoRow)=some true
 k_NoRow_Unknown:ZJ K (.ref ad.NoRow) (.ref ad.Unknown)=some false
 k_Unknown_NoBench:ZJ K (.ref ad.Unknown) (.ref ad.NoBench)=some false
 k_Unknown_NoBox:ZJ K (.ref ad.Unknown) (.ref ad.NoBox)=some false
 k_Unknown_ValueError:ZJ K (.ref ad.Unknown) (.type "ValueError")=some true
 k_Unknown_NoNumber:ZJ K (.ref ad.Unknown) (.ref ad.NoNumber)=some false
 k_Unknown_NoText:ZJ K (.ref ad.Unknown) (.ref ad.NoText)=some false
 k_Unknown_NoTable:ZJ K (.ref ad.Unknown) (.ref ad.NoTable)=some false
 k_Unknown_NoStock:ZJ K (.ref ad.Unknown) (.ref ad.NoStock)=some false
 k_Unknown_NoWish:ZJ K (.ref ad.Unknown) (.ref ad.NoWish)=some false
 k_Unknown_NoRow:ZJ K (.ref ad.Unknown) (.ref ad.NoRow)=some false
 k_Unknown_Unknown:ZJ K (.ref ad.Unknown) (.ref ad.Unknown)=some true
 e_NoRow:ExcK K ad.NoRow
 e_Unknown:ExcK K ad.Unknown
 l_Gap:Cls K ad.Gap
 i_Gap:MkFn K mg "Gap" ad.Gap "Gap.__init__" Jx
 q_Gap_lets:MtFn K ad.Gap "lets" "Piece.lets" FW
 q_Gap_bent:MtFn K ad.Gap "bent" "Gap.bent" LR
 n_Gap_length:NoAttr K ad.Gap "length"
 l_Glass:Cls K ad.Glass
 i_Glass:MkFn K mg "Glass" ad.Glass "Glass.__init__" K6
 q_Glass_lets:MtFn K ad.Glass "lets" "Piece.lets" FW
 q_Glass_bent:MtFn K ad.Glass "bent" "Glass.bent" M6
 n_Glass_strength:NoAttr K ad.Glass "strength"
 l_Stop:Cls K ad.Stop
 i_Stop:MkFn K mg "Stop" ad.Stop "Stop.__init__" K1
 q_Stop_lets:MtFn K ad.Stop "lets" "Stop.lets" Js
 q_Stop_bent:MtFn K ad.Stop "bent" "Piece.bent" Ke
 n_Stop_low:NoAttr K ad.Stop "low"
 n_Stop_high:NoAttr K ad.Stop "high"
 l_Reader:Cls K ad.Reader
 i_Reader:MkFn K mg "Reader" ad.Reader "Reader.__init__" Ht
 q_Reader_is_done:MtFn K ad.Reader "is_done" "Reader.is_done" Ia
 q_Reader_take:MtFn K ad.Reader "take" "Reader.take" JF
 q_Reader_take_if:MtFn K ad.Reader "take_if" "Reader.take_if" JC
 n_Reader_words:NoAttr K ad.Reader "words"
 n_Reader_place:NoAttr K ad.Reader "place"
 l_Desk:Cls K ad.Desk
 i_Desk:MkFn K mg "Desk" ad.Desk "Desk.__init__" JQ
 q_Desk_say:MtFn K ad.Desk "say" "Desk.say" Ir
 q_Desk_lay:MtFn K ad.Desk "lay" "Desk.lay" Hj
 q_Desk_bench_by:MtFn K ad.Desk "bench_by" "Desk.bench_by" Hk
 q_Desk_keep:MtFn K ad.Desk "keep" "Desk.keep" Hv
 n_Desk_benches:NoAttr K ad.Desk "benches"
 m_NOUGHT:mg "NOUGHT"=some (.ref ad.NOUGHT)
 s_NOUGHT:∀H:Hp,SqT K H ad.NOUGHT [.int 0,.int 1]
 Mr:mg "ONE"=some (.ref ad.ONE)
 vm:∀H:Hp,SqT K H ad.ONE [.int 1,.int 1]
 M4:mg "LEAVING"=some (.ref ad.LEAVING)
 vh:∀H:Hp,SqT K H ad.LEAVING [.ref ad.ONE,.ref ad.NOUGHT,.ref ad.NOUGHT,.ref ad.ONE]
 m_ROWS:mg "ROWS"=some (.ref ad.ROWS)
 g_ROWS:∀(P:Yg) (w:World),w.params=ad.pr->DKG P w K ad.ROWS (CN [("join",V.ref ad.ROWS_join),("turn",V.ref ad.ROWS_turn),("show",V.ref ad.ROWS_show),("walk",V.ref ad.ROWS_walk),("table",V.ref ad.ROWS_table),("apart",V.ref ad.ROWS_apart),("image",V.ref ad.ROWS_image),("field",V.ref ad.ROWS_field),("sharp",V.ref ad.ROWS_sharp),("rounds",V.ref ad.ROWS_rounds)])
 s_ROWS_join:∀H:Hp,SqT K H ad.ROWS_join [.int 3,.int 0]
 s_ROWS_turn:∀H:Hp,SqT K H ad.ROWS_turn [.int 2,.int 0]
 s_ROWS_show:∀H:Hp,SqT K H ad.ROWS_show [.int 1,.int 0]
 s_ROWS_walk:∀H:Hp,SqT K H ad.ROWS_walk [.int 1,.int 2]
 s_ROWS_table:∀H:Hp,SqT K H ad.ROWS_table [.int 1,.int 0]
 s_ROWS_apart:∀H:Hp,SqT K H ad.ROWS_apart [.int 1,.int 0]
 s_ROWS_image:∀H:Hp,SqT K H ad.ROWS_image [.int 1,.int 1]
 s_ROWS_field:∀H:Hp,SqT K H ad.ROWS_field [.int 1,.int 4]
 s_ROWS_sharp:∀H:Hp,SqT K H ad.ROWS_sharp [.int 1,.int 5]
 s_ROWS_rounds:∀H:Hp,SqT K H ad.ROWS_rounds [.int 1,.int 0]
 m_ANSWERS:mg "ANSWERS"=some (.ref ad.ANSWERS)
 f_ANSWERS_show:mg "show_answer"=some (.ref ad.ANSWERS_show)
 Ms:mg "walk_answer"=some (.ref ad.ANSWERS_walk)
 Km:mg "table_answer"=some (.ref ad.ANSWERS_table)
 K8:mg "apart_answer"=some (.ref ad.ANSWERS_apart)
 M3:mg "image_answer"=some (.ref ad.ANSWERS_image)
 Lx:mg "field_answer"=some (.ref ad.ANSWERS_field)
 Mt:mg "sharp_answer"=some (.ref ad.ANSWERS_sharp)
 Kh:mg "rounds_answer"=some (.ref ad.ANSWERS_rounds)
 g_ANSWERS:∀(P:Yg) (w:World),w.params=ad.pr->DKG P w K ad.ANSWERS (CN [("show",V.ref ad.ANSWERS_show),("walk",V.ref ad.ANSWERS_walk),("table",V.ref ad.ANSWERS_table),("apart",V.ref ad.ANSWERS_apart),("image",V.ref ad.ANSWERS_image),("field",V.ref ad.ANSWERS_field),("sharp",V.ref ad.ANSWERS_sharp),("rounds",V.ref ad.ANSWERS_rounds)])
structure Txt (K:FrG)(mg:Str->Option Value)(ad:Adr):Prop where
 ex:Exc K mg ad
 ValueError:mg "ValueError"=none
 abs:mg "abs"=none
 all:mg "all"=none
 bool:mg "bool"=none
 enumerate:mg "enumerate"=none
 int:mg "int"=none
 isinstance:mg "isinstance"=none
 len:mg "len"=none
 list:mg "list"=none
 range:mg "range"=none
 reversed:mg "reversed"=none
 str:mg "str"=none
 tuple:mg "tuple"=none
 zip:mg "zip"=none
 RP:TopFn K mg "is_whole" Rr
 Qz:TopFn K mg "common_divisor" Pj
 M5:TopFn K mg "is_ratio" R7
 Z5:TopFn K mg "ratio_of" Zz
 Y8:TopFn K mg "sum_of" Zf
 W9:TopFn K mg "less_by" Up
 Uo:TopFn K mg "product_of" YJ
 aJ:TopFn K mg "quotient_of" Y4
 QW:TopFn K mg "is_less" Sy
 SQ:TopFn K mg "is_piece" Iz
 VB:TopFn K mg "piece_of" Vi
 O8:TopFn K mg "look_at" Qa
 Za:TopFn K mg "is_table" Ui
 Z6:TopFn K mg "look_at_table" W0
 Vh:TopFn K mg "table_of_rays" Ys
 YW:TopFn K mg "table_of" Yk
 Yn:TopFn K mg "made_by" aB
 ZF:TopFn K mg "joined" ZG
 WQ:TopFn K mg "less" aa
 W4:TopFn K mg "part_short_of_one" W8
 W2:TopFn K mg "glass_gap_glass" Wi
 Yi:TopFn K mg "gap_glass_gap" Wf
 Uk:TopFn K mg "taken_apart" X7
 U5:TopFn K mg "is_stretch" WK
 Z8:TopFn K mg "look_at_stretch" aq
 aA:TopFn K mg "is_box" Vs
 Wm:TopFn K mg "look_at_box" Xq
 Wo:TopFn K mg "limits_of" U7
 Uw:TopFn K mg "is_before" ZL
 Wg:TopFn K mg "corners_of" Ti
 au:TopFn K mg "edges_of" XJ
 Xl:TopFn K mg "room_at" ZC
 Zo:TopFn K mg "crossing_of" Vf
 VH:TopFn K mg "cut_by" Vl
 Ux:TopFn K mg "from_the_least" Yw
 Wr:TopFn K mg "field_of" Tj
 R8:TopFn K mg "show_ratio" QD
 MT:TopFnA K mg "read_part_figures" "read_part" RB
 Ja:TopFn K mg "read_ratio" Fy
 bA:TopFn K mg "spread_of" Z0
 We:TopFn K mg "image_of" Wh
 U0:TopFn K mg "growth_of" Yx
 Uh:TopFn K mg "in_order" Yl
 Z9:TopFn K mg "lesser_of" Yo
 Wq:TopFn K mg "greater_of" X6
 aX:TopFn K mg "slants_by" W7
 Xn:TopFn K mg "slants_of" YH
 Vz:TopFn K mg "height_at" Vg
 Tq:TopFn K mg "spots_of" Z4
 Xa:TopFn K mg "blur_of" aj
 Ou:TopFn K mg "is_name" Rf
 bC:TopFn K mg "walk_of" Y7
 XM:TopFn K mg "rounds_of" Xp
 Vm:TopFn K mg "sharp_places" Tn
 O3:TopFn K mg "words_of" RX
 OD:TopFnA K mg "read_number_texts" "read_number" Ri
 WW:TopFn K mg "read_times" YF
 Ph:TopFn K mg "read_round" T9
 RK:TopFnA K mg "read_part_texts" "read_part" Nf
 Rg:TopFn K mg "read_parts" Qm
 Jv:TopFn K mg "count_of" Ni
 Lj:TopFn K mg "told_out" Ox
 Q3:TopFn K mg "read_bench" Qi
 Nz:TopFn K mg "show_piece" R0
 Nq:TopFn K mg "show_bench" Su
 Pb:TopFn K mg "turned_bench" Td
 Wv:TopFn K mg "shown" ao
 Oq:TopFn K mg "show_answer" NQ
 Yr:TopFn K mg "walk_answer" W3
 Wn:TopFn K mg "table_answer" YD
 U9:TopFn K mg "apart_answer" Xe
 Zy:TopFn K mg "image_answer" Ut
 V3:TopFn K mg "field_answer" ZD
 Ws:TopFn K mg "sharp_answer" Wx
 Ul:TopFn K mg "rounds_answer" UL
 Gj:TopFn K mg "look_at_name" Ov
 Gs:TopFnA K mg "read_number_desk" "read_number" RC
 LK:TopFn K mg "read_row" Ss
 Tg:TopFn K mg "_law_cell_at" Rq
 O1:TopFn K mg "_law_drawn" T8
 Sg:TopFn K mg "_law_draw" RM
 Qg:TopFn K mg "_law_low" PB
 PN:TopFn K mg "_law_under" T5
 Ow:TopFn K mg "_law_part" Ho
 NK:TopFn K mg "_law_piece" Rm
 Nt:TopFn K mg "_law_plus" Q6
 O4:TopFn K mg "_law_less" Qq
 Pk:TopFn K mg "_law_written" T4
 Oa:TopFn K mg "_law_shown" NT
 QT:TopFn K mg "_law_piece_text" Ny
 Q5:TopFn K mg "_law_text" Tf
 QC:TopFn K mg "_law_called" SX
 O2:TopFn K mg "_law_benches" QH
 RG:TopFn K mg "_law_laid" K3
 Nk:TopFn K mg "_law_class" Rw
 R9:TopFn K mg "_law_names" Sw
 TF:TopFn K mg "_law_words" Oh
 Sd:TopFn K mg "_law_names_bad" Kq
 QG:TopFn K mg "_law_numbers_bad" Ko
 Py:TopFn K mg "_law_row" Qc
theorem dj {K:FrG}{h:Heap}{mg:Str->Option Value}{o f M Y h3 Z b9 b a a0 J2 q d g c e N s6 e8 s5 a1 a2 a3 a4 F G I J L y a5 r s j k l m n i:Addr}{L1:ClassData}{J3:ClassData}{tGAP:Tok}{tGLASS:Tok}{tSTOP:Tok}{tMOST_PIECES:Tok}{tFIGURES:Tok}{tMOST_FIGURES:Tok}{tPARTED:Tok}{tTIMES:Tok}{tOPENED:Tok}{tCLOSED:Tok}{tMOST_TIMES:Tok}{tMOST_DEEP:Tok}{tLETTERS:Tok}{tMOST_LETTERS:Tok}{tDONE:Tok}{tNONE:Tok}{L8:Addr}{A8:Value}{A9 B0:Option Addr}{B1:Array (Option Value)}{B2 B3 B4 d9 B5:Value}{L9:Addr}{B6:Value}{B7 B8:Option Addr}{B9:Array (Option Value)}{C0 C1 C2 e0 C3:Value}{M0:Addr}{C4:Value}{C5 C6:Option Addr}{C7:Array (Option Value)}{C8 C9 D0 e1 D1:Value}{M1:Addr}{m6:Value}{m7 m8:Option Addr}{m9:Array (Option Value)}{n0 n1 n2 a6 n3:Value}{M2:Addr}{n4:Value}{n5 n6:Option Addr}{n7:Array (Option Value)}{n8 n9 o0 a7 o1:Value}{M5:Addr}{o2:Value}{o3 o4:Option Addr}{o5:Array (Option Value)}{o6 o7 o8 a8 o9:Value}{M7:Addr}{s7:Value}{s8 s9:Option Addr}{t0:Array (Option Value)}{t1 t2 t3 b1 t4:Value}{M8:Addr}{t5:Value}{t6 t7:Option Addr}{t8:Array (Option Value)}{t9 u0 u1 b2 u2:Value}{M9:Addr}{u3:Value}{u4 u5:Option Addr}{u6:Array (Option Value)}{u7 u8 u9 b3 v0:Value}{N0:Addr}{i8:Value}{i9 j0:Option Addr}{j1:Array (Option Value)}{j2 j3 j4 O j5:Value}{N1:Addr}{c0:Value}{c1 c2:Option Addr}{c3:Array (Option Value)}{c4 c5 c6 t c7:Value}{N2:Addr}{j6:Value}{j7 j8:Option Addr}{j9:Array (Option Value)}{k0 k1 k2 Q k3:Value}{N3:Addr}{c8:Value}{c9 d0:Option Addr}{d1:Array (Option Value)}{d2 d3 d4 u d5:Value}{N4:Addr}{v1:Value}{v2 v3:Option Addr}{v4:Array (Option Value)}{v5 v6 v7 b4 v8:Value}{N6:Addr}{D2:Value}{D3 D4:Option Addr}{D5:Array (Option Value)}{D6 D7 D8 e2 D9:Value}{N7:Addr}{E0:Value}{E1 E2:Option Addr}{E3:Array (Option Value)}{E4 E5 E6 e3 E7:Value}{N8:Addr}{e9:Value}{f0 f1:Option Addr}{f2:Array (Option Value)}{f3 f4 f5 z f6:Value}{N9:Addr}{v9:Value}{w0 w1:Option Addr}{w2:Array (Option Value)}{w3 w4 w5 b5 w6:Value}{E8:Tok}{E9:Tok}{J4:Option Addr}{J5:Nat}{J6:Array (Option Value)}{K9:Tok}{L0:Tok}{L4:Option Addr}{L5:Nat}{L6:Array (Option Value)}{H6:Option Addr}{H7:Nat}{H8:Array (Option Value)}{O1:Int}{w7:Tok}{O2:Int}{w8:Tok}{O3:Int}{w9:Tok}{O4:Int}{x0:Tok}{O5:Int}{p0:Tok}{O6:Int}{p1:Tok}{O7:Int}{p2:Tok}{O8:Int}{p3:Tok}{O9:Int}{p4:Tok}{P0:Int}{k4:Tok}{L2:Nat}{k5:Tok}{k6:Tok}{x1:Option Addr}{x2:Nat}{x3:Array (Option Value)}{k7:Tok}{k8:Tok}{x4:Option Addr}{x5:Nat}{x6:Array (Option Value)}{k9:Tok}{l0:Tok}{x7:Option Addr}{x8:Nat}{x9:Array (Option Value)}{l1:Tok}{l2:Tok}{y0:Option Addr}{y1:Nat}{y2:Array (Option Value)}{h4:Tok}{h5:Tok}{p5:Option Addr}{p6:Nat}{p7:Array (Option Value)}{h6:Tok}{h7:Tok}{p8:Option Addr}{p9:Nat}{q0:Array (Option Value)}{h8:Tok}{h9:Tok}{q1:Option Addr}{q2:Nat}{q3:Array (Option Value)}{i0:Tok}{i1:Tok}{q4:Option Addr}{q5:Nat}{q6:Array (Option Value)}{i2:Tok}{i3:Tok}{q7:Option Addr}{q8:Nat}{q9:Array (Option Value)}{f7:Tok}{f8:Tok}{l3:Option Addr}{l4:Nat}{l5:Array (Option Value)}{P1:Int}{i4:Tok}{P2:Int}{i5:Tok}{P3:Int}{f9:Tok}{P4:Int}{g0:Tok}{P5:Int}{g1:Tok}{P6:Int}{g2:Tok}{P7:Int}{g3:Tok}{P8:Int}{d6:Tok}{H9:Nat}(pr:ub)(X:K.In h)(p:h.Ns ZY mg)(m_BenchError:Yv K ZY "BenchError"=some (some (.ref o)))(m_NoNumber:Yv K ZY "NoNumber"=some (some (.ref f)))(m_NoText:Yv K ZY "NoText"=some (some (.ref M)))(m_NoTable:Yv K ZY "NoTable"=some (some (.ref Y)))(m_NoBox:Yv K ZY "NoBox"=some (some (.ref h3)))(m_NoStock:Yv K ZY "NoStock"=some (some (.ref Z)))(m_NoWish:Yv K ZY "NoWish"=some (some (.ref b9)))(m_NoRow:Yv K ZY "NoRow"=some (some (.ref b)))(m_Unknown:Yv K ZY "Unknown"=some (some (.ref a)))(m_NoBench:Yv K ZY "NoBench"=some (some (.ref a0)))(Ld:Yv K ZY "Piece"=some (some (.ref J2)))(Ip:Yv K ZY "Gap"=some (some (.ref q)))(Ig:Yv K ZY "Glass"=some (some (.ref d)))(Hm:Yv K ZY "Stop"=some (some (.ref g)))(JW:Yv K ZY "Reader"=some (some (.ref c)))(JR:Yv K ZY "Desk"=some (some (.ref e)))(m_GAP:Yv K ZY "GAP"=some (some (.str "gap" tGAP)))(z_GAP:tGAP≠0)(m_GLASS:Yv K ZY "GLASS"=some (some (.str "glass" tGLASS)))(z_GLASS:tGLASS≠0)(m_STOP:Yv K ZY "STOP"=some (some (.str "stop" tSTOP)))(z_STOP:tSTOP≠0)(m_MOST_PIECES:Yv K ZY "MOST_PIECES"=some (some (.int 60 tMOST_PIECES)))(m_FIGURES:Yv K ZY "FIGURES"=some (some (.str "0123456789" tFIGURES)))(La:tFIGURES≠0)(m_MOST_FIGURES:Yv K ZY "MOST_FIGURES"=some (some (.int 15 tMOST_FIGURES)))(m_PARTED:Yv K ZY "PARTED"=some (some (.str ";" tPARTED)))(z_PARTED:tPARTED≠0)(m_TIMES:Yv K ZY "TIMES"=some (some (.str "times" tTIMES)))(z_TIMES:tTIMES≠0)(KC:Yv K ZY "OPENED"=some (some (.str "(" tOPENED)))(N5:tOPENED≠0)(Mm:Yv K ZY "CLOSED"=some (some (.str ")" tCLOSED)))(Lr:tCLOSED≠0)(Jo:Yv K ZY "MOST_TIMES"=some (some (.int 60 tMOST_TIMES)))(Kr:Yv K ZY "MOST_DEEP"=some (some (.int 4 tMOST_DEEP)))(m_LETTERS:Yv K ZY "LETTERS"=some (some (.str "abcdefghijklmnopqrstuvwxyz" tLETTERS)))(Kd:tLETTERS≠0)(m_MOST_LETTERS:Yv K ZY "MOST_LETTERS"=some (some (.int 8 tMOST_LETTERS)))(m_DONE:Yv K ZY "DONE"=some (some (.str "ok" tDONE)))(z_DONE:tDONE≠0)(MP:Yv K ZY "NONE"=some (some (.str "none" tNONE)))(Ky:tNONE≠0)(P9:yl K b [.type "ValueError",.type "Exception",.type "BaseException",.type "object"] "ValueError.__new__"=true)(Q0:yl K a [.type "ValueError",.type "Exception",.type "BaseException",.type "object"] "ValueError.__new__"=true)(Q1:yl K f [.type "ValueError",.type "Exception",.type "BaseException",.type "object"] "ValueError.__new__"=true)(Q2:yl K M [.type "ValueError",.type "Exception",.type "BaseException",.type "object"] "ValueError.__new__"=true)(x_NoRow_BenchError:QP K (.ref b) (.ref o)=some true)(x_Unknown_BenchError:QP K (.ref a) (.ref o)=some true)(x_NoNumber_NoNumber:QP K (.ref f) (.ref f)=some true)(k_NoRow_NoBench:ZJ K (.ref b) (.ref a0)=some false)(k_NoRow_NoBox:ZJ K (.ref b) (.ref h3)=some false)(k_NoRow_ValueError:ZJ K (.ref b) (.type "ValueError")=some true)(k_NoRow_NoNumber:ZJ K (.ref b) (.ref f)=some false)(k_NoRow_NoText:ZJ K (.ref b) (.ref M)=some false)(k_NoRow_NoTable:ZJ K (.ref b) (.ref Y)=some false)(k_NoRow_NoStock:ZJ K (.ref b) (.ref Z)=some false)(k_NoRow_NoWish:ZJ K (.ref b) (.ref b9)=some false)(k_NoRow_NoRow:ZJ K (.ref b) (.ref b)=some true)(k_NoRow_Unknown:ZJ K (.ref b) (.ref a)=some false)(k_Unknown_NoBench:ZJ K (.ref a) (.ref a0)=some false)(k_Unknown_NoBox:ZJ K (.ref a) (.ref h3)=some false)(k_Unknown_ValueError:ZJ K (.ref a) (.type "ValueError")=some true)(k_Unknown_NoNumber:ZJ K (.ref a) (.ref f)=some false)(k_Unknown_NoText:ZJ K (.ref a) (.ref M)=some false)(k_Unknown_NoTable:ZJ K (.ref a) (.ref Y)=some false)(k_Unknown_NoStock:ZJ K (.ref a) (.ref Z)=some false)(k_Unknown_NoWish:ZJ K (.ref a) (.ref b9)=some false)(k_Unknown_NoRow:ZJ K (.ref a) (.ref b)=some false)(k_Unknown_Unknown:ZJ K (.ref a) (.ref a)=some true)(J7:Fa K b=some L1)(J8:ZO K (.ref b) "__getattribute__"=some (some (.builtin "BaseException.__getattribute__")))(J9:ZO K (.ref b) "__getattr__"=some none)(K0:ZO K (.ref b) "__class__"=some (some (.builtin "object.__class__")))(K2:xl K (.builtin "object.__class__") "__get__"=some (some (.builtin "getset_descriptor.__get__")))(K3:xP K (.builtin "object.__class__")=some true)(K4:yk K b (.type "object")=some true)(K5:yk K b (.type "BaseException")=some true)(F0:Fa K a=some J3)(F1:ZO K (.ref a) "__getattribute__"=some (some (.builtin "BaseException.__getattribute__")))(F2:ZO K (.ref a) "__getattr__"=some none)(F3:ZO K (.ref a) "__class__"=some (some (.builtin "object.__class__")))(F4:xl K (.builtin "object.__class__") "__get__"=some (some (.builtin "getset_descriptor.__get__")))(F5:xP K (.builtin "object.__class__")=some true)(F6:yk K a (.type "object")=some true)(F7:yk K a (.type "BaseException")=some true)(y3:QB K q xS=true)(y4:QM K q=true)(y5:zl K q=true)(y6:ZO K (.ref q) "__setattr__"=some (some (.builtin "object.__setattr__")))(F8:zD K q=true)(I0:ZO K (.ref q) "__init__"=some (some (.ref L8)))(F9:WI K (.ref L8)=true)(G0:YN K (.ref q)=true)(I1:K.lookup L8=some ⟨A8,A9,.func (YR "__init__" "Gap.__init__" (defArgs Jx) (defBody Jx) (defScope Jx) .none B2 B3 B4 B0 d9 B5),B1⟩)(Q3:XP K d9 "Gap.__init__"=true)(G1:YN K (.ref L8)=true)(I2:ZO K (.ref q) "lets"=some (some (.ref L9)))(G2:WI K (.ref L9)=true)(e4:YN K (.ref L9)=true)(I3:K.lookup L9=some ⟨B6,B7,.func (YR "lets" "Piece.lets" (defArgs FW) (defBody FW) (defScope FW) .none C0 C1 C2 B8 e0 C3),B9⟩)(Q4:XP K e0 "Piece.lets"=true)(I4:ZO K (.ref q) "bent"=some (some (.ref M0)))(G3:WI K (.ref M0)=true)(e5:YN K (.ref M0)=true)(I5:K.lookup M0=some ⟨C4,C5,.func (YR "bent" "Gap.bent" (defArgs LR) (defBody LR) (defScope LR) .none C8 C9 D0 C6 e1 D1),C7⟩)(Q5:XP K e1 "Gap.bent"=true)(n_Gap_length:ZO K (.ref q) "length"=some none)(g4:QB K d xS=true)(g5:QM K d=true)(g6:zl K d=true)(g7:ZO K (.ref d) "__setattr__"=some (some (.builtin "object.__setattr__")))(r0:zD K d=true)(y7:ZO K (.ref d) "__init__"=some (some (.ref M1)))(r1:WI K (.ref M1)=true)(r2:YN K (.ref d)=true)(y8:K.lookup M1=some ⟨m6,m7,.func (YR "__init__" "Glass.__init__" (defArgs K6) (defBody K6) (defScope K6) .none n0 n1 n2 m8 a6 n3),m9⟩)(Q6:XP K a6 "Glass.__init__"=true)(r3:YN K (.ref M1)=true)(y9:ZO K (.ref d) "lets"=some (some (.ref M2)))(r4:WI K (.ref M2)=true)(a9:YN K (.ref M2)=true)(z0:K.lookup M2=some ⟨n4,n5,.func (YR "lets" "Piece.lets" (defArgs FW) (defBody FW) (defScope FW) .none n8 n9 o0 n6 a7 o1),n7⟩)(Q7:XP K a7 "Piece.lets"=true)(z1:ZO K (.ref d) "bent"=some (some (.ref M5)))(r5:WI K (.ref M5)=true)(b0:YN K (.ref M5)=true)(z2:K.lookup M5=some ⟨o2,o3,.func (YR "bent" "Glass.bent" (defArgs M6) (defBody M6) (defScope M6) .none o6 o7 o8 o4 a8 o9),o5⟩)(Q8:XP K a8 "Glass.bent"=true)(n_Glass_strength:ZO K (.ref d) "strength"=some none)(l6:QB K g xS=true)(l7:QM K g=true)(l8:zl K g=true)(l9:ZO K (.ref g) "__setattr__"=some (some (.builtin "object.__setattr__")))(z3:zD K g=true)(G4:ZO K (.ref g) "__init__"=some (some (.ref M7)))(z4:WI K (.ref M7)=true)(z5:YN K (.ref g)=true)(G5:K.lookup M7=some ⟨s7,s8,.func (YR "__init__" "Stop.__init__" (defArgs K1) (defBody K1) (defScope K1) .none t1 t2 t3 s9 b1 t4),t0⟩)(Q9:XP K b1 "Stop.__init__"=true)(z6:YN K (.ref M7)=true)(G6:ZO K (.ref g) "lets"=some (some (.ref M8)))(z7:WI K (.ref M8)=true)(b6:YN K (.ref M8)=true)(G7:K.lookup M8=some ⟨t5,t6,.func (YR "lets" "Stop.lets" (defArgs Js) (defBody Js) (defScope Js) .none t9 u0 u1 t7 b2 u2),t8⟩)(R0:XP K b2 "Stop.lets"=true)(G8:ZO K (.ref g) "bent"=some (some (.ref M9)))(z8:WI K (.ref M9)=true)(b7:YN K (.ref M9)=true)(G9:K.lookup M9=some ⟨u3,u4,.func (YR "bent" "Piece.bent" (defArgs Ke) (defBody Ke) (defScope Ke) .none u7 u8 u9 u5 b3 v0),u6⟩)(R1:XP K b3 "Piece.bent"=true)(n_Stop_low:ZO K (.ref g) "low"=some none)(n_Stop_high:ZO K (.ref g) "high"=some none)(B:QB K c xS=true)(C:QM K c=true)(D:zl K c=true)(E:ZO K (.ref c) "__setattr__"=some (some (.builtin "object.__setattr__")))(m0:zD K c=true)(r6:ZO K (.ref c) "__init__"=some (some (.ref N0)))(m1:WI K (.ref N0)=true)(m2:YN K (.ref c)=true)(r7:K.lookup N0=some ⟨i8,i9,.func (YR "__init__" "Reader.__init__" (defArgs Ht) (defBody Ht) (defScope Ht) .none j2 j3 j4 j0 O j5),j1⟩)(R2:XP K O "Reader.__init__"=true)(m3:YN K (.ref N0)=true)(g8:ZO K (.ref c) "is_done"=some (some (.ref N1)))(d7:WI K (.ref N1)=true)(v:YN K (.ref N1)=true)(g9:K.lookup N1=some ⟨c0,c1,.func (YR "is_done" "Reader.is_done" (defArgs Ia) (defBody Ia) (defScope Ia) .none c4 c5 c6 c2 t c7),c3⟩)(R3:XP K t "Reader.is_done"=true)(r8:ZO K (.ref c) "take"=some (some (.ref N2)))(m4:WI K (.ref N2)=true)(R:YN K (.ref N2)=true)(r9:K.lookup N2=some ⟨j6,j7,.func (YR "take" "Reader.take" (defArgs JF) (defBody JF) (defScope JF) .none k0 k1 k2 j8 Q k3),j9⟩)(R4:XP K Q "Reader.take"=true)(h0:ZO K (.ref c) "take_if"=some (some (.ref N3)))(d8:WI K (.ref N3)=true)(x:YN K (.ref N3)=true)(h1:K.lookup N3=some ⟨c8,c9,.func (YR "take_if" "Reader.take_if" (defArgs JC) (defBody JC) (defScope JC) .none d2 d3 d4 d0 u d5),d1⟩)(R5:XP K u "Reader.take_if"=true)(n_Reader_words:ZO K (.ref c) "words"=some none)(n_Reader_place:ZO K (.ref c) "place"=some none)(S:QB K e xS=true)(T:QM K e=true)(U:zl K e=true)(V:ZO K (.ref e) "__setattr__"=some (some (.builtin "object.__setattr__")))(z9:zD K e=true)(H0:ZO K (.ref e) "__init__"=some (some (.ref N4)))(A0:WI K (.ref N4)=true)(A1:YN K (.ref e)=true)(H1:K.lookup N4=some ⟨v1,v2,.func (YR "__init__" "Desk.__init__" (defArgs JQ) (defBody JQ) (defScope JQ) .none v5 v6 v7 v3 b4 v8),v4⟩)(R6:XP K b4 "Desk.__init__"=true)(A2:YN K (.ref N4)=true)(I6:ZO K (.ref e) "say"=some (some (.ref N6)))(H2:WI K (.ref N6)=true)(e6:YN K (.ref N6)=true)(I7:K.lookup N6=some ⟨D2,D3,.func (YR "say" "Desk.say" (defArgs Ir) (defBody Ir) (defScope Ir) .none D6 D7 D8 D4 e2 D9),D5⟩)(R7:XP K e2 "Desk.say"=true)(I8:ZO K (.ref e) "lay"=some (some (.ref N7)))(H3:WI K (.ref N7)=true)(e7:YN K (.ref N7)=true)(I9:K.lookup N7=some ⟨E0,E1,.func (YR "lay" "Desk.lay" (defArgs Hj) (defBody Hj) (defScope Hj) .none E4 E5 E6 E2 e3 E7),E3⟩)(R8:XP K e3 "Desk.lay"=true)(i6:ZO K (.ref e) "bench_by"=some (some (.ref N8)))(h2:WI K (.ref N8)=true)(A:YN K (.ref N8)=true)(i7:K.lookup N8=some ⟨e9,f0,.func (YR "bench_by" "Desk.bench_by" (defArgs Hk) (defBody Hk) (defScope Hk) .none f3 f4 f5 f1 z f6),f2⟩)(R9:XP K z "Desk.bench_by"=true)(H4:ZO K (.ref e) "keep"=some (some (.ref N9)))(A3:WI K (.ref N9)=true)(b8:YN K (.ref N9)=true)(H5:K.lookup N9=some ⟨v9,w0,.func (YR "keep" "Desk.keep" (defArgs Hv) (defBody Hv) (defScope Hv) .none w3 w4 w5 w1 b5 w6),w2⟩)(S0:XP K b5 "Desk.keep"=true)(n_Desk_benches:ZO K (.ref e) "benches"=some none)(m_NOUGHT:Yv K ZY "NOUGHT"=some (some (.ref N)))(K7:K.lookup N=some ⟨.type "tuple",J4,.seq #[.int 0 E8,.int 1 E9] J5,J6⟩)(Mr:Yv K ZY "ONE"=some (some (.ref s6)))(L7:K.lookup s6=some ⟨.type "tuple",L4,.seq #[.int 1 K9,.int 1 L0] L5,L6⟩)(M4:Yv K ZY "LEAVING"=some (some (.ref e8)))(J0:K.lookup e8=some ⟨.type "tuple",H6,.seq #[.ref s6,.ref N,.ref N,.ref s6] H7,H8⟩)(m_ROWS:Yv K ZY "ROWS"=some (some (.ref s5)))(L3:K.lookup s5=some ⟨.type "dict",none,.dict #[⟨O1,.str "join" w7,.ref a1⟩,⟨O2,.str "turn" w8,.ref a2⟩,⟨O3,.str "show" w9,.ref a3⟩,⟨O4,.str "walk" x0,.ref a4⟩,⟨O5,.str "table" p0,.ref F⟩,⟨O6,.str "apart" p1,.ref G⟩,⟨O7,.str "image" p2,.ref I⟩,⟨O8,.str "field" p3,.ref J⟩,⟨O9,.str "sharp" p4,.ref L⟩,⟨P0,.str "rounds" k4,.ref y⟩] L2,#[]⟩)(S1:O1=Ck pr "join")(S2:O2=Ck pr "turn")(S3:O3=Ck pr "show")(S4:O4=Ck pr "walk")(S5:O5=Ck pr "table")(S6:O6=Ck pr "apart")(S7:O7=Ck pr "image")(S8:O8=Ck pr "field")(S9:O9=Ck pr "sharp")(T0:P0=Ck pr "rounds")(T1:(s5 == zp)=false)(A4:K.lookup a1=some ⟨.type "tuple",x1,.seq #[.int 3 k5,.int 0 k6] x2,x3⟩)(A5:K.lookup a2=some ⟨.type "tuple",x4,.seq #[.int 2 k7,.int 0 k8] x5,x6⟩)(A6:K.lookup a3=some ⟨.type "tuple",x7,.seq #[.int 1 k9,.int 0 l0] x8,x9⟩)(A7:K.lookup a4=some ⟨.type "tuple",y0,.seq #[.int 1 l1,.int 2 l2] y1,y2⟩)(s0:K.lookup F=some ⟨.type "tuple",p5,.seq #[.int 1 h4,.int 0 h5] p6,p7⟩)(s1:K.lookup G=some ⟨.type "tuple",p8,.seq #[.int 1 h6,.int 0 h7] p9,q0⟩)(s2:K.lookup I=some ⟨.type "tuple",q1,.seq #[.int 1 h8,.int 1 h9] q2,q3⟩)(s3:K.lookup J=some ⟨.type "tuple",q4,.seq #[.int 1 i0,.int 4 i1] q5,q6⟩)(s4:K.lookup L=some ⟨.type "tuple",q7,.seq #[.int 1 i2,.int 5 i3] q8,q9⟩)(m5:K.lookup y=some ⟨.type "tuple",l3,.seq #[.int 1 f7,.int 0 f8] l4,l5⟩)(m_ANSWERS:Yv K ZY "ANSWERS"=some (some (.ref a5)))(f_ANSWERS_show:Yv K ZY "show_answer"=some (some (.ref r)))(Ms:Yv K ZY "walk_answer"=some (some (.ref s)))(Km:Yv K ZY "table_answer"=some (some (.ref j)))(K8:Yv K ZY "apart_answer"=some (some (.ref k)))(M3:Yv K ZY "image_answer"=some (some (.ref l)))(Lx:Yv K ZY "field_answer"=some (some (.ref m)))(Mt:Yv K ZY "sharp_answer"=some (some (.ref n)))(Kh:Yv K ZY "rounds_answer"=some (some (.ref i)))(J1:K.lookup a5=some ⟨.type "dict",none,.dict #[⟨P1,.str "show" i4,.ref r⟩,⟨P2,.str "walk" i5,.ref s⟩,⟨P3,.str "table" f9,.ref j⟩,⟨P4,.str "apart" g0,.ref k⟩,⟨P5,.str "image" g1,.ref l⟩,⟨P6,.str "field" g2,.ref m⟩,⟨P7,.str "sharp" g3,.ref n⟩,⟨P8,.str "rounds" d6,.ref i⟩] H9,#[]⟩)(T2:P1=Ck pr "show")(T3:P2=Ck pr "walk")(T4:P3=Ck pr "table")(T5:P4=Ck pr "apart")(T6:P5=Ck pr "image")(T7:P6=Ck pr "field")(T8:P7=Ck pr "sharp")(T9:P8=Ck pr "rounds")(U0:(a5 == zp)=false):Exc K mg ⟨0,o,f,M,Y,h3,Z,b9,b,a,a0,J2,q,d,g,c,e,N,s6,e8,s5,a1,a2,a3,a4,F,G,I,J,L,y,a5,r,s,j,k,l,m,n,i,tGAP,tGLASS,tSTOP,tMOST_PIECES,tFIGURES,tMOST_FIGURES,tPARTED,tTIMES,tOPENED,tCLOSED,tMOST_TIMES,tMOST_DEEP,tLETTERS,tMOST_LETTERS,tDONE,tNONE,pr⟩:=⟨trivial,ZN X p m_BenchError,ZN X p m_NoNumber,ZN X p m_NoText,ZN X p m_NoTable,ZN X p m_NoBox,ZN X p m_NoStock,ZN X p m_NoWish,ZN X p m_NoRow,ZN X p m_Unknown,ZN X p m_NoBench,ZN X p Ld,ZN X p Ip,ZN X p Ig,ZN X p Hm,ZN X p JW,ZN X p JR,ZN X p m_GAP,z_GAP,ZN X p m_GLASS,z_GLASS,ZN X p m_STOP,z_STOP,ZN X p m_MOST_PIECES,ZN X p m_FIGURES,La,ZN X p m_MOST_FIGURES,ZN X p m_PARTED,z_PARTED,ZN X p m_TIMES,z_TIMES,ZN X p KC,N5,ZN X p Mm,Lr,ZN X p Jo,ZN X p Kr,ZN X p m_LETTERS,Kd,ZN X p m_MOST_LETTERS,ZN X p m_DONE,z_DONE,ZN X p MP,Ky,⟨ZN X p m_NoRow,P9⟩,⟨ZN X p m_Unknown,Q0⟩,⟨ZN X p m_NoNumber,Q1⟩,⟨ZN X p m_NoText,Q2⟩,x_NoRow_BenchError,x_Unknown_BenchError,x_NoNumber_NoNumber,k_NoRow_NoBench,k_NoRow_NoBox,k_NoRow_ValueError,k_NoRow_NoNumber,k_NoRow_NoText,k_NoRow_NoTable,k_NoRow_NoStock,k_NoRow_NoWish,k_NoRow_NoRow,k_NoRow_Unknown,k_Unknown_NoBench,k_Unknown_NoBox,k_Unknown_ValueError,k_Unknown_NoNumber,k_Unknown_NoText,k_Unknown_NoTable,k_Unknown_NoStock,k_Unknown_NoWish,k_Unknown_NoRow,k_Unknown_Unknown,⟨by rw [J7];rfl,J8,J9,K0,K2,K3,K4,K5⟩,⟨by rw [F0];rfl,F1,F2,F3,F4,F5,F6,F7⟩,⟨y3,y4,y5,y6⟩,⟨⟨_,_,Cq I1 Q3 G1,⟨F8,I0,F9,G0⟩⟩,ZN X p Ip⟩,⟨⟨_,_,Cq I3 Q4 e4,⟨I2,G2,e4⟩⟩,⟨y3,y4,y5,y6⟩⟩,⟨⟨_,_,Cq I5 Q5 e5,⟨I4,G3,e5⟩⟩,⟨y3,y4,y5,y6⟩⟩,n_Gap_length,⟨g4,g5,g6,g7⟩,⟨⟨_,_,Cq y8 Q6 r3,⟨r0,y7,r1,r2⟩⟩,ZN X p Ig⟩,⟨⟨_,_,Cq z0 Q7 a9,⟨y9,r4,a9⟩⟩,⟨g4,g5,g6,g7⟩⟩,⟨⟨_,_,Cq z2 Q8 b0,⟨z1,r5,b0⟩⟩,⟨g4,g5,g6,g7⟩⟩,n_Glass_strength,⟨l6,l7,l8,l9⟩,⟨⟨_,_,Cq G5 Q9 z6,⟨z3,G4,z4,z5⟩⟩,ZN X p Hm⟩,⟨⟨_,_,Cq G7 R0 b6,⟨G6,z7,b6⟩⟩,⟨l6,l7,l8,l9⟩⟩,⟨⟨_,_,Cq G9 R1 b7,⟨G8,z8,b7⟩⟩,⟨l6,l7,l8,l9⟩⟩,n_Stop_low,n_Stop_high,⟨B,C,D,E⟩,⟨⟨_,_,Cq r7 R2 m3,⟨m0,r6,m1,m2⟩⟩,ZN X p JW⟩,⟨⟨_,_,Cq g9 R3 v,⟨g8,d7,v⟩⟩,⟨B,C,D,E⟩⟩,⟨⟨_,_,Cq r9 R4 R,⟨r8,m4,R⟩⟩,⟨B,C,D,E⟩⟩,⟨⟨_,_,Cq h1 R5 x,⟨h0,d8,x⟩⟩,⟨B,C,D,E⟩⟩,n_Reader_words,n_Reader_place,⟨S,T,U,V⟩,⟨⟨_,_,Cq H1 R6 A2,⟨z9,H0,A0,A1⟩⟩,ZN X p JR⟩,⟨⟨_,_,Cq I7 R7 e6,⟨I6,H2,e6⟩⟩,⟨S,T,U,V⟩⟩,⟨⟨_,_,Cq I9 R8 e7,⟨I8,H3,e7⟩⟩,⟨S,T,U,V⟩⟩,⟨⟨_,_,Cq i7 R9 A,⟨i6,h2,A⟩⟩,⟨S,T,U,V⟩⟩,⟨⟨_,_,Cq H5 S0 b8,⟨H4,A3,b8⟩⟩,⟨S,T,U,V⟩⟩,n_Desk_benches,ZN X p m_NOUGHT,λ H=>.inr ⟨_,_,_,K7,rfl,rfl,by show 2<=X2;decide,(.cons ⟨_,rfl⟩ (.cons ⟨_,rfl⟩ .nil))⟩,ZN X p Mr,λ H=>.inr ⟨_,_,_,L7,rfl,rfl,by show 2<=X2;decide,(.cons ⟨_,rfl⟩ (.cons ⟨_,rfl⟩ .nil))⟩,ZN X p M4,λ H=>.inr ⟨_,_,_,J0,rfl,rfl,by show 4<=X2;decide,(.cons rfl (.cons rfl (.cons rfl (.cons rfl .nil))))⟩,ZN X p m_ROWS,λ P w O0=>VP O0 L3 (.cons S1 rfl rfl (.cons S2 rfl rfl (.cons S3 rfl rfl (.cons S4 rfl rfl (.cons S5 rfl rfl (.cons S6 rfl rfl (.cons S7 rfl rfl (.cons S8 rfl rfl (.cons S9 rfl rfl (.cons T0 rfl rfl .nil)))))))))) (show zh [("join":Str),("turn":Str),("show":Str),("walk":Str),("table":Str),("apart":Str),("image":Str),("field":Str),("sharp":Str),("rounds":Str)] by decide+kernel) T1,λ H=>.inr ⟨_,_,_,A4,rfl,rfl,by show 2<=X2;decide,(.cons ⟨_,rfl⟩ (.cons ⟨_,rfl⟩ .nil))⟩,λ H=>.inr ⟨_,_,_,A5,rfl,rfl,by show 2<=X2;decide,(.cons ⟨_,rfl⟩ (.cons ⟨_,rfl⟩ .nil))⟩,λ H=>.inr ⟨_,_,_,A6,rfl,rfl,by show 2<=X2;decide,(.cons ⟨_,rfl⟩ (.cons ⟨_,rfl⟩ .nil))⟩,λ H=>.inr ⟨_,_,_,A7,rfl,rfl,by show 2<=X2;decide,(.cons ⟨_,rfl⟩ (.cons ⟨_,rfl⟩ .nil))⟩,λ H=>.inr ⟨_,_,_,s0,rfl,rfl,by show 2<=X2;decide,(.cons ⟨_,rfl⟩ (.cons ⟨_,rfl⟩ .nil))⟩,λ H=>.inr ⟨_,_,_,s1,rfl,rfl,by show 2<=X2;decide,(.cons ⟨_,rfl⟩ (.cons ⟨_,rfl⟩ .nil))⟩,λ H=>.inr ⟨_,_,_,s2,rfl,rfl,by show 2<=X2;decide,(.cons ⟨_,rfl⟩ (.cons ⟨_,rfl⟩ .nil))⟩,λ H=>.inr ⟨_,_,_,s3,rfl,rfl,by show 2<=X2;decide,(.cons ⟨_,rfl⟩ (.cons ⟨_,rfl⟩ .nil))⟩,λ H=>.inr ⟨_,_,_,s4,rfl,rfl,by show 2<=X2;decide,(.cons ⟨_,rfl⟩ (.cons ⟨_,rfl⟩ .nil))⟩,λ H=>.inr ⟨_,_,_,m5,rfl,rfl,by show 2<=X2;decide,(.cons ⟨_,rfl⟩ (.cons ⟨_,rfl⟩ .nil))⟩,ZN X p m_ANSWERS,ZN X p f_ANSWERS_show,ZN X p Ms,ZN X p Km,ZN X p K8,ZN X p M3,ZN X p Lx,ZN X p Mt,ZN X p Kh,λ P w O0=>VP O0 J1 (.cons T2 rfl rfl (.cons T3 rfl rfl (.cons T4 rfl rfl (.cons T5 rfl rfl (.cons T6 rfl rfl (.cons T7 rfl rfl (.cons T8 rfl rfl (.cons T9 rfl rfl .nil)))))))) (show zh [("show":Str),("walk":Str),("table":Str),("apart":Str),("image":Str),("field":Str),("sharp":Str),("rounds":Str)] by decide+kernel) U0⟩
section
variable {P:Yg}{w:World}{K:FrG}{mg:Str->Option Value}{base:Heap}{ad:Adr}{c:Bool}
theorem WY (T:Txt K mg ad):CalB P w K mg base true 1 "is_whole" ["thing"] (fM K):=by
 refine T.RP.calN uP (λ _ _ _ _ _ _=>Bk λ _=>rfl) (λ vs H Q E h=>?_) (λ f cdv A outer s H vs Q E j h=>?_)
 ·obtain ⟨v,d,rfl,_⟩:=h;rfl
 obtain ⟨v,d,rfl,hv,q⟩:=h;obtain ⟨b,a,hb,i,e⟩:=oW d;refine ⟨_,(Ah (Av (IW (BV Dh rfl T.isinstance CQ (Ad (pv 0) (Ad (Df (v:=.ty "int") rfl T.int Iu rfl) Aa))) (Hy (W6 (BV Dh rfl T.isinstance CQ (Ad (pv 0) (Ad (Df (v:=.ty "bool") rfl T.bool sZ rfl) Aa)))))))),?_⟩;refine ⟨_,rfl,_,_,_,b,rfl,hv,hb,_,rfl,?_⟩;cases b with
 | false=>
  have g:Et d=false:=e.symm;rw [g] at q;exact iteF q
 | true=>
  refine iteT ?_;refine ⟨_,rfl,_,_,_,a,rfl,hv,i,_,rfl,?_⟩;have g:(!a)=Et d:=e;show Q (.bl (!a)) H;rw [g];exact q
theorem aH (T:Txt K mg ad):CalB P w K mg base true 1 "common_divisor" ["one","other"] vd:=by
 refine T.Qz.calN Gk (λ _ _ _ _ _ _=>CJ λ _ _=>rfl) (λ vs H Q E h=>?_) (λ f cdv A outer s H vs Q E u h=>?_)
 ·obtain ⟨a,b,rfl,_⟩:=h;rfl
 obtain ⟨a,b,rfl,q⟩:=h;refine ⟨_,(Ae (Aq (i:=2) Gk.nd (BV N8 rfl T.abs Lz (Ad (pv 0) Aa))) (Ae (Aq (i:=3) Gk.nd (BV N8 rfl T.abs Lz (Ad (pv 1) Aa))) (Ae (Lb UI (BL DK (pv 3) Ab) (Ae (Aq (i:=4) Gk.nd (Ak CT (pv 2) (pv 3))) (Ae (Aq (i:=2) Gk.nd (pv 3)) (Ah (Aq (i:=3) Gk.nd (pv 4)))))) (Ah (Av (pv 2)))))),?_⟩;refine ⟨_,rfl,_,rfl,_,rfl,_,rfl,?_⟩;have j:=Fr.Jp a;have l:=Fr.Jp b;refine ⟨λ k o d=>H=d/\∃(m:Nat) (r:Option V),o=[some (.int a),some (.int b),some (.int m),some (.int k),r]/\we m k=we a.natAbs b.natAbs,⟨b.natAbs,rfl,a.natAbs,none,by rw [<- j,<- l];rfl,rfl⟩,?_⟩
 rintro n _ _ ⟨rfl,m,r,rfl,e⟩
 refine ⟨_,rfl,rfl,_,rfl,?_⟩;refine ite2 (λ c=>?_) (λ c=>?_)
 ·have hn:n≠0:=by
   intro p;subst p;simp at c
  have t:(m:Int) % (n:Int)=((m % n:Nat):Int):=(ja m n).symm;refine ⟨λ g d=>H=d/\g=[some (.int a),some (.int b),some (.int n),some (.int ((m:Int) % (n:Int))),some (.int ((m:Int) % (n:Int)))],?_,?_⟩
  ·rintro _ _ ⟨rfl,rfl⟩
   rw [t];exact ⟨m % n,FB _ (by omega),rfl,n,_,rfl,by rw [Fr.Wy,e]⟩
  ·exact ⟨_,rfl,_,rfl,_,_,rfl,rfl,(by show (0:Int) < (n:Int);omega),_,rfl,_,rfl,rfl,rfl⟩
 ·have hn:n=0:=by
   by_cases p:n=0
   ·exact p
   ·exfalso
    apply c
    rw [Dj];simp
    omega
  subst hn;refine ⟨_,rfl,?_⟩;have e2:(m:Int)=Fr.gcd a b:=by
   unfold Fr.gcd;rw [<- e,Nat.gcd_zero_right]
  rw [e2];exact q
theorem ZV (T:Txt K mg ad):CalB P w K mg base true 2 "is_ratio" ["thing"] (qK K):=by
 refine T.M5.calN HJ (λ _ _ _ _ _ _=>Bk λ _=>rfl) (λ vs H Q E h=>?_) (λ f cdv A outer s H vs Q E d h=>?_)
 ·obtain ⟨_,_,rfl,_⟩:=h;rfl
 obtain ⟨v,b,rfl,hv,q⟩:=h;obtain ⟨a,rfl,ha⟩:=hv.fr;refine ⟨_,(Ae (Az (PW.pt (pw_or (Bt (Bf (BV Dh rfl T.isinstance CQ (Ad (pv 0) (Ad (Df (v:=.ty "tuple") rfl T.tuple SN rfl) Aa))))) (pw_or1 (BL DK (BV CV rfl T.len CK (Ad (pv 0) Aa)) Ab)))) (Ah (Av Dd)) BJ) (Ae (Aq (i:=1) HJ.nd (Ai BW (pv 0) Ab)) (Ae (Aq (i:=2) HJ.nd (Ai BW (pv 0) Ab)) (Ae (Az (PW.pt (pw_or (Bt (Bf (Ao (WY T) d.m Aw (Ad (pv 1) Aa)))) (pw_or1 (Bt (Bf (Ao (WY T) d.m Aw (Ad (pv 2) Aa))))))) (Ah (Av Dd)) BJ) (Ah (Av (IW (Ea XX (pv 2) Ab) (Hy (Ea Bj (Ao (aH T) d.m Aw (Ad (pv 1) (Ad (pv 2) Aa))) Ab))))))))),?_⟩
 refine ⟨_,rfl,_,_,_,_,rfl,hv,QL _,_,rfl,iteF ?_⟩;refine ⟨_,rfl,a,_,rfl,.inr ha,rfl,_,rfl,iteF ?_⟩;refine ⟨_,rfl,a,_,_,_,rfl,rfl,ha,rfl,?_⟩;refine ⟨_,rfl,a,_,_,_,rfl,rfl,ha,rfl,?_⟩;refine ⟨_,rfl,_,_,rfl,.int _,_,rfl,iteF ?_⟩;refine ⟨_,rfl,_,_,rfl,.int _,_,rfl,iteF ?_⟩;refine ⟨_,rfl,_,_,rfl,rfl,_,rfl,Bu (decide_eq_true (Le b)) ⟨_,rfl,_,rfl,_,_,rfl,rfl,?_⟩⟩;show Q (.bl (decide (V.int (Fr.gcd b.num (b.den:Int))=V.int 1))) H;rw [Dj,decide_eq_true (ZW b)];exact q
theorem iV (T:Txt K mg ad):CalB P w K mg base true 2 "is_ratio" ["thing"] (bK K):=by
 refine T.M5.calN HJ (λ _ _ _ _ _ _=>Bk λ _=>rfl) (λ vs H Q E h=>?_) (λ f cdv A outer s H vs Q E n h=>?_)
 ·obtain ⟨_,_,rfl,_⟩:=h;rfl
 obtain ⟨v,d,rfl,hv,q⟩:=h;refine ⟨_,(Ae (Az (PW.pt (pw_or (Bt (Bf (BV Dh rfl T.isinstance CQ (Ad (pv 0) (Ad (Df (v:=.ty "tuple") rfl T.tuple SN rfl) Aa))))) (pw_or1 (BL DK (BV CV rfl T.len CK (Ad (pv 0) Aa)) Ab)))) (Ah (Av Dd)) BJ) (Ae (Aq (i:=1) HJ.nd (Ai BW (pv 0) Ab)) (Ae (Aq (i:=2) HJ.nd (Ai BW (pv 0) Ab)) (Ae (Az (PW.pt (pw_or (Bt (Bf (Ao (WY T) n.m Aw (Ad (pv 1) Aa)))) (pw_or1 (Bt (Bf (Ao (WY T) n.m Aw (Ad (pv 2) Aa))))))) (Ah (Av Dd)) BJ) (Ah (Av (IW (Ea XX (pv 2) Ab) (Hy (Ea Bj (Ao (aH T) n.m Aw (Ad (pv 1) (Ad (pv 2) Aa))) Ab))))))))),?_⟩
 refine ⟨_,rfl,_,_,_,_,rfl,hv,QL d,_,rfl,?_⟩;cases ht:MK d with
 | false=>
  refine iteT (iteT ?_);rw [uJ ht] at q;exact q
 | true=>
  obtain ⟨ds,rfl⟩:=dY ht;obtain ⟨a,xs,rfl,ha,l⟩:=hv.tup_of;refine iteF ?_;refine ⟨_,rfl,a,_,rfl,.inr ha,rfl,_,rfl,?_⟩;by_cases hl:ds.length=2
  ·obtain ⟨b,g,rfl⟩:∃b g,ds=[b,g]:=by
    match ds,hl with
    | [b,g],_=>exact ⟨b,g,rfl⟩
   obtain ⟨x,y,rfl,p,r⟩:=l.two;refine iteF ?_;refine ⟨_,rfl,a,_,_,_,rfl,rfl,ha,rfl,?_⟩;refine ⟨_,rfl,a,_,_,_,rfl,rfl,ha,rfl,?_⟩;refine ⟨_,rfl,_,_,rfl,p,_,rfl,?_⟩;cases t:Et b with
   | false=>
    refine iteT (iteT ?_);rw [Va (.inl t)] at q;exact q
   | true=>
    refine iteF ?_;refine ⟨_,rfl,_,_,rfl,r,_,rfl,?_⟩;cases u:Et g with
    | false=>
     refine iteT ?_;rw [Va (.inr u)] at q;exact q
    | true=>
     obtain ⟨i,rfl⟩:=Ww t;obtain ⟨j,rfl⟩:=Ww u;obtain rfl:=p.int_of;obtain rfl:=r.int_of;refine iteF ?_;refine ⟨_,rfl,_,_,rfl,rfl,_,rfl,?_⟩;have k:Q (.bl (decide (1<=j) && decide (Fr.gcd i j=1))) H:=q;refine ite2 (λ c=>?_) (λ c=>?_)
     ·have o:decide (1<=j)=true:=c;rw [o,xF] at k;refine ⟨_,rfl,_,rfl,i,j,rfl,rfl,?_⟩;show Q (.bl (decide (V.int (Fr.gcd i j)=V.int 1))) H;rw [Dj];exact k
     ·have o:decide (1<=j)=false:=wN.mpr c;rw [o,zW] at k;exact k
  ·have e:decide (V.int ((xs.length:Nat):Int)=V.int 2)=false:=by
    rw [Dj];exact decide_eq_false (by have:=l.len;omega)
   show if (!decide (V.int ((xs.length:Nat):Int)=V.int 2))=true then _ else _
   rw [e];refine iteT ?_;rw [gj hl] at q;exact q
theorem Nv (T:Txt K mg ad):CalB P w K mg base true 1 "is_less" ["one","other"] (PR K WL):=by
 refine T.QW.calN bz (λ _ _ _ _ _ _=>CJ λ _ _=>rfl) (λ vs H Q E h=>?_) (λ f cdv A outer s H vs Q E j h=>?_)
 ·obtain ⟨_,_,dv,⟨_,_,rfl,_⟩,_⟩:=h;exact dv.len
 obtain ⟨_,_,dv,⟨p,q,rfl,sp,d,rfl⟩,k⟩:=h;obtain ⟨_,_,rfl,g,i⟩:=dv.two;obtain ⟨a,rfl,ha⟩:=g.fr;obtain ⟨b,rfl,hb⟩:=i.fr;refine ⟨_,(Ah (Av (Ea Ga (Ak GF (Ai BW (pv 0) Ab) (Ai BW (pv 1) Ab)) (Ak GF (Ai BW (pv 1) Ab) (Ai BW (pv 0) Ab))))),?_⟩;refine ⟨_,rfl,a,_,_,_,rfl,rfl,ha,rfl,_,rfl,b,_,_,_,rfl,rfl,hb,rfl,_,_,rfl,rfl,GC sp.n d.dn,?_⟩;refine ⟨_,rfl,b,_,_,_,rfl,rfl,hb,rfl,_,rfl,a,_,_,_,rfl,rfl,ha,rfl,_,_,rfl,rfl,GC d.n sp.dn,_,_,rfl,rfl,?_⟩;have e:decide (p.num * (q.den:Int) < q.num * (p.den:Int))=decide (p < q):=decide_eq_decide.mpr (Fr.Z2 p q);show Q (.bl (decide (p.num * (q.den:Int) < q.num * (p.den:Int)))) H;rw [e];exact k _ _ (Same.refl _) (.bl _)
end
end K70
namespace K70
open PySem L2 Lib Fr Op
seal PE PT PW PA PS PSs PG PGs PI PO Bo
section
variable {P:Yg}{w:World}{K:FrG}{mg:Str->Option Value}{base:Heap}{ad:Adr}{c:Bool}
theorem Uy (T:Txt K mg ad):CalB P w K mg base true 3 "is_piece" ["thing"] (qP K):=by
 refine T.SQ.calN dD (λ _ _ _ _ _ _=>Bk λ _=>rfl) (λ vs H Q E h=>?_) (λ f cdv A outer s H vs Q E z h=>?_)
 ·obtain ⟨_,_,_,rfl,_⟩:=h;rfl
 obtain ⟨v,a7,m,rfl,hv,ok,pb,hm,q⟩:=h;obtain ⟨N,a8,R,sh⟩:=gM ok pb;rw [R] at hv;obtain ⟨a,xs,rfl,ha,B⟩:=hv.tup_of;obtain ⟨a9,b,rfl,C,j⟩:=B.cons_of;obtain rfl:=C.str_of;have hl:=j.len;rw [Y6] at hl;have a6:=sh.len;obtain ⟨b0,S,U⟩:∃t,PSs (Cd true P w K mg base ["thing"] "is_piece" (defScope Iz) f cdv A outer s H E).nox ((defBody Iz).drop 2) t/\∀(O:Ends) (r:Hp),Same H r->(∀g,Same H g->O.rt (.bl true) g)->t O [some (.ref a)] r:=by
  refine ⟨_,(Ae (Az (BL Bj (Ai BW (pv 0) Ab) (Bm (v:=.str "stop") rfl T.ex.m_STOP ⟨⟨_,T.ex.z_STOP⟩,rfl⟩)) (Ah (Av (IW (Ea Bj (BV CV rfl T.len CK (Ad (pv 0) Aa)) Ab) (Hy (W6 (Ao (Nv T) z.m Aw (BR (Ai BW (pv 0) Ab) (BR (Ai BW (pv 0) Ab) Aa)))))))) BJ) (Ah (Av (IW (Ea bc (Ai BW (pv 0) Ab) (De (Ad (Bm (v:=.str "gap") rfl T.ex.m_GAP ⟨⟨_,T.ex.z_GAP⟩,rfl⟩) (Ad (Bm (v:=.str "glass") rfl T.ex.m_GLASS ⟨⟨_,T.ex.z_GLASS⟩,rfl⟩) Aa)))) (Hy (Ea Bj (BV CV rfl T.len CK (Ad (pv 0) Aa)) Ab)))))),?_⟩
  intro O r t2 q;refine ⟨_,rfl,a,_,_,_,rfl,rfl,ha.keep t2,Dz,rfl,_,rfl,?_⟩;rw [Bq];cases sh with
  | stop D F G=>
   obtain ⟨b1,b2,rfl,W,X⟩:=j.two;refine Bu (by decide) ?_
   refine ⟨_,rfl,a,_,rfl,.inr (ha.keep t2),rfl,_,rfl,iteT ?_⟩;refine ⟨_,rfl,a,_,_,_,rfl,rfl,ha.keep t2,rfl,_,rfl,a,_,_,_,rfl,rfl,ha.keep t2,rfl,?_⟩;refine ⟨_,_,.cons (X.keep t2) (.cons (W.keep t2) .nil),⟨_,_,rfl,G.sm hm,F.sm hm,rfl⟩,λ v b3 Y hv=>?_⟩
   obtain rfl:=hv.bl_of;refine ⟨_,rfl,?_⟩;rw [decide_eq_false D];exact q _ (t2.trans Y)
  | one e1 e2=>
   refine BX e1 ?_;refine ⟨_,rfl,a,_,_,_,rfl,rfl,ha.keep t2,Dz,(by show 2<=X2;decide),λ Z I=>?_⟩
   have t3:=t2.trans (Al I (.tup [.str "gap",.str "glass"]));refine ⟨Z,_,rfl,.inr (SqT.of Aj),rfl,rfl,_,rfl,Bu ((fY N).trans e2) ?_⟩;refine ⟨_,rfl,a,_,rfl,.inr (ha.keep t3),rfl,?_⟩;have J:b.length=1:=hl;show O.rt (.bl (decide (V.int ((b.length+1:Nat):Int)=V.int 2))) _;rw [J];exact q _ t3
 refine ⟨_,(Ae (Az (PW.pt (pw_or (Bt (Bf (BV Dh rfl T.isinstance CQ (Ad (pv 0) (Ad (Df (v:=.ty "tuple") rfl T.tuple SN rfl) Aa))))) (pw_or (BL Ga (BV CV rfl T.len CK (Ad (pv 0) Aa)) Ab) (pw_or1 (Bt (Bf (BV Dh rfl T.isinstance CQ (BR (Ai BW (pv 0) Ab) (Ad (Df (v:=.ty "str") rfl T.str Es rfl) Aa))))))))) (Ah (Av Dd)) BJ) (Ae (Az (Bt (Bf (BV (Ks rfl) rfl T.all Kc (Dc (HB ["part"] [none] rfl (Nu (Di Qp (pv 0) (Cy Ab) Ej)) (λ _ _ _ _ _=>(CG (i:=0) (show zh [("part":Str)] by decide))) (λ _ _ _ _ _=>Em) (λ _ _ _ _ _=>(Ao (ZV T) z.m Aw (Ad (pv 0) Aa))) (Fj (by decide) (by decide)) (by decide) rfl (by decide) rfl (FZ rfl)) Aa)))) (Ah (Av Dd)) BJ) S)),?_⟩
 refine ⟨_,rfl,_,_,_,_,rfl,hv,QL _,_,rfl,iteF ?_⟩;refine ⟨_,rfl,a,_,rfl,.inr ha,_,_,rfl,rfl,_,rfl,BX (decide_eq_false (by simp only [U1];omega)) ?_⟩
 refine ⟨_,rfl,a,_,_,_,rfl,rfl,ha,Dz,_,_,_,_,rfl,C,Eh _,_,rfl,iteF ?_⟩;refine ⟨_,rfl,_,rfl,a,_,rfl,ha,(λ e=>by rw [NB] at e;simp only [U1] at e;omega),λ p a0=>⟨p,rfl,⟨_,SqT.of Aj⟩,?_⟩⟩
 rw [Pq];have u:=Al a0 (.tup ((V.str N::b).drop 1));have d:=j.keep u;have o:upd H p (.tup ((V.str N::b).drop 1)) p=some (.tup b):=Aj;generalize upd H p (.tup ((V.str N::b).drop 1))=a1 at u d o ⊢;refine S7 (K:=K) (a:=p) (xs:=b) (λ i k l g=>∃c0,k=[c0]/\l=WC i (V.bl true)/\Same a1 g) ⟨_,rfl,rfl,Same.refl _⟩ ?_ ?_ ?_
 ·rintro i k l g y ⟨c0,rfl,rfl,s'⟩
  refine ⟨?_,SqT.of (s' _ _ o)⟩;have b4:=small1000 (n:=1000) (by decide)
  rw [qE];omega
 ·rintro i x k l g y ⟨c0,rfl,rfl,s'⟩
  obtain ⟨dx,L,a2⟩:=d.get y;obtain ⟨a3,rfl⟩:=o8 L;exact ⟨_,rfl,_,a3,rfl,a2.keep s',nx (Cg y) ⟨_,rfl,List.replicate_succ'.symm,s'⟩⟩
 ·rintro k l g a4 ⟨c0,rfl,rfl,s'⟩ M
  have a5:=Al M (.lst (WC b.length (V.bl true)));refine ⟨a4,WC b.length true,rfl,SqL.of (by rw [tW];exact Aj),_,rfl,?_⟩
  rw [nY];exact iteF (U _ _ (u.trans (s'.trans a5)) q)
theorem aW (T:Txt K mg ad):CalB P w K mg base true 4 "look_at" ["bench"] (nu K):=by
 refine T.O8.calN Qh (λ _ _ _ _ _ _=>Bk λ _=>rfl) (λ vs H Q E h=>?_) (λ f cdv A outer s H vs Q E u h=>?_)
 ·obtain ⟨_,_,_,rfl,_⟩:=h;rfl
 obtain ⟨v,ps,m,rfl,hv,y,hm,q⟩:=h;obtain ⟨a,xs,rfl,ha,l⟩:=DV.lst_of hv;have hl:xs.length=ps.length:=by have:=l.len;rw [Y6] at this;exact this
 have D:=y.len;refine ⟨_,(Ae (Az (PW.pt (pw_or (Bt (Bf (BV Dh rfl T.isinstance CQ (Ad (pv 0) (Ad (Df (v:=.ty "list") rfl T.list ie rfl) Aa))))) (pw_or1 (BL Fd (BV CV rfl T.len CK (Ad (pv 0) Aa)) (Bm (v:=.int 60) rfl T.ex.m_MOST_PIECES ⟨_,rfl⟩))))) (Ah Cw) BJ) (Ah (Ef UI rfl (rO rfl T.enumerate (Ad (pv 0) Aa)) (qW (n:=2) rfl (GQ (CG (i:=1) Qh.nd) (GQ (CG (i:=2) Qh.nd) Pa))) (Ah (Az (Bt (Bf (Ao (Uy T) u.m Aw (Ad (pv 2) Aa)))) (Ah Cw) BJ))))),?_⟩
 refine ⟨_,rfl,_,_,_,_,rfl,hv,qN _,_,rfl,?_⟩;refine iteF ?_;refine ⟨_,rfl,a,_,rfl,.inl ha,_,_,rfl,rfl,_,rfl,BX (decide_eq_false (by omega)) ?_⟩
 refine ⟨_,rfl,a,rfl,⟨_,ha⟩,?_⟩;refine lX (K:=K) (a:=a) (xs:=xs) (λ i g j=>∃c1 k,g=[some (.ref a),c1,k]/\Same H j) ⟨_,_,rfl,Same.refl _⟩ ?_ ?_ ?_
 ·rintro i g j o ⟨c1,k,rfl,b⟩
  exact ha.keep b
 ·rintro i x g j p o ⟨c1,k,rfl,b⟩ z
  obtain ⟨d,hd,B⟩:=l.get o;obtain ⟨F,r,rfl⟩:=Im hd;have e:=Xb r;have t:=b.trans (Al z (.tup [.int i,x]));refine ⟨p,_,rfl,SqT.of Aj,rfl,_,_,rfl,_,_,rfl,rfl,?_⟩;exact ⟨_,rfl,_,_,_,rfl,B.keep t,y.ok _ e,y.bd _ e,hm,λ G C=>⟨_,rfl,iteF ⟨_,_,rfl,t.trans C⟩⟩⟩
 ·rintro g j ⟨c1,k,rfl,b⟩
  exact q _ b
end
end K70
namespace K70
open PySem L2 Lib Fr Op Tx PySem.NumText
seal PE PT PW PA PS PSs PG PGs PI PO Bo PJ
section
variable {P:Yg}{w:World}{K:FrG}{mg:Y2->Option Value}{base:Heap}{ad:Adr}{c:Bool}
theorem Ob (T:Txt K mg ad):CalB P w K mg base true 1 "show_ratio" ["one"] (X4 K):=by
 refine T.R8.calN Oj (λ _ _ _ _ _ _=>Bk λ _=>rfl) (λ vs H Q E h=>?_) (λ f cdv A outer s H vs Q E k h=>?_)
 ·obtain ⟨_,_,rfl,_⟩:=h;rfl
 obtain ⟨v,p,rfl,hv,sp,q⟩:=h;have hn:=Yp sp.1;have hd:=Yp sp.2;obtain ⟨a,l,m,rfl,h,e1,e2⟩:=DV.t2 (show DV K H v (.tuple [.int p.num,.int (p.den:Int)]) from hv)
 obtain rfl:=DV.int_of e1;obtain rfl:=DV.int_of e2;refine ⟨_,(Ae (Aq (i:=1) Oj.nd (Ai BW (pv 0) Ab)) (Ae (Aq (i:=2) Oj.nd (Ai BW (pv 0) Ab)) (Ae (Az (BL Bj (pv 2) Ab) (Ah (Av (Ib m9 rfl T.str Es (Ad (pv 1) Aa)))) BJ) (Ah (Av (fu (V2 (pv 1) (qd (V2 (pv 2) qw))))))))),?_⟩;refine ⟨_,rfl,a,_,_,_,rfl,rfl,h,rfl,?_⟩;refine ⟨_,rfl,a,_,_,_,rfl,rfl,h,rfl,?_⟩;refine ⟨_,rfl,rfl,_,rfl,?_⟩;have e1:∀x:Y2,cl x=sh p->x=Am p:=λ x g=>ext (g.trans (Do p).symm)
 refine ite2 (λ c1=>?_) (λ c1=>?_)
 ·have b:p.den=1:=by
   have j:decide (V.int (p.den:Int)=V.int 1)=true:=c1;rw [Dj] at j;have:=of_decide_eq_true j;omega
  refine ⟨_,rfl,_,rfl,hn,?_⟩;have e2:Y1 (toString p.num)=Am p:=e1 _ (by rw [LC];unfold sh;rw [if_pos b,UB])
  show Q (.str (Y1 (toString p.num))) H;rw [e2];exact q
 ·have b:¬ p.den=1:=by
   intro e
   apply c1
   show decide (V.int (p.den:Int)=V.int 1)=true;rw [Dj,e];rfl
  have d:((p.den:Int)).natAbs.log2 < 1920:=by rw [ze];exact hd
  have n:=Vr hn;have o:=Vr d;have z0:xS.length=0:=rfl;have zs:(Y1 "/").length=1:=rfl;refine ⟨_,rfl,_,.inl ⟨_,rfl,hn,rfl⟩,Cp (by rw [Ds];omega),Cp (by rw [Ds,Ds];omega),_,rfl,_,.inl ⟨_,rfl,d,rfl⟩,Cp (by rw [Ds,Ds,Ds];omega),Cp (by rw [Ds,Ds,Ds];omega),?_⟩
  have e2:=e1 _ (show cl ((xS++Y1 (toString p.num))++(Y1 "/")++Y1 (toString ((p.den:Nat):Int)))=sh p by
   rw [oh,cl,zT];unfold sh;rw [if_neg b])
  show Q (.str ((xS++Y1 (toString p.num))++(Y1 "/")++Y1 (toString ((p.den:Nat):Int)))) H;rw [e2];exact q
theorem oU (T:Txt K mg ad):CalB P w K mg base true 1 "read_part_figures" ["text"] qe:=by
 refine T.MT.calN YB (λ _ _ _ _ _ _=>Bk λ _=>rfl) (λ vs H Q E h=>?_) (λ f cdv A outer s H vs Q E i h=>?_)
 ·obtain ⟨_,_,rfl,_⟩:=h;rfl
 obtain ⟨x,m,rfl,b,hl,q⟩:=h;have j:x.length=(dg m).length:=by rw [<- Ci,b]
 have k:=Mv m;have d:x.length<=X2:=JA (small1000 (by omega))
 refine ⟨_,(Ae (Az (PW.pt (pw_or (Bt (Qx Gr Gr Ab (BV Q0 rfl T.len CK (Ad (pv 0) Aa)) (Bm (v:=.int 15) rfl T.ex.m_MOST_FIGURES ⟨_,rfl⟩))) (pw_or1 (Bt (Bf (BV (Ks rfl) rfl T.all Kc (Dc (R3 rfl (pv 0) T.ex.m_FIGURES (by decide) (by decide) rfl (by decide) rfl rfl rfl rfl) Aa))))))) (Ah Cw) BJ) (Ah (Av (Ib Ua rfl T.int Iu (Ad (pv 0) Aa))))),?_⟩
 refine ⟨_,rfl,x,rfl,d,_,_,rfl,rfl,_,rfl,Bu (decide_eq_true (by omega)) ⟨_,_,rfl,rfl,_,rfl,BX (by rw [decide_eq_true (by omega)];rfl) ?_⟩⟩
 refine ⟨_,rfl,x,rfl,d,λ p g=>?_⟩
 refine ⟨p,(cl x).map λ c=>decide (48<=c/\c<=57),rfl,SqL.of (by rw [U4];exact Aj),_,rfl,?_⟩
 have a:zG (cl x):=by rw [b];exact Hd m
 rw [(Rz (cl x)).mpr a];refine iteF ⟨_,rfl,x,(m:Int),rfl,by omega,?_,q _ (Al g _)⟩
 have e:=intText_digits (x:=x) a (λ e=>by have:=Ci x;rw [cl,e] at this;simp at this;omega) (by omega)
 rw [e];show some ((JY (cl x):Nat):Int)=some (m:Int);rw [b,Ff]
theorem aO (T:Txt K mg ad):CalB P w K mg base true 3 "read_ratio" ["text"] (Qo K):=by
 refine T.Ja.calN Dy (λ _ _ _ _ _ _=>Bk λ _=>rfl) (λ vs H Q E h=>?_) (λ f cdv A outer s H vs Q E g h=>?_)
 ·obtain ⟨_,rfl,_⟩:=h;rfl
 obtain ⟨q,rfl,y,k⟩:=h;have hl:=Qe q y;have ex:cl (Am q)=sh q:=Do q;have U:(Am q).length<=40:=by rw [<- Ci,ex];exact hl
 have N:=(Dw (m:=q.num.natAbs) (k:=15) (by decide)).mpr y.n
 have W:=(Dw (m:=q.den) (k:=15) (by decide)).mpr y.d
 have a1:(Am q).length+2<=X2:=JA (small1000 (by omega))
 obtain ⟨a2,X,O⟩:∃t,PSs (Cd true P w K mg base ["text","is_below","parts","top","bottom","one"] "read_ratio" (defScope Fy) f cdv A outer s H E).nox ((defBody Fy).drop 3) t/\∀(p:Addr) (ps:List Y2) (D:Hp) (Y:Ends),D p=some (.lst (ps.map V.str))->ps.map cl=cut 47 (bd q)->(∀v z,Same D z->DV K z v (BK q)->Y.rt v z)->
   t Y [some (.str (Am q)),some (.bl (decide (q.num < 0))),some (.ref p),none,none,none] D:=by
  refine ⟨_,(Ae (Az (BL Fd (BV CV rfl T.len CK (Ad (pv 2) Aa)) Ab) (Ah Cw) BJ) (Ae (Aq (i:=3) Dy.nd (Ao (oU T) g.m Aw (BR (Ai Ay (pv 2) Ab) Aa))) (Ae (Aq (i:=4) Dy.nd (Gg (BL Bj (BV CV rfl T.len CK (Ad (pv 2) Aa)) Ab) (Ao (oU T) g.m Aw (BR (Ai Ay (pv 2) Ab) Aa)) Ab)) (Ae (Aq (i:=5) Dy.nd (De (Xk (Gg (Bf (pv 1)) (Ak Fq Ab (pv 3)) (pv 3)) (Ad (pv 4) Aa)))) (Ae (Az (PW.pt (pw_or (Bt (Bf (Ao (ZV T) g.m Aw (Ad (pv 5) Aa)))) (pw_or1 (BL DK (Ao (Ob T) g.m Aw (Ad (pv 5) Aa)) (pv 0))))) (Ah Cw) BJ) (Ah (Av (pv 5)))))))),?_⟩
  intro p ps D Y e a k;rw [HN] at a;have j:(if q.num < 0 then (0:Int) - ((q.num.natAbs:Nat):Int) else ((q.num.natAbs:Nat):Int))=q.num:=by split<;>omega
  have C:∀(u:Hp) (r:Addr),u r=none->∀v:Int,v=q.num->Same D u->DV K (upd u r (.tup [.int v,.int ((q.den:Nat):Int)])) (.ref r) (BK q)/\Same D (upd u r (.tup [.int v,.int ((q.den:Nat):Int)])):=λ u r g v hv J=>by
   subst hv;exact ⟨.tup (SqT.of Aj) (.cons (.int _) (.cons (.int _) .nil)),J.trans (Al g _)⟩
  by_cases hd:q.den=1
  ·rw [if_pos hd] at a
   match ps,a,e with
   | [R],a,e=>
    have L:cl R=dg q.num.natAbs:=(zi a).1;refine ⟨_,rfl,p,_,rfl,.inl (SqL.of e),_,_,rfl,rfl,_,rfl,BX (by rfl) ?_⟩
    refine ⟨_,rfl,p,_,_,_,rfl,rfl,SqL.of e,Dz,R,q.num.natAbs,rfl,L,N,λ M B=>?_⟩
    refine ⟨_,rfl,p,_,rfl,.inl (SqL.of (B _ _ e)),rfl,_,rfl,BX (by rfl) ?_⟩
    have e1:((1:Nat):Int)=((q.den:Nat):Int):=by rw [hd]
    refine ⟨_,rfl,_,rfl,?_⟩;by_cases hn:q.num < 0
    ·rw [if_pos hn] at j;refine Bu (decide_eq_true hn) ⟨_,rfl,_,_,rfl,rfl,_,rfl,(by show 2<=X2;decide),λ r g=>?_⟩
     obtain ⟨b,l⟩:=C M r g _ j B;rw [<- e1] at b l;exact ⟨_,rfl,.ref r,q,rfl,b,⟨_,rfl,iteF ⟨_,rfl,.ref r,q,rfl,b,Gi y,_,rfl,rfl,_,rfl,BX (by rw [decide_eq_true rfl];rfl) ⟨_,rfl,k _ _ l b⟩⟩⟩⟩
    ·rw [if_neg hn] at j;refine BX (decide_eq_false hn) ⟨_,rfl,_,rfl,(by show 2<=X2;decide),λ r g=>?_⟩
     obtain ⟨b,l⟩:=C M r g _ j B;rw [<- e1] at b l;exact ⟨_,rfl,.ref r,q,rfl,b,⟨_,rfl,iteF ⟨_,rfl,.ref r,q,rfl,b,Gi y,_,rfl,rfl,_,rfl,BX (by rw [decide_eq_true rfl];rfl) ⟨_,rfl,k _ _ l b⟩⟩⟩⟩
   | [],a,_=>simp at a
   | _::_::_,a,_=>simp at a
  ·rw [if_neg hd] at a
   match ps,a,e with
   | [R,a0],a,e=>
    have L:cl R=dg q.num.natAbs:=(zi a).1;have Z:cl a0=dg q.den:=(zi (zi a).2).1;refine ⟨_,rfl,p,_,rfl,.inl (SqL.of e),_,_,rfl,rfl,_,rfl,BX (by rfl) ?_⟩
    refine ⟨_,rfl,p,_,_,_,rfl,rfl,SqL.of e,Dz,R,q.num.natAbs,rfl,L,N,λ M B=>?_⟩
    refine ⟨_,rfl,p,_,rfl,.inl (SqL.of (B _ _ e)),rfl,_,rfl,Bu (by rfl) ?_⟩
    refine ⟨_,rfl,p,_,_,_,rfl,rfl,SqL.of (B _ _ e),rfl,a0,q.den,rfl,Z,W,λ u J=>?_⟩
    have I:=B.trans J;refine ⟨_,rfl,_,rfl,?_⟩;by_cases hn:q.num < 0
    ·rw [if_pos hn] at j;refine Bu (decide_eq_true hn) ⟨_,rfl,_,_,rfl,rfl,_,rfl,(by show 2<=X2;decide),λ r g=>?_⟩
     obtain ⟨b,l⟩:=C u r g _ j I;exact ⟨_,rfl,.ref r,q,rfl,b,⟨_,rfl,iteF ⟨_,rfl,.ref r,q,rfl,b,Gi y,_,rfl,rfl,_,rfl,BX (by rw [decide_eq_true rfl];rfl) ⟨_,rfl,k _ _ l b⟩⟩⟩⟩
    ·rw [if_neg hn] at j;refine BX (decide_eq_false hn) ⟨_,rfl,_,rfl,(by show 2<=X2;decide),λ r g=>?_⟩
     obtain ⟨b,l⟩:=C u r g _ j I;exact ⟨_,rfl,.ref r,q,rfl,b,⟨_,rfl,iteF ⟨_,rfl,.ref r,q,rfl,b,Gi y,_,rfl,rfl,_,rfl,BX (by rw [decide_eq_true rfl];rfl) ⟨_,rfl,k _ _ l b⟩⟩⟩⟩
   | [],a,_=>simp at a
   | [_],a,_=>simp at a
   | _::_::_::_,a,_=>simp at a
 refine ⟨_,(Ae (Az (Bt (Bf (BV Dh rfl T.isinstance CQ (Ad (pv 0) (Ad (Df (v:=.ty "str") rfl T.str Es rfl) Aa))))) (Ah Cw) BJ) (Ae (Aq (i:=1) Dy.nd (Br Yf wf wg Ye (pv 0) (Ag Af Aa))) (Ae (Aq (i:=2) Dy.nd (Gg (Bf (pv 1)) (Br Yf XO Wp Ey (Di HD (pv 0) (Cy Ab) Ej) (Ag Af Aa)) (Br Yf XO Wp Ey (pv 0) (Ag Af Aa)))) X))),?_⟩;have st:∀x:Y2,yA x (Y1 "-")=decide ((cl x).head?=some 45):=λ x=>by rw [W5,Vw]
 have S:∀x:Y2,(Xs x (Y1 "/")).map cl=cut 47 (cl x):=λ x=>by rw [Y0,Dr]
 refine ⟨_,rfl,_,_,_,_,rfl,.str _,Eh _,_,rfl,iteF ?_⟩;refine ⟨_,rfl,rfl,_,_,rfl,rfl,?_⟩;have e1:yA (Am q) (Y1 "-")=decide (q.num < 0):=by rw [st,ex,JL]
 rw [e1];refine ⟨_,rfl,_,rfl,?_⟩;have G:=Hq q;by_cases o:q.num < 0
 ·refine Bu (decide_eq_true o) ?_;have a3:(UA (Am q) (some 1) none).length<=40:=U2 (xp _ _ _) U;refine ⟨_,rfl,_,rfl,Am q,rfl,Cp (by omega),rfl,_,_,rfl,rfl,rfl,Cp (by omega),λ p e=>?_⟩
  rw [if_pos o] at G;exact O p _ _ _ Aj (by rw [S,aR,ex,G]) λ v z s' hv=>k v z ((Al e _).trans s') hv
 ·refine BX (decide_eq_false o) ?_;refine ⟨_,rfl,rfl,_,_,rfl,rfl,rfl,Cp (by omega),λ p e=>?_⟩
  rw [if_neg o] at G;exact O p _ _ _ Aj (by rw [S,ex,G]) λ v z s' hv=>k v z ((Al e _).trans s') hv
theorem dX (T:Txt K mg ad):CalB P w K mg base true 4 "read_number_texts" ["word"] (Qo K):=by
 refine T.OD.calN jH (λ _ _ _ _ _ _=>Bk λ _=>rfl) (λ vs H Q E h=>?_) (λ f cdv A outer s H vs Q E a h=>?_)
 ·obtain ⟨_,rfl,_⟩:=h;rfl
 obtain ⟨q,rfl,b,k⟩:=h;refine ⟨_,(Ah (Wz (aO T) a.m (Ad (pv 0) Aa))),?_⟩
 exact ⟨_,rfl,q,rfl,b,k⟩
theorem gQ (T:Txt K mg ad):MkC P w K mg base 1 "Reader" ad.Reader ["self","words"] (tV ad.Reader):=by
 refine T.ex.i_Reader.mkc vX (λ _ _ _ _ _ _=>CJ λ _ _=>rfl) (λ vs H Q E h=>?_) (λ f cdv A outer s H vs Q E d h=>?_)
 ·obtain ⟨a,dx,b,rfl,_⟩:=h;rfl
 obtain ⟨a,dx,b,rfl,ha,q⟩:=h;refine ⟨_,(Ae (SJ (pv 0) (pv 1)) (Ah (SJ (pv 0) Ab))),?_⟩;refine ⟨_,rfl,_,rfl,a,ad.Reader,dx,[],rfl,ha,T.ex.l_Reader,T.ex.n_Reader_words,by decide,?_⟩
 refine ⟨_,rfl,a,ad.Reader,dx,[("words",.ref b)],rfl,Aj,T.ex.l_Reader,T.ex.n_Reader_place,by show 1 < 1000;decide,?_⟩
 rw [pD];exact q
theorem Oi (T:Txt K mg ad):MC P w K mg base 1 ad.Reader "is_done" ["self"] (lU ad.Reader):=by
 refine T.ex.q_Reader_is_done.mc vg (λ _ _ _ _ _ _=>Bk λ _=>rfl) (λ vs H Q E h=>?_) (λ f cdv A outer s H vs Q E g h=>?_)
 ·obtain ⟨_,_,_,_,_,rfl,_⟩:=h;rfl
 obtain ⟨a,dx,e,d,i,rfl,b,q⟩:=h;refine ⟨_,(Ah (Av (Ea Bj (Ek (pv 0)) (BV CV rfl T.len CK (Dc (Ek (pv 0)) Aa))))),?_⟩;refine ⟨_,rfl,a,_,dx,_,_,rfl,b.r,T.ex.l_Reader,T.ex.n_Reader_place,rfl,_,rfl,a,_,dx,_,_,rfl,b.r,T.ex.l_Reader,T.ex.n_Reader_words,rfl,e,_,rfl,.inl (SqL.of b.w),rfl,?_⟩;rw [Dj,Y6,show decide (((i:Nat):Int)=((d.length:Nat):Int))=decide (i=d.length) from decide_eq_decide.mpr ⟨λ h=>by omega,λ h=>by omega⟩]
 exact q
theorem IK (T:Txt K mg ad):MC P w K mg base 2 ad.Reader "take" ["self"] (iZ ad.Reader):=by
 refine T.ex.q_Reader_take.mc nQ (λ _ _ _ _ _ _=>Bk λ _=>rfl) (λ vs H Q E h=>?_) (λ f cdv A outer s H vs Q E l h=>?_)
 ·obtain ⟨_,_,_,_,_,_,rfl,_⟩:=h;rfl
 obtain ⟨a,dx,g,n,i,o,rfl,b,j,q⟩:=h;have p:=Cg j;refine ⟨_,(Ae (Az (Bf (GR (k:=1) (pv 0) l.m)) (Ah Cw) BJ) (Ae (Um (pv 0) Ab WD) (Ah (Av (Ai Ay (Ek (pv 0)) (Ak Fq (Ek (pv 0)) Ab)))))),?_⟩
 refine ⟨_,rfl,a,_,dx,_,_,_,rfl,b.r,rfl,Oi T,a,dx,g,n,i,rfl,b,_,rfl,BX (decide_eq_false (by omega)) ?_⟩
 refine ⟨_,rfl,a,_,dx,_,_,rfl,b.r,T.ex.l_Reader,T.ex.n_Reader_place,rfl,_,_,rfl,rfl,dx,_,b.r,by show 2 < 1000;decide,?_⟩
 have d:=b.step (i+1);have e:((i:Int)+1)=((i+1:Nat):Int):=by omega
 rw [e];refine ⟨_,rfl,a,_,dx,_,_,rfl,d.r,T.ex.l_Reader,T.ex.n_Reader_words,rfl,_,rfl,a,_,dx,_,_,rfl,d.r,T.ex.l_Reader,T.ex.n_Reader_place,rfl,_,_,rfl,rfl,g,_,_,.str o,rfl,rfl,SqL.of d.w,?_,q⟩;have e2:((i+1:Nat):Int) - 1=(i:Int):=by omega
 rw [e2];exact Bb (by rw [YA,j];rfl)
theorem lZ (T:Txt K mg ad):MC P w K mg base 2 ad.Reader "take_if" ["self","word"] (mL ad.Reader):=by
 refine T.ex.q_Reader_take_if.mc rZ (λ _ _ _ _ _ _=>CJ λ _ _=>rfl) (λ vs H Q E h=>?_) (λ f cdv A outer s H vs Q E p h=>?_)
 ·obtain ⟨_,_,_,_,_,_,rfl,_⟩:=h;rfl
 obtain ⟨a,dx,l,b,i,u,rfl,d,le,q,n⟩:=h;refine ⟨_,(Ae (Az (PW.pt (pw_or (Bf (GR (k:=1) (pv 0) p.m)) (pw_or1 (BL DK (Ai Ay (Ek (pv 0)) (Ek (pv 0))) (pv 1))))) (Ah (Av Dd)) BJ) (Ae (Um (pv 0) Ab WD) (Ah (Av Dd)))),?_⟩
 refine ⟨_,rfl,a,_,dx,_,_,_,rfl,d.r,rfl,Oi T,a,dx,l,b,i,rfl,d,_,rfl,?_⟩;by_cases o:i=b.length
 ·refine Bu (decide_eq_true o) (iteT (n λ e=>?_))
  have:=Cg e;omega
 ·refine BX (decide_eq_false o) ?_;have t:i < b.length:=by omega
  have j:b[i]?=some b[i]:=XU t;refine ⟨_,rfl,a,_,dx,_,_,rfl,d.r,T.ex.l_Reader,T.ex.n_Reader_words,rfl,_,rfl,a,_,dx,_,_,rfl,d.r,T.ex.l_Reader,T.ex.n_Reader_place,rfl,l,_,_,.str b[i],rfl,rfl,SqL.of d.w,Bb (by rw [YA,j];rfl),_,rfl,rfl,_,rfl,?_⟩
  by_cases g:b[i]=u
  ·refine BX (by rw [Bq,decide_eq_true g];rfl) ?_
   refine ⟨_,rfl,a,_,dx,_,_,rfl,d.r,T.ex.l_Reader,T.ex.n_Reader_place,rfl,_,_,rfl,rfl,dx,_,d.r,by show 2 < 1000;decide,?_⟩
   have e:((i:Int)+1)=((i+1:Nat):Int):=by omega
   rw [e];exact q (by rw [j,g])
  ·exact Bu (by rw [Bq,decide_eq_false g];rfl) (n (by rw [j];exact λ e=>g (UN e)))
theorem d7 (T:Txt K mg ad):CalB P w K mg base true 1 "words_of" ["text"] jg:=by
 refine T.O3.calN Pz (λ _ _ _ _ _ _=>Bk λ _=>rfl) (λ vs H Q E h=>?_) (λ f cdv A outer s H vs Q E a0 h=>?_)
 ·obtain ⟨_,rfl,_⟩:=h;rfl
 obtain ⟨x,rfl,U,W,J,q⟩:=h;refine ⟨_,(Ae (Aq (i:=1) Pz.nd (Bl Aa)) (Ae (Ef UI rfl (Dv (Br Yf XO Wp Ey (pv 0) (Ag Af Aa))) (CG (i:=2) Pz.nd) (Ah (Az (Bf (Br Yf PySem.F.slot_str_endswith PySem.F.type_str_endswith lG (pv 2) (Ad (Bm (v:=.str ";") rfl T.ex.m_PARTED ⟨⟨_,T.ex.z_PARTED⟩,rfl⟩) Aa))) (Ae (DP (Br WJ WX WZ Ez (pv 1) (BR (Di HD (pv 2) Ej (Cy (kZ bN Ab))) Aa))) (Ah (DP (Br WJ WX WZ Ez (pv 1) (Ad (Bm (v:=.str ";") rfl T.ex.m_PARTED ⟨⟨_,T.ex.z_PARTED⟩,rfl⟩) Aa))))) (Ah (DP (Br WJ WX WZ Ez (pv 1) (Ad (pv 2) Aa))))))) (Ah (Av (pv 1))))),?_⟩;refine ⟨(by show 0<=X2;decide),λ l hl=>?_⟩
 have u0:=Al hl (.lst []);have B:upd H l (.lst []) l=some (.lst []):=Aj;generalize upd H l (.lst [])=L at u0 B ⊢;refine ⟨_,rfl,rfl,x,_,rfl,rfl,rfl,U,λ p r=>⟨p,rfl,⟨_,SqL.of Aj⟩,?_⟩⟩
 have C:p≠l:=λ e=>by rw [e,B] at r;cases r
 have D:upd L p (.lst ((Xs x (Y1 " ")).map V.str)) p=some (.lst ((Xs x (Y1 " ")).map V.str)):=Aj;have M:=Al r (.lst ((Xs x (Y1 " ")).map V.str)) _ _ B;have N:=u0.trans (Al r (.lst ((Xs x (Y1 " ")).map V.str)));generalize upd L p (.lst ((Xs x (Y1 " ")).map V.str))=a1 at D M N ⊢;generalize a2:Xs x (Y1 " ")=k at W J q D ⊢;have X:∀i,(CW (k.take i)).length<=40002:=by
  intro i;have a3:∀G:List Y2,(CW G).length<=2 * G.length:=by
   intro G
   induction G with
   | nil=>exact YE _
   | cons w G a4=>
    have e:CW (w::G)=DW w++CW G:=by unfold CW;rw [YV,zI]
    rw [e,ZA,U1];have:(DW w).length<=2:=by unfold DW;split<;>simp
    omega
  have:=a3 (k.take i);rw [Uf] at this;omega
 have step:∀(i:Nat) (g:Y2),k[i]?=some g->CW (k.take (i+1))=CW (k.take i)++DW g:=by
  intro i g Y;rw [JE,Y];unfold CW;rw [YP,List.flatten_append];simp
 refine HQ (K:=K) (a:=p) (xs:=k.map V.str) (λ i t d=>∃u,t=[some (.str x),some (.ref l),u]/\Same H d/\d p=some (.lst (k.map V.str))/\d l=some (.lst ((CW (k.take i)).map V.str))) ⟨_,rfl,N,D,by rw [wD];exact M⟩ ?_ ?_ ?_
 ·rintro i t d m ⟨u,rfl,n,j,b⟩
  exact SqL.of j
 ·rintro i v t d m ⟨u,rfl,n,j,b⟩
  rw [YA] at m;cases y:k[i]? with
  | none=>rw [y] at m;cases m
  | some g=>
   rw [y] at m;cases m
   have O:=step i g y;have a5:=X i;have Z:g.length<=X2:=U2 (J g (Xb y)) (by decide)
   refine ⟨_,rfl,rfl,g,_,rfl,rfl,_,rfl,?_⟩;cases R:ql g (Y1 ";") with
   | true=>
    have I:DW g=[UA g none (some (-1)),Y1 ";"]:=by unfold DW;rw [if_pos R]
    refine iteT ⟨_,rfl,.inl ⟨rfl,_,SqL.of b⟩,_,rfl,_,rfl,_,rfl,g,rfl,Z,l,_,_,rfl,rfl,b,O6 (by rw [Y6];omega),?_⟩
    have o:upd d l (.lst ((CW (k.take i)).map V.str++[.str (UA g none (some (-1)))])) l=some (.lst ((CW (k.take i)).map V.str++[.str (UA g none (some (-1)))])):=Aj;have z:upd d l (.lst ((CW (k.take i)).map V.str++[.str (UA g none (some (-1)))])) p=some (.lst (k.map V.str)):=by rw [Ax C];exact j
    have S:=Jj n hl (.lst ((CW (k.take i)).map V.str++[.str (UA g none (some (-1)))]));generalize upd d l (.lst ((CW (k.take i)).map V.str++[.str (UA g none (some (-1)))]))=a6 at o z S ⊢;refine ⟨_,rfl,.inl ⟨rfl,_,SqL.of o⟩,l,_,_,rfl,rfl,o,O6 (by rw [ZA,Y6];simp only [U1,WA];omega),?_⟩
    refine ⟨_,rfl,Jj S hl _,by rw [Ax C];exact z,?_⟩
    rw [Aj,O,I,YP,US];rfl
   | false=>
    have I:DW g=[g]:=by unfold DW;rw [if_neg (by rw [R];exact ZE)]
    refine iteF ⟨_,rfl,.inl ⟨rfl,_,SqL.of b⟩,_,rfl,l,_,_,rfl,rfl,b,O6 (by rw [Y6];omega),?_⟩
    refine ⟨_,rfl,Jj n hl _,by rw [Ax C];exact j,?_⟩
    rw [Aj,O,I,YP];rfl
 ·rintro t d ⟨u,rfl,n,j,b⟩
  rw [Y6,QI] at b;exact ⟨_,rfl,q l d n hl b⟩
theorem o7 (T:Txt K mg ad):CalB P w K mg base true 1 "read_part_figures" ["text"] (iw ad.NoNumber):=by
 refine T.MT.calB YB (λ _ _ _ _ _ _=>Bk λ _=>rfl) (λ vs H Q E h=>?_) (λ f cdv A outer s H vs Q E y h=>?_)
 ·obtain ⟨_,rfl,_⟩:=h;rfl
 obtain ⟨x,rfl,o,h⟩:=h;have l:x.length<=X2:=U2 o (by decide)
 refine ⟨_,(Ae (Az (PW.pt (pw_or (Bt (Qx Gr Gr Ab (BV Q0 rfl T.len CK (Ad (pv 0) Aa)) (Bm (v:=.int 15) rfl T.ex.m_MOST_FIGURES ⟨_,rfl⟩))) (pw_or1 (Bt (Bf (BV (Ks rfl) rfl T.all Kc (Dc (R3 rfl (pv 0) T.ex.m_FIGURES (by decide) (by decide) rfl (by decide) rfl rfl rfl rfl) Aa))))))) (Ah (Ei Ba rfl T.ex.c_NoNumber (Ag Af Aa))) BJ) (Ah (Av (Ib Ua rfl T.int Iu (Ad (pv 0) Aa))))),?_⟩
 refine ⟨_,rfl,x,rfl,l,_,_,rfl,rfl,_,rfl,?_⟩;have u:∀(p:Addr),H p=none->∀r:Prop,((((cl x).map λ c=>decide (48<=c/\c<=57)).all id)=true->1<=x.length->x.length<=15->r)->True:=λ _ _ _ _=>trivial
 have j:∀g,Same H g->¬ (zG (cl x)/\1<=x.length/\x.length<=15)->((1:Nat)<=X2/\E (.ref ad.NoNumber) none g):=λ g s' n=>by
  rcases h with ⟨a,b,c,q⟩ | ⟨_,q⟩
  ·exact absurd ⟨a,b,c⟩ n
  ·exact ⟨by decide,q g s'⟩
 refine ite2 (λ c1=>?_) (λ c1=>?_)
 ·have m:(1:Int)<=(x.length:Int):=of_decide_eq_true c1;refine ⟨_,_,rfl,rfl,_,rfl,?_⟩;by_cases k:(x.length:Int)<=15
  ·rw [show decide ((x.length:Int)<=15)=true from decide_eq_true k]
   refine iteF ?_;refine ⟨_,rfl,x,rfl,l,λ p t=>?_⟩
   refine ⟨p,(cl x).map λ c=>decide (48<=c/\c<=57),rfl,SqL.of (by rw [U4];exact Aj),_,rfl,?_⟩
   have sp:=Al t (.lst ((zf x).map λ i=>V.bl (!(Xt (Y1 "0123456789") i 0 (Y1 "0123456789").length 1).isEmpty)))
   by_cases d:zG (cl x)
   ·rw [(Rz (cl x)).mpr d];refine iteF ?_;rcases h with ⟨a,b,c,q⟩ | ⟨n,q⟩
    ·refine ⟨_,rfl,x,_,rfl,by omega,intText_digits a (λ e=>?_) (by omega),q _ sp⟩
     have:=Ci x;rw [cl,e] at this;simp at this
     omega
    ·exact absurd ⟨d,by omega,by omega⟩ n
   ·have e:(((cl x).map λ c=>decide (48<=c/\c<=57)).all id)=false:=wN.mpr λ i=>d ((Rz _).mp i)
    rw [e];exact iteT (j _ sp λ i=>d i.1)
  ·rw [show decide ((x.length:Int)<=15)=false from decide_eq_false k]
   exact iteT (iteT (j _ (Same.refl _) λ i=>k (by omega)))
 ·have m:¬ (1:Int)<=(x.length:Int):=λ i=>c1 (decide_eq_true i)
  refine ⟨_,rfl,?_⟩;exact iteT (iteT (j _ (Same.refl _) λ i=>m (by omega)))
abbrev NR:List Y2:=["text","is_below","parts","top","bottom","one"]
abbrev XR (P:Yg)(w:World)(K:FrG)(mg:Y2->Option Value)(base:Heap)(f:Addr)(cdv:Value)(A:XE)(outer:List Env)(s:X1)(H:Hp)(E:XK):Cx:=Cd true P w K mg base NR "read_ratio" (defScope Fy) f cdv A outer s H E
abbrev bodyR:List Stmt:=defBody Fy
theorem dN (T:Txt K mg ad)(H:Hp):DV K H (.ref ad.NOUGHT) (BK 0):=.tup (T.ex.s_NOUGHT H) (.cons (.int 0) (.cons (.int 1) .nil))
theorem VN {q:Rat}(h:Short q):Bd 1900 q:=by
 have a:(10:Nat) ^ 15<=2 ^ 50:=by decide
 have b:Bd 50 q:=⟨W1 h.n a,W1 h.d a⟩;exact b.mono (by decide)
theorem fD (T:Txt K mg ad){f:Addr}{cdv:Value}{A:XE}{outer:List Env}{s:X1}{H:Hp}{E:XK}(l:RoomB true 2 (XR P w K mg base f cdv A outer s H E).A):∃t,PSs (XR P w K mg base f cdv A outer s H E) (bodyR.drop 7) t/\
  (∀(x:Y2) (n:Bool) (p r:Addr) (i j:Int) (q:Rat) (d:Hp) (g:Ends),d r=some (Fz q)->cl x=sh q->Short q->g.rt (.ref r) d->t g [some (.str x),some (.bl n),some (.ref p),some (.int i),some (.int j),some (.ref r)] d)/\
  (∀(x:Y2) (n:Bool) (p r:Addr) (i j a b:Int) (d:Hp) (g:Ends),d r=some (.tup [.int a,.int b])->a.natAbs < 10 ^ 15->b.natAbs < 10 ^ 15->(∀q,Short q->cl x≠sh q)->E (.ref ad.NoNumber) none d->t g [some (.str x),some (.bl n),some (.ref p),some (.int i),some (.int j),some (.ref r)] d):=by
 refine ⟨_,(Ae (Az (PW.pt (pw_or (Bt (Bf (Ao (iV T) l.m (Bp Ba) (Ad (pv 5) Aa)))) (pw_or1 (BL DK (Ao (Ob T) l.m (Bp Ba) (Ad (pv 5) Aa)) (pv 0))))) (Ah (Ei Ba rfl T.ex.c_NoNumber (Ag Af Aa))) BJ) (Ah (Av (pv 5)))),?_,?_⟩
 ·intro x n p r i j q d g h e C k;have dv:DV K d (.ref r) (BK q):=.tup (SqT.of h) (.cons (.int _) (.cons (.int _) .nil));refine ⟨_,rfl,_,_,rfl,dv,_,rfl,?_⟩;have D:(1:Int)<=((q.den:Nat):Int):=by have:=Le q;omega
  refine BX (by show (!(decide (1<=((q.den:Nat):Int)) && decide (Fr.gcd q.num ((q.den:Nat):Int)=1)))=false;rw [decide_eq_true D,decide_eq_true (ZW q)];rfl) ?_
  refine ⟨_,rfl,_,q,rfl,dv,VN C,_,rfl,rfl,_,rfl,?_⟩;have ex:Am q=x:=ext ((Do q).trans e.symm);refine iteNS (by rw [ex]) ?_
  exact ⟨_,rfl,k⟩
 ·intro x n p r i j a b d g h ha hb F k;have o:(1:Nat)<=X2/\E (.ref ad.NoNumber) none d:=⟨by decide,k⟩
  have dv:DV K d (.ref r) (.tuple [.int a,.int b]):=.tup (SqT.of h) (.cons (.int _) (.cons (.int _) .nil));refine ⟨_,rfl,_,_,rfl,dv,_,rfl,?_⟩;by_cases u:1<=b/\Fr.gcd a b=1
  ·refine BX (by show (!(decide (1<=b) && decide (Fr.gcd a b=1)))=false;rw [decide_eq_true u.1,decide_eq_true u.2];rfl) ?_
   obtain ⟨q,v,G⟩:=pX u.1 u.2;have y:Short q:=⟨by rw [v];exact ha,by omega⟩
   have z:DV K d (.ref r) (BK q):=by rw [BK,v,G];exact dv
   refine ⟨_,rfl,_,q,rfl,z,VN y,_,rfl,rfl,_,rfl,?_⟩;refine ite2 (λ _=>o) (λ I=>?_)
   exfalso
   apply I
   have ne:¬ V.str (Am q)=V.str x:=λ e=>F q y (by rw [<- V.str.inj e,Do])
   rw [decide_eq_false ne];rfl
  ·have e:(decide (1<=b) && decide (Fr.gcd a b=1))=false:=by
    by_cases B:1<=b
    ·rw [decide_eq_false (λ I=>u ⟨B,I⟩),Gc]
    ·rw [decide_eq_false B,zW]
   exact Bu (by show (!(decide (1<=b) && decide (Fr.gcd a b=1)))=true;rw [e];rfl) (iteT o)
theorem qY (T:Txt K mg ad){f:Addr}{cdv:Value}{A:XE}{outer:List Env}{s:X1}{H:Hp}{E:XK}(F:RoomB true 2 (XR P w K mg base f cdv A outer s H E).A):∃t,PSs (XR P w K mg base f cdv A outer s H E) (bodyR.drop 3) t/\
  (∀(x:Y2) (p:Addr) (ps:List Y2) (q:Rat) (B:Hp) (O:Ends),Short q->cl x=sh q->B p=some (.lst (ps.map V.str))->ps.map cl=cut 47 (bd q)->(∀r C,Same B C->C r=some (Fz q)->O.rt (.ref r) C)->t O [some (.str x),some (.bl (decide (q.num < 0))),some (.ref p),none,none,none] B)/\
  (∀(x:Y2) (a3:Bool) (p:Addr) (ps:List Y2) (B:Hp) (O:Ends),(∀q,Short q->cl x≠sh q)->B p=some (.lst (ps.map V.str))->ps≠[]->(∀z∈ps,z.length<=100000)->(∀C,Same B C->E (.ref ad.NoNumber) none C)->t O [some (.str x),some (.bl a3),some (.ref p),none,none,none] B):=by
 obtain ⟨U,a7,a4,kN⟩:=fD (P:=P) (w:=w) (base:=base) (E:=E) T F;refine ⟨_,(Ae (Az (BL Fd (BV CV rfl T.len CK (Ad (pv 2) Aa)) Ab) (Ah (Ei Ba rfl T.ex.c_NoNumber (Ag Af Aa))) BJ) (Ae (Aq (i:=3) Dy.nd (Ao (o7 T) F.m (Bp Ba) (BR (Ai Ay (pv 2) Ab) Aa))) (Ae (Aq (i:=4) Dy.nd (Gg (BL Bj (BV CV rfl T.len CK (Ad (pv 2) Aa)) Ab) (Ao (o7 T) F.m (Bp Ba) (BR (Ai Ay (pv 2) Ab) Aa)) Ab)) (Ae (Aq (i:=5) Dy.nd (De (Xk (Gg (Bf (pv 1)) (Ak Fq Ab (pv 3)) (pv 3)) (Ad (pv 4) Aa)))) a7)))),?_,?_⟩
 ·intro x p ps q B O S ex g a k;have a5:=(Dw (m:=q.num.natAbs) (k:=15) (by decide)).mpr S.n
  have a8:=(Dw (m:=q.den) (k:=15) (by decide)).mpr S.d
  have b7:=Mv q.num.natAbs;have b8:=Mv q.den;rw [HN] at a;have good:∀(z:Y2) (m:Nat),cl z=dg m->(dg m).length<=15->zG (cl z)/\1<=z.length/\z.length<=15/\z.length<=100000/\JY (cl z)=m:=λ z m e l=>by
   have:=Ci z;rw [e] at this;have:=Mv m;exact ⟨by rw [e];exact Hd m,by omega,by omega,by omega,by rw [e];exact Ff m⟩
  have o:(if q.num < 0 then 0 - ((q.num.natAbs:Nat):Int) else ((q.num.natAbs:Nat):Int))=q.num:=by split<;>omega
  by_cases W:q.den=1
  ·rw [if_pos W] at a
   match ps,a,g with
   | [z],a,g=>
    have X:cl z=dg q.num.natAbs:=by simpa using a
    obtain ⟨Y,Z,a0,a1,a2⟩:=good z _ X a5;refine ⟨_,rfl,p,_,rfl,.inl (SqL.of g),_,_,rfl,rfl,_,rfl,?_⟩;refine iteF ?_;refine ⟨_,rfl,p,_,_,_,rfl,rfl,SqL.of g,rfl,z,rfl,a1,.inl ⟨Y,Z,a0,λ L y=>?_⟩⟩
    rw [a2];refine ⟨_,rfl,p,_,rfl,.inl (SqL.of (y _ _ g)),rfl,_,rfl,?_⟩;refine iteF ?_;refine ⟨_,rfl,_,rfl,?_⟩;have h:∀v:Int,v=q.num->(2<=X2/\∀r,L r=none->U O [some (.str x),some (.bl (decide (q.num < 0))),some (.ref p),some (.int ((q.num.natAbs:Nat):Int)),some (.int 1),some (.ref r)] (upd L r (.tup [.int v,.int 1]))):=λ v hv=>⟨by decide,λ r F=>by
     have e:(HO.tup [.int v,.int 1])=Fz q:=by rw [hv,Fz,W];rfl
     exact a4 x _ p r _ _ q _ O (by rw [e];exact Aj) ex S (k r _ (y.trans (Al F _)) (by rw [e];exact Aj))⟩
    by_cases hn:q.num < 0
    ·rw [decide_eq_true hn];rw [decide_eq_true hn] at h;rw [if_pos hn] at o;refine iteT ?_;exact ⟨_,rfl,_,_,rfl,rfl,_,rfl,h _ o⟩
    ·rw [decide_eq_false hn];rw [decide_eq_false hn] at h;rw [if_neg hn] at o;refine iteF ?_;exact ⟨_,rfl,_,rfl,h _ o⟩
   | [],a,_=>simp at a
   | _::_::_,a,_=>simp at a
  ·rw [if_neg W] at a
   match ps,a,g with
   | [z,R],a,g=>
    have X:cl z=dg q.num.natAbs:=by simp at a;exact a.1
    have a9:cl R=dg q.den:=by simp at a;exact a.2
    obtain ⟨Y,Z,a0,a1,a2⟩:=good z _ X a5;obtain ⟨I,b0,b1,b2,b3⟩:=good R _ a9 a8;refine ⟨_,rfl,p,_,rfl,.inl (SqL.of g),_,_,rfl,rfl,_,rfl,?_⟩;refine iteF ?_;refine ⟨_,rfl,p,_,_,_,rfl,rfl,SqL.of g,rfl,z,rfl,a1,.inl ⟨Y,Z,a0,λ L y=>?_⟩⟩
    rw [a2];have u:=y _ _ g;refine ⟨_,rfl,p,_,rfl,.inl (SqL.of u),rfl,_,rfl,?_⟩;refine iteT ?_;refine ⟨_,rfl,p,_,_,_,rfl,rfl,SqL.of u,rfl,R,rfl,b2,.inl ⟨I,b0,b1,λ D J=>?_⟩⟩
    rw [b3];refine ⟨_,rfl,_,rfl,?_⟩;have a6:=y.trans J;have h:∀v:Int,v=q.num->(2<=X2/\∀r,D r=none->U O [some (.str x),some (.bl (decide (q.num < 0))),some (.ref p),some (.int ((q.num.natAbs:Nat):Int)),some (.int ((q.den:Nat):Int)),some (.ref r)] (upd D r (.tup [.int v,.int ((q.den:Nat):Int)]))):=λ v hv=>⟨by decide,λ r F=>by
     have e:(HO.tup [.int v,.int ((q.den:Nat):Int)])=Fz q:=by rw [hv]
     exact a4 x _ p r _ _ q _ O (by rw [e];exact Aj) ex S (k r _ (a6.trans (Al F _)) (by rw [e];exact Aj))⟩
    by_cases hn:q.num < 0
    ·rw [decide_eq_true hn];rw [decide_eq_true hn] at h;rw [if_pos hn] at o;refine iteT ?_;exact ⟨_,rfl,_,_,rfl,rfl,_,rfl,h _ o⟩
    ·rw [decide_eq_false hn];rw [decide_eq_false hn] at h;rw [if_neg hn] at o;refine iteF ?_;exact ⟨_,rfl,_,rfl,h _ o⟩
   | [],a,_=>simp at a
   | [_],a,_=>simp at a
   | _::_::_::_,a,_=>simp at a
 ·intro x a3 p ps B O b4 g Q hl k;have b5:∀C,Same B C->((1:Nat)<=X2/\E (.ref ad.NoNumber) none C):=λ C s'=>⟨by decide,k C s'⟩
  refine ⟨_,rfl,p,_,rfl,.inl (SqL.of g),_,_,rfl,rfl,_,rfl,?_⟩;refine ite2 (λ _=>b5 _ (Same.refl _)) (λ c1=>?_)
  have G:¬ ((2:Int) < (((ps.map V.str).length:Nat):Int)):=λ z=>c1 (decide_eq_true z)
  rw [Y6] at G
  match ps,Q,g,hl,G with
  | [],Q,_,_,_=>exact absurd rfl Q
  | z::b6,_,g,hl,G=>
   refine ⟨_,rfl,p,_,_,_,rfl,rfl,SqL.of g,Bb (j:=0) rfl,z,rfl,hl z (ZU ..),?_⟩;by_cases M:zG (cl z)/\1<=z.length/\z.length<=15
   ·refine .inl ⟨M.1,M.2.1,M.2.2,λ L y=>?_⟩
    have u:=y _ _ g;have b9:=V7 M.1 (by rw [Ci];exact M.2.2)
    have h:∀(b:Int) (D:Hp),Same B D->b.natAbs < 10 ^ 15->∀v:Int,v.natAbs=JY (cl z)->(2<=X2/\∀r,D r=none->U O [some (.str x),some (.bl a3),some (.ref p),some (.int ((JY (cl z):Nat):Int)),some (.int b),some (.ref r)] (upd D r (.tup [.int v,.int b]))):=λ b D J hb v hv=>⟨by decide,λ r F=>kN x a3 p r _ _ v b _ O Aj (by omega) hb b4 (k _ (J.trans (Al F _)))⟩
    refine ⟨_,rfl,p,_,rfl,.inl (SqL.of u),rfl,_,rfl,?_⟩
    match b6,g,hl,G,u with
    | [],g,hl,G,u=>
     refine iteF ?_;refine ⟨_,rfl,_,rfl,?_⟩;have I:=h 1 L y (by decide)
     cases a3 with
     | true=>exact ⟨_,rfl,_,_,rfl,rfl,_,rfl,I _ (by omega)⟩
     | false=>exact ⟨_,rfl,_,rfl,I _ (by omega)⟩
    | [R],g,hl,G,u=>
     refine iteT ?_;refine ⟨_,rfl,p,_,_,_,rfl,rfl,SqL.of u,rfl,R,rfl,hl R (by simp),?_⟩
     by_cases N:zG (cl R)/\1<=R.length/\R.length<=15
     ·refine .inl ⟨N.1,N.2.1,N.2.2,λ D J=>?_⟩
      have c0:=V7 N.1 (by rw [Ci];exact N.2.2)
      refine ⟨_,rfl,_,rfl,?_⟩;have I:=h ((JY (cl R):Nat):Int) D (y.trans J) (by omega)
      cases a3 with
      | true=>exact ⟨_,rfl,_,_,rfl,rfl,_,rfl,I _ (by omega)⟩
      | false=>exact ⟨_,rfl,_,rfl,I _ (by omega)⟩
     ·exact .inr ⟨N,λ D J=>k _ (y.trans J)⟩
    | _::_::_,_,_,G,_=>
     exfalso;simp only [U1] at G;omega
   ·exact .inr ⟨M,λ L y=>k _ y⟩
theorem bh (T:Txt K mg ad):CalB P w K mg base true 3 "read_ratio" ["text"] (lg ad.NoNumber):=by
 refine T.Ja.calB Dy (λ _ _ _ _ _ _=>Bk λ _=>rfl) (λ vs H Q E h=>?_) (λ f cdv A outer s H vs Q E B h=>?_)
 ·obtain ⟨_,rfl,_⟩:=h;rfl
 obtain ⟨v,rfl,h⟩:=h;obtain ⟨L,C,y,kN⟩:=qY (P:=P) (w:=w) (base:=base) (f:=f) (cdv:=cdv) (A:=A) (outer:=outer) (s:=s) (H:=H) (E:=E) T B;refine ⟨_,(Ae (Az (Bt (Bf (BV Dh rfl T.isinstance CQ (Ad (pv 0) (Ad (Df (v:=.ty "str") rfl T.str Es rfl) Aa))))) (Ah (Ei Ba rfl T.ex.c_NoNumber (Ag Af Aa))) BJ) (Ae (Aq (i:=1) Dy.nd (Br Yf wf wg Ye (pv 0) (Ag Af Aa))) (Ae (Aq (i:=2) Dy.nd (Gg (Bf (pv 1)) (Br Yf XO Wp Ey (Di HD (pv 0) (Cy Ab) Ej) (Ag Af Aa)) (Br Yf XO Wp Ey (pv 0) (Ag Af Aa)))) C))),?_⟩;have st:∀x:Y2,yA x (Y1 "-")=decide ((cl x).head?=some 45):=λ x=>by rw [W5,Vw]
 have t:∀x:Y2,(Xs x (Y1 "/")).map cl=cut 47 (cl x):=λ x=>by rw [Y0,Dr]
 rcases h with ⟨x,q,rfl,u,ex,k⟩ | ⟨x,rfl,g,hn,k⟩
 ·have hl:=Qe q u;have D:x.length<=40:=by rw [<- Ci,ex];exact hl
  refine ⟨_,rfl,_,_,_,_,rfl,.str x,Eh _,_,rfl,iteF ?_⟩;refine ⟨_,rfl,rfl,_,_,rfl,rfl,?_⟩;have e1:yA x (Y1 "-")=decide (q.num < 0):=by rw [st,ex,JL]
  rw [e1];refine ⟨_,rfl,_,rfl,?_⟩;have l:=Hq q;by_cases a:q.num < 0
  ·rw [decide_eq_true a];refine iteT ?_;have m:(UA x (some 1) none).length<=40:=U2 (xp _ _ _) D;refine ⟨_,rfl,_,rfl,x,rfl,Cp (by omega),rfl,_,_,rfl,rfl,rfl,Cp (by omega),λ p d=>?_⟩
   rw [if_pos a] at l;have:=y x p _ q _ { nx:=λ _ b=>Q .non b,rt:=Q } u ex Aj (by rw [t,aR,ex,l]) λ r b s' j=>k r b ((Al d _).trans s') j
   rw [decide_eq_true a] at this;exact this
  ·rw [decide_eq_false a];refine iteF ?_;refine ⟨_,rfl,rfl,_,_,rfl,rfl,rfl,Cp (by omega),λ p d=>?_⟩
   rw [if_neg a] at l;have:=y x p _ q _ { nx:=λ _ b=>Q .non b,rt:=Q } u ex Aj (by rw [t,ex,l]) λ r b s' j=>k r b ((Al d _).trans s') j
   rw [decide_eq_false a] at this;exact this
 ·refine ⟨_,rfl,_,_,_,_,rfl,.str x,Eh _,_,rfl,iteF ?_⟩;refine ⟨_,rfl,rfl,_,_,rfl,rfl,?_⟩;refine ⟨_,rfl,_,rfl,?_⟩;have parts:∀z:Y2,z.length<=100000->Xs z (Y1 "/")≠[]/\∀J∈Xs z (Y1 "/"),J.length<=100000:=λ z G=>by
   refine ⟨λ e=>ZM 47 (cl z) (by rw [<- t,e];rfl),λ J I=>U2 (uX I) G⟩
  have o:∀n:Nat,n<=100000->n+2<=X2:=λ n h=>U2 (yB h 2) (by decide)
  refine ite2 (λ _=>?_) (λ _=>?_)
  ·have m:(UA x (some 1) none).length<=100000:=U2 (xp _ _ _) g;refine ⟨_,rfl,_,rfl,x,rfl,U2 g (by decide),rfl,_,_,rfl,rfl,rfl,o _ m,λ p d=>?_⟩
   exact kN x _ p _ _ _ hn Aj (parts _ m).1 (parts _ m).2 λ b s'=>k b ((Al d _).trans s')
  ·refine ⟨_,rfl,rfl,_,_,rfl,rfl,rfl,o _ g,λ p d=>?_⟩
   exact kN x _ p _ _ _ hn Aj (parts _ g).1 (parts _ g).2 λ b s'=>k b ((Al d _).trans s')
theorem Gs (T:Txt K mg ad):CalB P w K mg base true 4 "read_number_desk" ["word"] (jz K ad.NoRow):=by
 refine T.Gs.calB Zh (λ _ _ _ _ _ _=>Bk λ _=>rfl) (λ vs H Q E h=>?_) (λ f cdv A outer s H vs Q E a h=>?_)
 ·obtain ⟨_,rfl,_⟩:=h;rfl
 obtain ⟨x,rfl,d,q,g⟩:=h;refine ⟨_,(Ah (fK Ba (bh T) a.m (Ad (pv 0) Aa) T.ex.m_NoNumber T.ex.c_NoRow)),?_⟩
 cases e:numOf x with
 | some r=>
  obtain ⟨i,rfl⟩:=Ub e;exact ⟨_,rfl,_,rfl,.inl ⟨_,r,rfl,i,Do r,λ p b s' j=>q r e _ b s' (.tup (SqT.of j) (.cons (.int _) (.cons (.int _) .nil)))⟩⟩
 | none=>exact ⟨_,rfl,_,rfl,.inr ⟨x,rfl,d,λ r a ex=>jt e r a (ext (by rw [Do,ex])),λ b s'=>⟨_,rfl,T.ex.x_NoNumber_NoNumber,g e b s'⟩⟩⟩
theorem aG {q:Rat}(h:Short q):Bd 50 q:=by
 have a:(10:Nat) ^ 15<=2 ^ 50:=by decide
 exact ⟨W1 h.n a,W1 h.d a⟩
theorem rT (T:Txt K mg ad):CalB P w K mg base true 5 "read_part_texts" ["reader","deep"] (jd K ad.Reader):=by
 have W:=T.Ph.not (P:=P) (w:=w) (base:=base) (k:=0) je (λ _ _ _ _ _ _=>I9 λ _ _ _=>rfl)
 refine T.RK.calN Jf (λ _ _ _ _ _ _=>CJ λ _ _=>rfl) (λ vs H Q E h=>?_) (λ f cdv A outer s H vs Q E n h=>?_)
 ·obtain ⟨_,_,_,_,_,_,_,rfl,_⟩:=h;rfl
 obtain ⟨a,dx,b,j,i,p,dp,rfl,J,tk,ps,k⟩:=h;refine ⟨_,(Ae (Aq (i:=2) Jf.nd (GR (k:=2) (pv 0) n.m)) (Ae (Az (PW.pt (pw_or (BL Bj (pv 2) (Bm (v:=.str "gap") rfl T.ex.m_GAP ⟨⟨_,T.ex.z_GAP⟩,rfl⟩)) (pw_or1 (BL Bj (pv 2) (Bm (v:=.str "glass") rfl T.ex.m_GLASS ⟨⟨_,T.ex.z_GLASS⟩,rfl⟩))))) (Ah (Av (De (Ad (pv 2) (Bg (Ao (dX T) n.m Aw (Bg (GR (k:=2) (pv 0) n.m) Aa)) Aa))))) BJ) (Ae (Az (BL DK (pv 2) (Bm (v:=.str "stop") rfl T.ex.m_STOP ⟨⟨_,T.ex.z_STOP⟩,rfl⟩)) (Ah (Av (Ao W n.m Aw (Ad (pv 0) (Ad (pv 2) (Ad (pv 1) Aa)))))) BJ) (Ae (Aq (i:=3) Jf.nd (Ao (dX T) n.m Aw (Bg (GR (k:=2) (pv 0) n.m) Aa))) (Ae (Aq (i:=4) Jf.nd (Ao (dX T) n.m Aw (Bg (GR (k:=2) (pv 0) n.m) Aa))) (Ae (Az (Bt (Bf (Ao (Uy T) n.m Aw (Ik (De (Ad (Bm (v:=.str "stop") rfl T.ex.m_STOP ⟨⟨_,T.ex.z_STOP⟩,rfl⟩) (Ad (pv 3) (Ad (pv 4) Aa)))) Aa)))) (Ah Cw) BJ) (Ah (Av (De (Ad (Bm (v:=.str "stop") rfl T.ex.m_STOP ⟨⟨_,T.ex.z_STOP⟩,rfl⟩) (Ad (pv 3) (Ad (pv 4) Aa)))))))))))),?_⟩
 have X:j[i]?=some (wd p):=tk 0 (wd p) rfl;refine ⟨_,rfl,a,_,dx,_,_,_,rfl,J.r,rfl,IK T,a,dx,b,j,i,wd p,rfl,J,X,?_⟩;have d:=J.step (i+1);have x:SD a H (upd H a (CP ad.Reader dx b (i+1))):=GX _;generalize upd H a (CP ad.Reader dx b (i+1))=o at d x ⊢;cases p with
 | gap q=>
  have L:Short q:=ps.2 q (by simp [fracs])
  have t1:j[i+1]?=some (Am q):=tk 1 (Am q) rfl;refine ⟨_,rfl,rfl,_,rfl,Bu (by rw [Bq];exact decide_eq_true rfl) (iteT ?_)⟩
  refine ⟨_,rfl,_,rfl,a,_,dx,_,_,_,rfl,d.r,rfl,IK T,a,dx,b,j,i+1,Am q,rfl,d,t1,?_⟩;have e:=d.step (i+1+1);have g:SD a o (upd o a (CP ad.Reader dx b (i+1+1))):=GX _;generalize upd o a (CP ad.Reader dx b (i+1+1))=O at e g ⊢;refine ⟨q,rfl,L,λ v z B hv=>⟨(by show 2<=X2;decide),λ t ht=>?_⟩⟩
  have u:=B.trans (Al ht (.tup [.str (Y1 "gap"),v]));exact k _ _ ((x.trans g).trans (Lib.SD.ofSame u)) (e.keep u) (DV.upd2 ht (.str _) hv)
 | glass q=>
  have L:Short q:=ps.2 q (by simp [fracs])
  have t1:j[i+1]?=some (Am q):=tk 1 (Am q) rfl;have M:wd (.glass q)≠Y1 "gap":=by show Y1 "glass"≠_;decide+kernel
  refine ⟨_,rfl,rfl,_,rfl,BX (by rw [Bq];exact decide_eq_false M) ⟨_,rfl,rfl,_,rfl,Bu (by rw [Bq];exact decide_eq_true rfl) ?_⟩⟩
  refine ⟨_,rfl,_,rfl,a,_,dx,_,_,_,rfl,d.r,rfl,IK T,a,dx,b,j,i+1,Am q,rfl,d,t1,?_⟩;have e:=d.step (i+1+1);have g:SD a o (upd o a (CP ad.Reader dx b (i+1+1))):=GX _;generalize upd o a (CP ad.Reader dx b (i+1+1))=O at e g ⊢;refine ⟨q,rfl,L,λ v z B hv=>⟨(by show 2<=X2;decide),λ t ht=>?_⟩⟩
  have u:=B.trans (Al ht (.tup [.str (Y1 "glass"),v]));exact k _ _ ((x.trans g).trans (Lib.SD.ofSame u)) (e.keep u) (DV.upd2 ht (.str _) hv)
 | stop lo l=>
  have R:Short lo:=ps.2 lo (by simp [fracs])
  have S:Short l:=ps.2 l (by simp [fracs])
  have t1:j[i+1]?=some (Am lo):=tk 1 (Am lo) rfl;have t2:j[i+2]?=some (Am l):=tk 2 (Am l) rfl;have M:wd (.stop lo l)≠Y1 "gap":=by show Y1 "stop"≠_;decide+kernel
  have Y:wd (.stop lo l)≠Y1 "glass":=by show Y1 "stop"≠_;decide+kernel
  refine ⟨_,rfl,rfl,_,rfl,BX (by rw [Bq];exact decide_eq_false M) ⟨_,rfl,rfl,_,rfl,BX (by rw [Bq];exact decide_eq_false Y) ?_⟩⟩
  refine ⟨_,rfl,rfl,_,rfl,BX (by rw [Bq,decide_eq_true (show wd (.stop lo l)=Y1 "stop" from rfl)];rfl) ?_⟩
  refine ⟨_,rfl,a,_,dx,_,_,_,rfl,d.r,rfl,IK T,a,dx,b,j,i+1,Am lo,rfl,d,t1,?_⟩;have e:=d.step (i+1+1);have g:SD a o (upd o a (CP ad.Reader dx b (i+1+1))):=GX _;generalize upd o a (CP ad.Reader dx b (i+1+1))=O at e g ⊢;refine ⟨lo,rfl,R,λ v z B hv=>?_⟩
  have y:=e.keep B;refine ⟨_,rfl,a,_,dx,_,_,_,rfl,y.r,rfl,IK T,a,dx,b,j,i+1+1,Am l,rfl,y,t2,?_⟩;have F:=y.step (i+1+1+1);have C:SD a z (upd z a (CP ad.Reader dx b (i+1+1+1))):=GX _;have G:DV K (upd z a (CP ad.Reader dx b (i+1+1+1))) v (BK lo):=Ma (TY y.r C) (ud _) hv;generalize upd z a (CP ad.Reader dx b (i+1+1+1))=a1 at F C G ⊢;refine ⟨l,rfl,S,λ a0 a2 N U=>?_⟩
  have I:=G.keep N;refine ⟨_,rfl,_,rfl,(by show 3<=X2;decide),λ t ht=>?_⟩
  have u:=Al ht (.tup [.str (Y1 "stop"),v,a0]);refine ⟨.ref t,.stop lo l,50,rfl,.tup (SqT.of Aj) (.cons (.str _) (.cons (I.keep u) (.cons (U.keep u) .nil))),ps.1,⟨aG R,aG S⟩,by decide,λ a3 Z=>⟨_,rfl,iteF ?_⟩⟩
  refine ⟨_,rfl,_,rfl,(by show 3<=X2;decide),λ t2 V=>?_⟩
  have D:=(u.trans Z).trans (Al V (.tup [.str (Y1 "stop"),v,a0]));refine k _ _ ((((x.trans g).trans (Lib.SD.ofSame B)).trans C).trans (Lib.SD.ofSame (N.trans D))) (F.keep (N.trans D)) (.tup (SqT.of Aj) (.cons (.str _) (.cons (I.keep D) (.cons (U.keep D) .nil))))
theorem su (T:Txt K mg ad):CalB P w K mg base true 2 "count_of" ["parts"] (qg K):=by
 have C:=T.Jv.not (P:=P) (w:=w) (base:=base) (k:=0) Ie (λ _ _ _ _ _ _=>Bk λ _=>rfl)
 refine T.Jv.calN Ie (λ _ _ _ _ _ _=>Bk λ _=>rfl) (λ vs H Q E h=>?_) (λ f cdv A outer s H vs Q E D h=>?_)
 ·obtain ⟨_,_,rfl,_⟩:=h;rfl
 obtain ⟨v,ps,rfl,hv,q⟩:=h;obtain ⟨b,xs,rfl,hb,n⟩:=hv.lst_of;have hl:xs.length=ps.length:=by have:=n.len;rw [Y6] at this;exact this
 refine ⟨_,(Ae (Aq (i:=1) Ie.nd Ab) (Ae (Ef UI rfl (Dv (pv 0)) (CG (i:=2) Ie.nd) (Ah (oR (i:=1) Ie.nd rfl (Or.inl rfl) (Gg (BL Bj (Ai BW (pv 2) Ab) (Bm (v:=.str "times") rfl T.ex.m_TIMES ⟨⟨_,T.ex.z_TIMES⟩,rfl⟩)) (Ak Gb (Ai BW (pv 2) Ab) (Ao C D.m Aw (BR (Ai BW (pv 2) Ab) Aa))) Ab) mQ))) (Ah (Av (pv 1))))),?_⟩
 refine ⟨_,rfl,b,rfl,⟨_,hb⟩,?_⟩;refine HQ (K:=K) (a:=b) (xs:=xs) (λ i j e=>∃l,j=[some (.ref b),some (.int (i:Int)),l]/\e=H) ⟨_,rfl,rfl⟩ ?_ ?_ ?_
 ·rintro i j e u ⟨l,rfl,rfl⟩
  exact hb
 ·rintro i x j e u ⟨l,rfl,rfl⟩
  obtain ⟨d,hd,o⟩:=n.get u;obtain ⟨p,L,rfl⟩:=Im hd;obtain ⟨t,r,y,rfl,ht,F,ne⟩:∃(t:Addr) (r:Y2) (y:List V),x=.ref t/\SqT K e t (.str r::y)/\r=wd p/\wd p≠Y1 "times":=by
   cases p with
   | gap G=>
    obtain ⟨t,z,B,rfl,ht,g,_⟩:=DV.t2 (show DV K e x (.tuple [.str "gap",BK G]) from o)
    obtain rfl:=DV.str_of g;exact ⟨t,_,_,rfl,ht,rfl,by show Y1 "gap"≠_;decide+kernel⟩
   | glass G=>
    obtain ⟨t,z,B,rfl,ht,g,_⟩:=DV.t2 (show DV K e x (.tuple [.str "glass",BK G]) from o)
    obtain rfl:=DV.str_of g;exact ⟨t,_,_,rfl,ht,rfl,by show Y1 "glass"≠_;decide+kernel⟩
   | stop I J=>
    obtain ⟨t,z,B,M,rfl,ht,g,_,_⟩:=DV.t3 (show DV K e x (.tuple [.str "stop",BK I,BK J]) from o)
    obtain rfl:=DV.str_of g;exact ⟨t,_,_,rfl,ht,rfl,by show Y1 "stop"≠_;decide+kernel⟩
  subst F;refine ⟨_,rfl,_,rfl,t,_,_,_,rfl,rfl,ht,Dz,rfl,_,rfl,BX (by rw [Bq];exact decide_eq_false ne) ⟨_,_,rfl,rfl,?_⟩⟩
  exact ⟨_,by show [some (V.ref b),some (V.int ((i:Int)+1)),some (V.ref t)]=_;rfl,rfl⟩
 ·rintro j e ⟨l,rfl,rfl⟩
  rw [hl];exact ⟨_,rfl,q⟩
theorem bR {H:Hp}{x:V}{b:Pc}(d:DV K H x (Bv b)):∃(t:Addr) (g:List V),x=.ref t/\SqT K H t (.str (wd b)::g)/\wd b≠Y1 "times":=by
 cases b with
 | gap h=>
  obtain ⟨t,e,f,rfl,ht,a,_⟩:=DV.t2 (show DV K H x (.tuple [.str "gap",BK h]) from d)
  obtain rfl:=DV.str_of a;exact ⟨t,_,rfl,ht,by show Y1 "gap"≠_;decide+kernel⟩
 | glass h=>
  obtain ⟨t,e,f,rfl,ht,a,_⟩:=DV.t2 (show DV K H x (.tuple [.str "glass",BK h]) from d)
  obtain rfl:=DV.str_of a;exact ⟨t,_,rfl,ht,by show Y1 "glass"≠_;decide+kernel⟩
 | stop i j=>
  obtain ⟨t,e,f,k,rfl,ht,a,_,_⟩:=DV.t3 (show DV K H x (.tuple [.str "stop",BK i,BK j]) from d)
  obtain rfl:=DV.str_of a;exact ⟨t,_,rfl,ht,by show Y1 "stop"≠_;decide+kernel⟩
theorem uY (T:Txt K mg ad):CalB P w K mg base true 2 "told_out" ["parts"] (dC K):=by
 have D:=T.Lj.not (P:=P) (w:=w) (base:=base) (k:=0) KN (λ _ _ _ _ _ _=>Bk λ _=>rfl)
 refine T.Lj.calN KN (λ _ _ _ _ _ _=>Bk λ _=>rfl) (λ vs H Q E h=>?_) (λ f cdv A outer s H vs Q E G h=>?_)
 ·obtain ⟨_,_,rfl,_⟩:=h;rfl
 obtain ⟨v,ps,rfl,hv,L,q⟩:=h;obtain ⟨b,xs,rfl,hb,r⟩:=hv.lst_of;have hl:xs.length=ps.length:=by have:=r.len;rw [Y6] at this;exact this
 refine ⟨_,(Ae (Aq (i:=1) KN.nd (Bl Aa)) (Ae (Ef UI rfl (Dv (pv 0)) (CG (i:=2) KN.nd) (Ah (Az (BL DK (Ai BW (pv 2) Ab) (Bm (v:=.str "times") rfl T.ex.m_TIMES ⟨⟨_,T.ex.z_TIMES⟩,rfl⟩)) (Ah (DP (Br WJ WX WZ Ez (pv 1) (Ad (pv 2) Aa)))) (Ah (Az (BL Fd (Ai BW (pv 2) Ab) Ab) (Ah (DP (Br WJ PySem.F.slot_list_extend PySem.F.type_list_extend gF (pv 1) (Bw (Ak pK (Ao D G.m Aw (BR (Ai BW (pv 2) Ab) Aa)) (Ai BW (pv 2) Ab)) Aa)))) BJ))))) (Ah (Av (pv 1))))),?_⟩
 refine ⟨(by show 0<=X2;decide),λ l u=>?_⟩
 have u0:=Al u (.lst []);have y:Bx K H l [] (upd H l (.lst [])):=⟨u0,u,[],Aj,.nil⟩;generalize upd H l (.lst [])=M at u0 y ⊢;refine ⟨_,rfl,b,rfl,⟨_,hb.keep u0⟩,?_⟩;refine HQ (K:=K) (a:=b) (xs:=xs) (λ i j g=>∃o,j=[some (.ref b),some (.ref l),o]/\Bx K H l (ps.take i) g) ⟨_,rfl,by rw [wD];exact y⟩ ?_ ?_ ?_
 ·rintro i j g z ⟨o,rfl,e⟩
  exact hb.keep e.s
 ·rintro i x j g z ⟨o,rfl,e⟩
  obtain ⟨d,hd,B⟩:=r.get z;obtain ⟨I,C,rfl⟩:=Im hd;obtain ⟨t,N,rfl,ht,ne⟩:=bR (B.keep e.s);obtain ⟨p,e1,e2⟩:=e.ex;have O:p.length<=60:=by
   have J:=e2.len;rw [Y6,Uf] at J;omega
  refine ⟨_,rfl,t,_,_,_,rfl,rfl,ht,Dz,rfl,_,rfl,Bu (by rw [Bq,decide_eq_false ne];rfl) ?_⟩
  refine ⟨_,rfl,.inl ⟨rfl,_,SqL.of e1⟩,_,rfl,l,p,_,rfl,rfl,e1,small1000 (by omega),_,rfl,?_⟩
  have:=Bx.more (zs:=[.ref t]) (qs:=[I]) e.s e.n e1 e2 (.cons (B.keep e.s) .nil);rw [JE,C];exact this
 ·rintro j g ⟨o,rfl,e⟩
  rw [hl,QI] at e;obtain ⟨p,e1,e2⟩:=e.ex;exact ⟨_,rfl,q l p g e.s e.n e1 e2⟩
def Fl:List Pc->List Y2
 | []=>[]
 | q::r=>Y1 ";"::Dn (q::r)
theorem WM (p:Pc)(r:List Pc):Dn (p::r)=toks p++Fl r:=by
 cases r with
 | nil=>show toks p=toks p++[];rw [UB]
 | cons q r=>rfl
theorem Tz {a t u:List Y2}{i:Nat}(h:a.drop i=t++u):(∀(j:Nat) (d:Y2),t[j]?=some d->a[i+j]?=some d)/\a.drop (i+t.length)=u:=by
 refine ⟨λ j d b=>?_,?_⟩
 ·rw [<- List.getElem?_drop,h,zd (Cg b)];exact b
 ·rw [<- List.drop_drop,h,List.drop_left]
theorem lK (T:Txt K mg ad):CalB P w K mg base true 6 "read_parts" ["reader","deep"] (j6 K ad.Reader):=by
 refine T.Rg.calN Uj (λ _ _ _ _ _ _=>CJ λ _ _=>rfl) (λ vs H Q E h=>?_) (λ f cdv A outer s H vs Q E a3 h=>?_)
 ·obtain ⟨_,_,_,_,_,_,rfl,_⟩:=h;rfl
 obtain ⟨a,dx,j,g,ps,dp,rfl,a5,b9,ne,c6,sh,k⟩:=h;refine ⟨_,(Ae (Aq (i:=2) Uj.nd (Bl (Bg (Ao (rT T) a3.m Aw (Ad (pv 0) (Ad (pv 1) Aa))) Aa))) (Ae (Lb UI (Bf (Cr (k:=2) (pv 0) a3.m (Ad (Bm (v:=.str ";") rfl T.ex.m_PARTED ⟨⟨_,T.ex.z_PARTED⟩,rfl⟩) Aa))) (Ah (DP (Br WJ WX WZ Ez (pv 2) (Bg (Ao (rT T) a3.m Aw (Ad (pv 0) (Ad (pv 1) Aa))) Aa))))) (Ah (Av (pv 2))))),?_⟩
 cases ps with
 | nil=>exact absurd rfl ne
 | cons p r=>
  have a6:g.drop 0=toks p++Fl r:=by rw [wE,b9];exact WM p r
  obtain ⟨tk,dr⟩:=Tz a6;refine ⟨_,rfl,_,rfl,a,dx,j,g,0,p,dp,rfl,a5,tk,sh p ZU,λ v S U G hv=>⟨(by show 1<=X2;decide),λ l hl=>?_⟩⟩
  have u:=Al hl (.lst [v]);have ha:H a=some (CP ad.Reader dx j 0):=a5.r;have C:l≠a:=λ e=>by rw [e,G.r] at hl;cases hl
  have a7:j≠l:=λ e=>by rw [<- e,G.w] at hl;cases hl
  have a8:H l=none:=by
   cases e:H l with
   | none=>rfl
   | some o=>have:=U l o C e;rw [this] at hl;cases hl
  have W:SD a H (upd S l (.lst [v])):=U.trans (Lib.SD.ofSame u);have X:=G.keep u;have a9:upd S l (.lst [v]) l=some (.lst [v]):=Aj;have Y:DVs K (upd S l (.lst [v])) [v] ([p].map Bv):=.cons (hv.keep u) .nil;generalize upd S l (.lst [v])=c8 at W X a9 Y ⊢;refine ⟨λ m b0 n=>∃(dn d:List Pc) (i:Nat) (xs:List V),p::r=dn++d/\m=d.length/\b0=[some (.ref a),some (.int dp),some (.ref l)]/\SD a H n/\RdAt ad.Reader a dx j g i n/\i<=g.length/\g.drop i=Fl d/\n l=some (.lst xs)/\DVs K n xs (dn.map Bv),
   ⟨_,[p],r,_,[v],rfl,rfl,rfl,W,X,?_,dr,a9,Y⟩,?_⟩
  ·have:=congrArg Qf a6;rw [wE,ZA] at this;omega
  rintro m b0 n ⟨dn,d,i,xs,I,rfl,rfl,sd,x,c0,D,Z,J⟩
  have c9:xs.length<=60:=by
   have t:=J.len;have L:=congrArg Qf I;rw [Y6] at t;rw [ZA] at L;omega
  refine ⟨_,rfl,a,_,dx,_,_,_,rfl,x.r,rfl,lZ T,a,dx,j,g,i,Y1 ";",rfl,x,c0,λ e=>?_,λ e=>?_⟩
  ·cases d with
   | nil=>
    have t:=congrArg Qf D;rw [zx] at t;have L:=Cg e;simp only [Fl,WA] at t;omega
   | cons q d=>
    refine ⟨_,rfl,iteT ?_⟩;have b1:g.drop (i+1)=toks q++Fl d:=by
     rw [<- List.drop_drop,D];show (Y1 ";"::Dn (q::d)).drop 1=_;rw [WM];rfl
    obtain ⟨b2,b3⟩:=Tz b1;have B:=x.step (i+1);have M:SD a n (upd n a (CP ad.Reader dx j (i+1))):=GX _;have N:upd n a (CP ad.Reader dx j (i+1)) l=some (.lst xs):=by rw [Ax C];exact Z
    have a0:DVs K (upd n a (CP ad.Reader dx j (i+1))) xs (dn.map Bv):=Ep (TY x.r M) (Ew Kw _) J;generalize upd n a (CP ad.Reader dx j (i+1))=d0 at B M N a0 ⊢;refine ⟨λ a1 y=>∃(dn z:List Pc) (i:Nat) (xs:List V),p::r=dn++z/\z.length=d.length/\a1=[some (.ref a),some (.int dp),some (.ref l)]/\SD a H y/\RdAt ad.Reader a dx j g i y/\i<=g.length/\g.drop i=Fl z/\y l=some (.lst xs)/\DVs K y xs (dn.map Bv),
     λ a1 y ⟨b4,z,c1,b5,t,L,c2⟩=>⟨d.length,by simp,b4,z,c1,b5,t,L.symm,c2⟩,?_⟩
    refine ⟨_,rfl,.inl ⟨rfl,_,SqL.of N⟩,_,rfl,_,rfl,a,dx,j,g,i+1,q,dp,rfl,B,b2,sh q (by rw [I];simp),λ c7 b6 O R c3=>?_⟩
    have a2:b6 l=some (.lst xs):=O l _ C N;have b7:DVs K b6 xs (dn.map Bv):=Ep (TY B.r O) (Ew Kw _) a0;refine ⟨l,xs,_,rfl,rfl,a2,small1000 (by omega),?_⟩
    have c4:=Z3 a2 (.lst (xs++[c7]));refine ⟨dn++[q],d,_,xs++[c7],by rw [I,US];rfl,rfl,rfl,?_,⟨by rw [Ax (WU C)];exact R.r,by rw [Ax a7];exact R.w,R.le⟩,?_,b3,Aj,?_⟩
    ·intro b o a4 e;have b8:b≠l:=BZ e a8;rw [Ax b8];exact O b o a4 (M b o a4 (sd b o a4 e))
    ·have t:=congrArg Qf b1;rw [zx,ZA] at t;have L:=GK q;omega
    ·rw [YP];exact Ep c4 (by rw [<- YP];exact Ew Kw _) (b7.append (.cons c3 .nil))
  ·refine ⟨_,rfl,iteF ?_⟩;cases d with
   | cons q d=>
    exfalso
    apply e
    have:=congrArg (λ d1:List Y2=>d1[0]?) D
    simp only [Fl,List.getElem?_drop,Nat.add_zero,List.getElem?_cons_zero] at this;exact this
   | nil=>
    have t:=congrArg Qf D;rw [zx] at t;simp only [Fl,WA] at t;have c5:i=g.length:=by omega
    subst c5;rw [UB] at I;subst I;exact ⟨_,rfl,k l xs n sd a8 x Z J⟩
theorem Kz {a:List Y2}{e:Nat}(h:∀t∈a,t.length<=e):(a.map (·.length)).sum<=a.length * e:=by
 induction a with
 | nil=>exact JI _
 | cons t a b=>
  rw [YV,yN,U1,jS];have:=h t ZU;have:=b (λ x d=>h x (Ya _ d))
  omega
theorem Ud (T:Txt K mg ad):CalB P w K mg base true 7 "read_bench" ["text"] (dH K):=by
 refine T.Q3.calN Qt (λ _ _ _ _ _ _=>Bk λ _=>rfl) (λ vs H Q E h=>?_) (λ f cdv A outer s H vs Q E j h=>?_)
 ·obtain ⟨_,rfl,_⟩:=h;rfl
 obtain ⟨ps,rfl,p,sh,q⟩:=h;refine ⟨_,(Ae (Az (Bt (Bf (BV Dh rfl T.isinstance CQ (Ad (pv 0) (Ad (Df (v:=.ty "str") rfl T.str Es rfl) Aa))))) (Ah Cw) BJ) (Ae (Az (BL Bj (pv 0) Af) (Ah (Av (Bl Aa))) BJ) (Ae (Aq (i:=1) Qt.nd (qx (gQ T) j.m (Bg (Ao (d7 T) j.m Aw (Ad (pv 0) Aa)) Aa))) (Ae (Aq (i:=2) Qt.nd (Ao (lK T) j.m Aw (Ad (pv 1) (Ag Ab Aa)))) (Ae (Az (Bt (Bf (GR (k:=1) (pv 1) j.m))) (Ah Cw) BJ) (Ae (Az (BL Fd (Ao (su T) j.m Aw (Ad (pv 2) Aa)) (Bm (v:=.int 60) rfl T.ex.m_MOST_PIECES ⟨_,rfl⟩)) (Ah Cw) BJ) (Ah (Av (Ao (uY T) j.m Aw (Ad (pv 2) Aa)))))))))),?_⟩
 refine ⟨_,rfl,_,_,_,_,rfl,.str _,Eh _,_,rfl,iteF ?_⟩;by_cases d:ps=[]
 ·subst d;refine ⟨_,rfl,rfl,_,rfl,Bu (by rw [Bq];exact decide_eq_true (by decide+kernel)) ⟨(by show 0<=X2;decide),λ l hl=>?_⟩⟩
  exact q l [] _ (Al hl _) hl Aj .nil
 ·have U:=mZ d;refine ⟨_,rfl,rfl,_,rfl,BX (by rw [Bq];exact decide_eq_false U) ?_⟩
  have V:=Jz p sh;have sp:=um d;have a0:=Ro ps;refine ⟨_,rfl,Cv ps,rfl,U2 (yB V 2) (by decide),by rw [sp];omega,(λ w B=>by rw [sp] at B;have:=Ra ps sh w B;omega),λ g n C Z t=>λ a dx u D ne=>?_⟩
  rw [sp,mV ps d] at t;have F:Same n (upd (upd n dx (.own a)) a (.ins ad.Reader dx [])):=λ b o e=>by rw [Ax (BZ e u),Ax (BZ e D)];exact e
  refine ⟨a,dx,g,rfl,Aj,⟨rfl,?_⟩⟩;have G:g≠a:=λ e=>by rw [<- e,t] at u;cases u
  have I:RdAt ad.Reader a dx g (Dn ps) 0 (upd (upd (upd n dx (.own a)) a (.ins ad.Reader dx [])) a (CP ad.Reader dx g 0)):=⟨Aj,by rw [Ax G];exact F _ _ t,by have:=Wu ps;omega⟩
  have J:Same n (upd (upd (upd n dx (.own a)) a (.ins ad.Reader dx [])) a (CP ad.Reader dx g 0)):=λ b o e=>by rw [Ax (BZ e u)];exact F _ _ e
  generalize upd (upd (upd n dx (.own a)) a (.ins ad.Reader dx [])) a (CP ad.Reader dx g 0)=a1 at I J ⊢;refine ⟨_,rfl,a,dx,g,Dn ps,ps,0,rfl,I,rfl,d,p,sh,λ l xs L sd a2 x hl M=>?_⟩
  have hd:DV K L (.ref l) (Fx ps):=.lst (SqL.of hl) M;refine ⟨_,rfl,a,_,dx,_,_,_,rfl,x.r,rfl,Oi T,a,dx,g,Dn ps,(Dn ps).length,rfl,x,_,rfl,BX (by rw [decide_eq_true rfl];rfl) ?_⟩
  refine ⟨_,rfl,.ref l,ps,rfl,hd,_,_,rfl,rfl,_,rfl,BX (decide_eq_false (by omega)) ?_⟩
  refine ⟨_,rfl,.ref l,ps,rfl,hd,p,λ W N X Y O R z=>?_⟩
  have S:H a=none:=C.free u;have y:Same H L:=Lib.SD.same (C.trans J) S sd;exact q W N X (y.trans Y) (y.free O) R z
theorem mq (T:Txt K mg ad):CalB P w K mg base true 2 "show_piece" ["piece"] (Xv K):=by
 refine T.Nz.calN pQ (λ _ _ _ _ _ _=>Bk λ _=>rfl) (λ vs H Q E h=>?_) (λ f cdv A outer s H vs Q E a1 h=>?_)
 ·obtain ⟨_,_,rfl,_⟩:=h;rfl
 obtain ⟨v,p,rfl,hv,ps,q⟩:=h;refine ⟨_,(Ah (Av (Br Yf yq yr Lg Af (Bw (Ak DN (Bl (BR (Ai BW (pv 0) Ab) Aa)) (HB ["part"] [none] rfl (Nu (Di Qp (pv 0) (Cy Ab) Ej)) (λ _ _ _ _ _=>(CG (i:=0) (show zh [("part":Str)] by decide))) (λ _ _ _ _ _=>Em) (λ _ _ _ _ _=>(Ao (Ob T) a1.m Aw (Ad (pv 0) Aa))) (Fj (by decide) (by decide)) (by decide) rfl (by decide) rfl (FZ rfl))) Aa)))),?_⟩
 obtain ⟨t,b,rfl,ht,y⟩:∃(t:Addr) (b:List V),v=.ref t/\SqT K H t (.str (wd p)::b)/\DVs K H b ((fracs p).map BK):=by
  cases p with
  | gap z=>
   obtain ⟨t,M,N,rfl,ht,j,k⟩:=DV.t2 (show DV K H v (.tuple [.str "gap",BK z]) from hv)
   obtain rfl:=DV.str_of j;exact ⟨t,_,rfl,ht,.cons k .nil⟩
  | glass z=>
   obtain ⟨t,M,N,rfl,ht,j,k⟩:=DV.t2 (show DV K H v (.tuple [.str "glass",BK z]) from hv)
   obtain rfl:=DV.str_of j;exact ⟨t,_,rfl,ht,.cons k .nil⟩
  | stop z h=>
   obtain ⟨t,M,N,b0,rfl,ht,j,k,a2⟩:=DV.t3 (show DV K H v (.tuple [.str "stop",BK z,BK h]) from hv)
   obtain rfl:=DV.str_of j;exact ⟨t,_,rfl,ht,.cons k (.cons a2 .nil)⟩
 have hl:b.length=(fracs p).length:=by have:=y.len;rw [Y6] at this;exact this
 have b1:1<=(fracs p).length/\(fracs p).length<=2:=by cases p<;>exact ⟨by simp [fracs],by simp [fracs]⟩
 refine ⟨rfl,_,rfl,t,_,_,_,rfl,rfl,ht,Dz,(by show 1<=X2;decide),λ n O=>?_⟩
 have D:=Al O (.lst [.str (wd p)]);have R:upd H n (.lst [.str (wd p)]) n=some (.lst [.str (wd p)]):=Aj;generalize upd H n (.lst [.str (wd p)])=S at D R ⊢;refine ⟨_,rfl,_,rfl,t,_,rfl,ht.keep D,(λ e=>by rw [NB] at e;simp only [U1] at e;omega),λ l U=>⟨l,rfl,⟨_,SqT.of Aj⟩,?_⟩⟩
 rw [Pq];have G:=Al U (.tup ((V.str (wd p)::b).drop 1));have W:upd S l (.tup ((V.str (wd p)::b).drop 1)) l=some (.tup b):=Aj;have B:=G _ _ R;have I:=D.trans G;generalize upd S l (.tup ((V.str (wd p)::b).drop 1))=a3 at G W B I ⊢;refine S7 (K:=K) (a:=l) (xs:=b) (λ i o r g=>∃c0,o=[c0]/\r=(((fracs p).take i).map Am).map V.str/\g=a3) ⟨_,rfl,rfl,rfl⟩ ?_ ?_ ?_
 ·rintro i o r g J ⟨c0,rfl,rfl,rfl⟩
  refine ⟨?_,SqT.of W⟩;rw [Y6,Y6,Uf];exact JA (small1000 (by omega))
 ·rintro i x o r g J ⟨c0,rfl,rfl,rfl⟩
  obtain ⟨d,hd,a4⟩:=y.get J;rw [YA] at hd;cases e:(fracs p)[i]? with
  | none=>rw [e] at hd;cases hd
  | some z=>
   rw [e] at hd;cases hd
   refine ⟨_,rfl,x,z,rfl,a4.keep I,ps.2 z (Xb e),nx (Cg J) ⟨_,rfl,?_,rfl⟩⟩;rw [JE,e,YP,YP];rfl
 ·rintro o r g u ⟨c0,rfl,rfl,rfl⟩ X
  rw [hl,QI];have L:=Al X (.lst (((fracs p).map Am).map V.str));have Y:upd g u (.lst (((fracs p).map Am).map V.str)) u=some (.lst (((fracs p).map Am).map V.str)):=Aj;have C:=L _ _ B;have Z:=I.trans L;generalize upd g u (.lst (((fracs p).map Am).map V.str))=b2 at L Y C Z ⊢;refine ⟨n,u,_,_,rfl,rfl,C,Y,JA (small1000 (by rw [Y6,Y6];simp only [U1,WA];omega)),λ a5 a0=>?_⟩
  have a6:([.str (wd p)]++((fracs p).map Am).map V.str:List V)=(toks p).map V.str:=rfl;have a7:JoinOk (Y1 " ") (toks p)=true:=by
   refine zj ?_ (by decide+kernel)
   have a8:∀t∈toks p,t.length<=1200:=Lib.Nh p ps;have a9:=GK p;have b3:((toks p).map (·.length)).sum<=(toks p).length * 1200:=Kz a8
   have b4:(toks p).length * 1200<=3 * 1200:=QE _ a9.1;omega
  exact ⟨_,a5,toks p,rfl,rfl,by rw [Aj,a6],a7,q _ (Z.trans (Al a0 _))⟩
theorem X3 {p:Pc}(h:PBig p):(DQ p).length<=4000:=by
 unfold DQ;rw [Hf];have b:=XC (Y1 " ") (toks p) 1200 (Lib.Nh p h);have a:=GK p;have d:(Y1 " ").length=1:=by decide+kernel
 have e:(toks p).length * (1200+(Y1 " ").length)<=3 * 1201:=QO a.1 (by omega)
 omega
theorem oV (T:Txt K mg ad):CalB P w K mg base true 5 "show_bench" ["bench"] (YT K):=by
 refine T.Nq.calN jh (λ _ _ _ _ _ _=>Bk λ _=>rfl) (λ vs H Q E h=>?_) (λ f cdv A outer s H vs Q E y h=>?_)
 ·obtain ⟨_,_,rfl,_⟩:=h;rfl
 obtain ⟨v,ps,rfl,hv,n,sh,q⟩:=h;refine ⟨_,(Ae (DP (Ao (aW T) y.m Aw (Ad (pv 0) Aa))) (Ah (Av (Br Yf yq yr Lg Af (Dc (HB ["piece"] [none] rfl (Dv (pv 0)) (λ _ _ _ _ _=>(CG (i:=0) (show zh [("piece":Str)] by decide))) (λ _ _ _ _ _=>Em) (λ _ _ _ _ _=>(Ao (mq T) y.m Aw (Ad (pv 0) Aa))) (Fj (by decide) (by decide)) (by decide) rfl (by decide) rfl (FZ rfl)) Aa))))),?_⟩
 refine ⟨_,rfl,v,ps,1900,rfl,hv,⟨n,λ p e=>(sh p e).1,λ p e=>(sh p e).bd⟩,by decide,λ L z=>?_⟩
 obtain ⟨b,xs,rfl,hb,o⟩:=hv.lst_of;have hl:xs.length=ps.length:=by have:=o.len;rw [Y6] at this;exact this
 refine ⟨rfl,_,rfl,b,rfl,⟨_,hb.keep z⟩,?_⟩;refine HH (K:=K) (a:=b) (xs:=xs) (λ i j k l=>∃c0,j=[c0]/\k=((ps.take i).map DQ).map V.str/\Same H l) ⟨_,rfl,rfl,z⟩ ?_ ?_ ?_
 ·rintro i j k l u ⟨c0,rfl,rfl,g⟩
  refine ⟨?_,hb.keep g⟩;rw [Y6,Y6,Uf];exact JA (small1000 (by omega))
 ·rintro i x j k l u ⟨c0,rfl,rfl,g⟩
  obtain ⟨d,hd,C⟩:=o.get u;obtain ⟨B,r,rfl⟩:=Im hd;refine ⟨_,rfl,x,B,rfl,C.keep g,sh B (Xb r),λ M D=>nx (Cg u) ⟨_,rfl,?_,g.trans D⟩⟩
  rw [JE,r,YP,YP];rfl
 ·rintro j k l p ⟨c0,rfl,rfl,g⟩ e
  rw [hl,QI];have G:JoinOk (Y1 "; ") (ps.map DQ)=true:=by
   refine zj ?_ (by decide+kernel)
   have I:∀t∈ps.map DQ,t.length<=4000:=λ t ht=>by
    obtain ⟨p,e,rfl⟩:=Jb.mp ht;exact X3 (sh p e)
   have J:=Kz I;rw [Y6] at J ⊢;have N:ps.length * 4000<=60 * 4000:=QE _ n;omega
  exact ⟨_,p,ps.map DQ,rfl,rfl,Aj,G,q _ (g.trans (Al e _))⟩
end
end K70
namespace K70
open PySem L2 Lib Fr Op Tx
seal PE PT PW PA PS PSs PG PGs PI PO Bo
section
variable {P:Yg}{w:World}{K:FrG}{mg:Str->Option Value}{base:Heap}{ad:Adr}{c:Bool}
theorem jc (T:Txt K mg ad):CalB P w K mg base true 1 "_law_cell_at" ["_law_script","_law_k"] (ut K):=by
 refine T.Tg.calN nF (λ _ _ _ _ _ _=>CJ λ _ _=>rfl) (λ vs H Q E h=>?_) (λ f cdv A outer s H vs Q E e h=>?_)
 ·obtain ⟨_,_,_,rfl,_⟩:=h;rfl
 obtain ⟨a,ns,k,rfl,d,k0,q⟩:=h;refine ⟨_,(Ae (Az (BL Ga (pv 1) (BV CV rfl T.len CK (Ad (pv 0) Aa))) (Ah (Av (Ai Ay (pv 0) (pv 1)))) BJ) (Ah (Av Ab))),?_⟩;refine ⟨_,rfl,_,rfl,a,_,rfl,.inl d,_,_,rfl,rfl,_,rfl,?_⟩;refine ite2 (λ b=>?_) (λ _=>q 0)
 have b:k < (((ns.map V.int).length:Nat):Int):=of_decide_eq_true b;obtain ⟨v,hv,hm⟩:=Jr (xs:=ns.map V.int) k0 b;obtain ⟨g,_,rfl⟩:=Jb.mp hm;exact ⟨_,rfl,_,rfl,a,_,_,_,rfl,rfl,d,hv,q g⟩
theorem iD (T:Txt K mg ad):CalB P w K mg base true 1 "_law_drawn" ["_law_script","_law_start"] (vW K):=by
 refine T.O1.calN cB (λ _ _ _ _ _ _=>CJ λ _ _=>rfl) (λ vs H Q E h=>?_) (λ f cdv A outer s H vs Q E B h=>?_)
 ·obtain ⟨_,_,_,rfl,_⟩:=h;rfl
 obtain ⟨a,ns,st,rfl,t,q⟩:=h;refine ⟨_,(Ah (Av (Bl (Ad (pv 1) (Bw (Ak DN (Di Gv (pv 0) Ej (Cy Ab)) (Bl (Ad (pv 1) Aa))) (Ag Ab Aa)))))),?_⟩;have g:=v7 (ns.map V.int) 60
 change (cutV (ns.map V.int) none (some 60)).length<=_ at g
 have i:=V0 ns none (some 60);refine ⟨_,rfl,_,rfl,_,rfl,a,_,rfl,t,λ p u=>?_⟩
 generalize cutV (ns.map V.int) none (some 60)=d at g i ⊢;have j:=Al u (.lst d);refine ⟨_,rfl,(by show 1<=X2;decide),λ v k=>?_⟩
 have e:=Al k (.lst [.int st]);refine ⟨p,v,_,_,rfl,rfl,e _ _ Aj,Aj,JA (small1000 (by simp only [U1,WA];omega)),λ l m=>?_⟩
 have n:=Al m (.lst (d++[.int st]));refine ⟨(by show 3<=X2;decide),λ y b=>?_⟩
 have o:=Al b (.lst [.int st,.ref l,.int 0]);have r:=j.trans (e.trans (n.trans o));refine q y l (d++[.int st]) _ r ((j.trans (e.trans n)).free b) ⟨⟨st,0,by decide,Aj⟩,o _ _ Aj,λ x z=>?_,by rw [ZA];simp,by rw [ZA];simp only [U1,WA];omega⟩
 rcases XA.mp z with h | h
 ·exact i x h
 ·exact ⟨st,Zu.mp h⟩
theorem K7 (T:Txt K mg ad):CalB P w K mg base true 1 "_law_draw" ["_law_drawn_here","_law_many"] iY:=by
 refine T.Sg.calN Qd (λ _ _ _ _ _ _=>CJ λ _ _=>rfl) (λ vs H Q E h=>?_) (λ f cdv A outer s H vs Q E z h=>?_)
 ·obtain ⟨_,_,_,_,rfl,_⟩:=h;rfl
 obtain ⟨d,c,k,m,rfl,hd,o,q⟩:=h;obtain ⟨a,n,B,b⟩:=hd.d;have j:=hd.ne;refine ⟨_,(Ae (Aq (i:=2) Qd.nd (Ai Ay (pv 0) Ab)) (Ae (RV (Ak Ca (Ai Ay (pv 0) Ab) Ab) (Xw (pv 0) Ab V1)) (Ae (Aq (i:=3) Qd.nd (Ak Ca (Ak Gb (Ai Ay (pv 0) Ab) Ab) (Ak CT (Ai Ay (pv 2) (Ak CT (Ai Ay (pv 0) Ab) (BV CV rfl T.len CK (Ad (pv 2) Aa)))) Ab))) (Ae (RV (Ak CT (Ak Ca (pv 3) (Ai Ay (pv 0) Ab)) Ab) (Xw (pv 0) Ab V1)) (Ah (Av (Ak CT (Ak Du (Ai Ay (pv 0) Ab) Ab) (pv 1)))))))),?_⟩;refine ⟨_,rfl,d,_,_,_,rfl,rfl,SqL.of b,rfl,?_⟩;refine ⟨_,rfl,d,_,_,_,rfl,rfl,SqL.of b,rfl,_,_,rfl,rfl,_,rfl,d,_,_,2,rfl,rfl,b,rfl,?_⟩;have g:upd H d (.lst [.int a,.ref c,.int (n+1)]) d=some (.lst [.int a,.ref c,.int (n+1)]):=Aj;have e:upd H d (.lst [.int a,.ref c,.int (n+1)]) c=some (.lst k):=by rw [Ax j];exact hd.c
 have e1:upd H d (.lst ([V.int a,.ref c,.int n].set 2 (.int (n+1))))=upd H d (.lst [.int a,.ref c,.int (n+1)]):=rfl;have r:SD d H (upd H d (.lst [.int a,.ref c,.int (n+1)])):=JX;refine ⟨_,rfl,d,_,_,_,rfl,rfl,SqL.of g,rfl,_,_,rfl,rfl,.inr ⟨by decide,by decide⟩,?_⟩
 have p:(0:Int) < ((k.length:Nat):Int):=by have:=hd.l;omega
 have t:=Qy (n+1) (show ((k.length:Nat):Int)≠0 by omega)
 have u:=Jl (n+1) p;obtain ⟨v,hv,hm⟩:=Jr (xs:=k) t u;obtain ⟨C,rfl⟩:=hd.i v hm;refine ⟨_,rfl,_,rfl,d,_,_,_,rfl,rfl,SqL.of g,rfl,_,rfl,c,_,rfl,.inl (SqL.of e),_,_,rfl,rfl,p,c,_,_,_,rfl,rfl,SqL.of e,hv,?_⟩;refine ⟨_,_,rfl,rfl,(by show (0:Int) < 2147483647;decide),_,_,rfl,rfl,?_⟩
 refine ⟨_,rfl,_,rfl,d,_,_,_,rfl,rfl,SqL.of g,rfl,_,_,rfl,rfl,_,_,rfl,rfl,(by show (0:Int) < 2147483629;decide),_,rfl,d,_,_,0,rfl,rfl,g,rfl,?_⟩
 have y:∀x:Int,DrA (upd (upd H d (.lst [.int a,.ref c,.int (n+1)])) d (.lst [.int x,.ref c,.int (n+1)])) d c k:=λ x=>⟨⟨x,n+1,by omega,Aj⟩,by rw [Ax j];exact e,hd.i,hd.l,hd.m⟩
 refine ⟨_,rfl,d,_,_,_,rfl,rfl,SqL.of Aj,rfl,_,_,rfl,rfl,⟨by decide,by decide⟩,_,rfl,_,_,rfl,rfl,o,?_⟩
 exact q _ _ (Qy _ (by omega)) (Jl _ o) (y _) (r.trans JX)
theorem XS (T:Txt K mg ad):CalB P w K mg base true 1 "_law_low" ["_law_top","_law_bottom"] o9:=by
 refine T.Qg.calN Jw (λ _ _ _ _ _ _=>CJ λ _ _=>rfl) (λ vs H Q E h=>?_) (λ f cdv A outer s H vs Q E C h=>?_)
 ·obtain ⟨a,b,rfl,_⟩:=h;rfl
 obtain ⟨a,b,rfl,D,bs,q⟩:=h;have g:b≠0:=by omega
 refine ⟨_,(Ae (Aq (i:=2) Jw.nd (BV N8 rfl T.abs Lz (Ad (pv 0) Aa))) (Ae (Aq (i:=3) Jw.nd (pv 1)) (Ae (Lb UI (BL Fd (pv 3) Ab) (Ah (Uz (i:=2) (j:=3) rfl Jw.nd rfl rfl (by decide) rfl rfl (Ad (pv 3) (Bw (Ak CT (pv 2) (pv 3)) Aa)) rfl))) (Ah (Av (De (Bw (Ak Zx (pv 0) (pv 2)) (Bw (Ak Zx (pv 1) (pv 2)) Aa)))))))),?_⟩
 refine ⟨_,rfl,_,rfl,_,rfl,?_⟩;have t:=Fr.Jp a;have u:b=(b.natAbs:Int):=by omega
 refine ⟨λ k v d=>H=d/\∃(m:Nat),v=[some (.int a),some (.int b),some (.int m),some (.int k)]/\we m k=we a.natAbs b.natAbs,⟨b.natAbs,rfl,a.natAbs,by rw [<- t,<- u];rfl,rfl⟩,?_⟩
 rintro n _ _ ⟨rfl,m,rfl,e⟩
 refine ⟨_,rfl,_,_,rfl,rfl,_,rfl,?_⟩;refine ite2 (λ c=>?_) (λ c=>?_)
 ·have hn:n≠0:=by
   intro x;subst x;simp at c
  have y:(m:Int) % (n:Int)=((m % n:Nat):Int):=(ja m n).symm;refine ⟨λ l d=>H=d/\l=[some (.int a),some (.int b),some (.int n),some (.int ((m:Int) % (n:Int)))],?_,?_⟩
  ·rintro _ _ ⟨rfl,rfl⟩
   rw [y];exact ⟨m % n,FB _ (by omega),rfl,n,rfl,by rw [Fr.Wy,e]⟩
  ·exact ⟨_,rfl,_,rfl,_,rfl,_,_,rfl,rfl,(by show (0:Int) < (n:Int);omega),_,_,rfl,rfl,rfl⟩
 ·have hn:n=0:=by
   by_cases x:n=0
   ·exact x
   ·exfalso
    apply c
    exact decide_eq_true (by omega)
  subst hn;have e2:(m:Int)=Fr.gcd a b:=by
   unfold Fr.gcd;rw [<- e,Nat.gcd_zero_right]
  have F:=Fr.gr (a:=a) g;have G:=Fr.bQ a b;have o:(m:Int)=Fr.sg a b:=by
   unfold Fr.sg;rw [if_neg (by omega),e2]
  have r:(m:Int).natAbs.log2 < 9000:=by
   have z:(m:Int).natAbs < lim:=by omega
   exact dG z
  have ne:(m:Int)≠0:=by rw [o];exact Fr.K9 g
  refine ⟨_,rfl,_,rfl,_,_,rfl,rfl,⟨ne,r⟩,_,rfl,_,rfl,_,_,rfl,rfl,⟨ne,r⟩,(by show 2<=X2;decide),λ p B=>?_⟩
  rw [o];exact q p B
theorem vD (T:Txt K mg ad):CalB P w K mg base true 1 "_law_under" ["_law_one","_law_other"] (PR K WL):=by
 refine T.PN.calN cU (λ _ _ _ _ _ _=>CJ λ _ _=>rfl) (λ vs H Q E h=>?_) (λ f cdv A outer s H vs Q E j h=>?_)
 ·obtain ⟨_,_,dv,⟨_,_,rfl,_⟩,_⟩:=h;exact dv.len
 obtain ⟨_,_,dv,⟨p,q,rfl,sp,d,rfl⟩,k⟩:=h;obtain ⟨_,_,rfl,g,i⟩:=dv.two;obtain ⟨a,rfl,ha⟩:=g.fr;obtain ⟨b,rfl,hb⟩:=i.fr;refine ⟨_,(Ah (Av (Ea Ga (Ak GF (Ai BW (pv 0) Ab) (Ai BW (pv 1) Ab)) (Ak GF (Ai BW (pv 1) Ab) (Ai BW (pv 0) Ab))))),?_⟩;refine ⟨_,rfl,a,_,_,_,rfl,rfl,ha,rfl,_,rfl,b,_,_,_,rfl,rfl,hb,rfl,_,_,rfl,rfl,GC sp.n d.dn,?_⟩;refine ⟨_,rfl,b,_,_,_,rfl,rfl,hb,rfl,_,rfl,a,_,_,_,rfl,rfl,ha,rfl,_,_,rfl,rfl,GC d.n sp.dn,_,_,rfl,rfl,?_⟩;have e:decide (p.num * (q.den:Int) < q.num * (p.den:Int))=decide (p < q):=decide_eq_decide.mpr (Fr.Z2 p q);show Q (.bl (decide (p.num * (q.den:Int) < q.num * (p.den:Int)))) H;rw [e];exact k _ _ (Same.refl _) (.bl _)
theorem Uu {t b:Int}(a:b≠0)(ht:t.natAbs < 10 ^ 15)(hb:b.natAbs < 10 ^ 15):Short (WS t b):=by
 obtain ⟨d,e⟩:=ZR a (rfl:WS t b=WS t b);exact ⟨by omega,by omega⟩
theorem oZ {t b:Int}(a:b≠0)(ht:t.natAbs < 2000)(hb:b.natAbs < 2000):Bd 12 (WS t b):=by
 exact Bd.of a (zt ht (by decide)) (zt hb (by decide))
def lD (K:FrG):Sp:=λ vs H Q _=>∃(d c:Addr) (e:List V) (b:Bool),vs=[.ref d,.bl b]/\DrA H d c e/\∀v a q,DrA a d c e->SD d H a->DV K a v (BK q)->(Short q/\(b=false->Bd 12 q))->Q v a
def gW (K:FrG):Sp:=λ vs H Q _=>∃(d c:Addr) (e:List V) (b:Bool),vs=[.ref d,.bl b]/\DrA H d c e/\∀v a p,DrA a d c e->SD d H a->DV K a v (Bv p)->(DX p/\(b=false->p.bd 12))->Q v a
theorem V5 {q:Rat}(h:Short q):Bd 50 q:=by
 have a:(10:Nat) ^ 15<=2 ^ 50:=by decide
 exact ⟨W1 h.n a,W1 h.d a⟩
theorem iM (T:Txt K mg ad):CalB P w K mg base true 2 "_law_part" ["_law_drawn_here","_law_far"] (lD K):=by
 refine T.Ow.calN Gz (λ _ _ _ _ _ _=>CJ λ _ _=>rfl) (λ vs H Q E h=>?_) (λ f cdv A outer s H vs Q E a h=>?_)
 ·obtain ⟨_,_,_,_,rfl,_⟩:=h;rfl
 obtain ⟨d,c,n,x,rfl,hd,q⟩:=h;have y:CPow 10 15:=⟨by decide,by decide,by decide⟩
 have Y:(10:Int) ^ (15:Int).toNat=1000000000000000:=by decide
 have e3:(2:Nat) ^ 50=1125899906842624:=by decide
 have c9:(10:Nat) ^ 15=1000000000000000:=by decide
 obtain ⟨f7,d0,Z⟩:∃t,PSs (Cd true P w K mg base ["_law_drawn_here","_law_far","_law_top","_law_bottom"] "_law_part" (defScope Ho) f cdv A outer s H E).nox ((defBody Ho).drop 1) t/\∀(c8:Ends) (a0 a1:Option V) (o:Hp),DrA o d c n->SD d H o->(∀v F q,DrA F d c n->SD d H F->DV K F v (BK q)->(Short q/\(x=false->Bd 12 q))->c8.rt v F)->t c8 [some (.ref d),some (.bl x),a0,a1] o:=by
  refine ⟨_,(Ae (Aq (i:=2) Gz.nd (Ao (K7 T) a.m Aw (Ad (pv 0) (BR (Ai Ay (Bl (Ag Ab (Ag Ab Aa))) (Ib ZX rfl T.int Iu (WN (Ea Bj (Ao (K7 T) a.m Aw (Ad (pv 0) (Ag Ab Aa))) Ab) Aa))) Aa)))) (Ae (Aq (i:=3) Gz.nd (Ak Ca Ab (Ai Ay (Bl (Ag Ab (Ag Ab (Bg (Ao (K7 T) a.m Aw (Ad (pv 0) (Ag Ab Aa))) (Bg (Ao (K7 T) a.m Aw (Ad (pv 0) (Ag Ab Aa))) Aa))))) (Ao (K7 T) a.m Aw (Ad (pv 0) (Ag Ab Aa)))))) (Ae (Az (BL Bj (Ao (K7 T) a.m Aw (Ad (pv 0) (Ag Ab Aa))) Ab) (Ah (Aq (i:=2) Gz.nd (Ak Fq Ab (pv 2)))) BJ) (Ah (Av (Ao (XS T) a.m Aw (Ad (pv 2) (Ad (pv 3) Aa)))))))),?_⟩
  intro c8 a0 a1 o j G q;refine ⟨_,rfl,(by show 2<=X2;decide),λ p u=>?_⟩
  have a2:=Al u (.lst [.int 21,.int 1999]);obtain ⟨f8,f9,_,a3⟩:=j.d;have a4:p≠d:=λ e=>by rw [e,a3] at u;cases u
  refine ⟨_,rfl,d,c,n,9,rfl,j.keep a2,by decide,λ a5 d1 a6 a7 z I=>?_⟩
  have a8:=I p _ a4 Aj;refine ⟨rfl,.inr ⟨_,rfl,?_⟩⟩;obtain ⟨v,hv,hm⟩:=Jr (xs:=[V.int 21,V.int 1999]) (r:=if decide (V.int a5=V.int 1) then 1 else 0) (by split<;>decide) (by simp only [U1,WA];split<;>decide)
  obtain ⟨m,rfl,d2,g0⟩:∃m:Int,v=.int m/\0 < m/\m<=1999:=by
   simp only [ZT,WE,or_false] at hm;rcases hm with rfl | rfl<;>exact ⟨_,rfl,by decide,by decide⟩
  refine ⟨p,_,_,_,rfl,rfl,SqL.of a8,hv,?_⟩;refine ⟨d,c,n,m,rfl,z,d2,λ t d3 g1 t1 B O=>?_⟩
  have a9:=G.trans ((a2.sd d).trans (I.trans O));refine ⟨_,rfl,d,c,n,4,rfl,B,by decide,λ b0 d4 b2 e4 C R=>?_⟩
  refine ⟨_,rfl,d,c,n,12,rfl,C,by decide,λ b3 d5 b4 e5 l S=>?_⟩
  refine ⟨(by show 4<=X2;decide),λ U D=>?_⟩
  have b5:=Al D (.lst [.int 0,.int 0,.int b0,.int b3]);obtain ⟨g2,g3,_,W⟩:=l.d;have X:U≠d:=λ e=>by rw [e,W] at D;cases D
  refine ⟨_,rfl,d,c,n,4,rfl,l.keep b5,by decide,λ d6 g4 b6 e6 b7 b8=>?_⟩
  have b9:=b8 U _ X Aj;obtain ⟨d7,c0,M⟩:=Jr (xs:=[V.int 0,V.int 0,V.int b0,V.int b3]) (r:=d6) b6 (by simp only [U1,WA];omega)
  obtain ⟨b,rfl,g5,b1⟩:∃b:Int,d7=.int b/\0<=b/\b<=11:=by
   simp only [ZT,WE,or_false] at M;rcases M with rfl | rfl | rfl | rfl
   ·exact ⟨_,rfl,by decide,by decide⟩
   ·exact ⟨_,rfl,by decide,by decide⟩
   ·exact ⟨_,rfl,b2,by omega⟩
   ·exact ⟨_,rfl,b4,by omega⟩
  refine ⟨U,_,_,_,rfl,rfl,SqL.of b9,c0,_,_,rfl,rfl,?_⟩;have c1:=a9.trans (R.trans (S.trans ((b5.sd d).trans b8)));refine ⟨_,rfl,d,c,n,2,rfl,b7,by decide,λ g6 c2 e7 e8 c3 d8=>?_⟩
  have c4:=c1.trans d8;have bl:(1+b:Int).natAbs < lim:=W1 (show (1+b:Int).natAbs < 2 ^ 50 by omega) (by unfold lim;exact Fp (by decide))
  refine ⟨rfl,_,rfl,?_⟩;have N:∀t':Int,t'.natAbs < 2000->∀k,c2 k=none->c8.rt (.ref k) (upd c2 k (.tup [.int (Fr.lt t' (1+b)),.int (Fr.lb t' (1+b))])):=λ t' ht k g=>
   q _ _ _ (c3.keep (Al g _)) (c4.trans ((Al g _).sd d)) (TV (by omega)) ⟨Uu (by omega) (by omega) (by omega),λ _=>oZ (by omega) ht (by omega)⟩
  refine ite2 (λ _=>?_) (λ _=>?_)
  ·refine ⟨_,rfl,_,_,rfl,rfl,?_⟩;exact ⟨_,rfl,_,rfl,_,_,rfl,(by show (0:Int) < 1+b;omega),bl,λ k g=>N (0 - t) (by omega) k g⟩
  ·exact ⟨_,rfl,_,rfl,_,_,rfl,(by show (0:Int) < 1+b;omega),bl,λ k g=>N t (by omega) k g⟩
 refine ⟨_,(Ae (Az (PW.pt (pw_and (Bf (pv 1)) (pw_and1 (BL Bj (Ao (K7 T) a.m Aw (Ad (pv 0) (Ag Ab Aa))) Ab)))) (Ae (Aq (i:=2) Gz.nd (Ak Ca (Ak Gb (Ao (K7 T) a.m Aw (Ad (pv 0) (Ag Ab Aa))) Ab) (Ao (K7 T) a.m Aw (Ad (pv 0) (Ag Ab Aa))))) (Ae (Aq (i:=3) Gz.nd (Ak Ca (Ak Gb (Ao (K7 T) a.m Aw (Ad (pv 0) (Ag Ab Aa))) Ab) (Ao (K7 T) a.m Aw (Ad (pv 0) (Ag Ab Aa))))) (Ah (Av (Ao (XS T) a.m Aw (Bw (Ak Ca (Ak Fq (Ak CT (pv 2) (Ak Fq (Ak Gb Ab (Ak Qw Ab Ab)) Ab)) (Ak Qw Ab Ab)) Ab) (Bw (Ak Ca Ab (Ak CT (pv 3) (Ak Fq (Ak Qw Ab Ab) Ab))) Aa))))))) BJ) d0),?_⟩
 refine ⟨_,rfl,_,rfl,?_⟩;cases x with
 | false=>exact iteF (iteF (Z _ _ _ H hd (SD.refl _ _) q))
 | true=>
  refine iteT ?_;refine ⟨_,rfl,d,c,n,3,rfl,hd,by decide,λ a5 o a6 a7 j G=>?_⟩
  refine ⟨rfl,_,rfl,?_⟩;refine ite2 (λ _=>?_) (λ _=>Z _ _ _ o j G q)
  refine ⟨_,rfl,d,c,n,33554432,rfl,j,by decide,λ c5 d1 e9 f0 z I=>?_⟩
  refine ⟨_,_,rfl,rfl,.inr ⟨by decide,by decide⟩,_,rfl,d,c,n,33554432,rfl,z,by decide,λ c6 d3 f1 f2 B O=>?_⟩
  refine ⟨_,_,rfl,rfl,?_⟩;refine ⟨_,rfl,d,c,n,33554432,rfl,B,by decide,λ J d4 f3 f4 C R=>?_⟩
  refine ⟨_,_,rfl,rfl,.inr ⟨by decide,by decide⟩,_,rfl,d,c,n,33554432,rfl,C,by decide,λ L d5 f5 f6 l S=>?_⟩
  refine ⟨_,_,rfl,rfl,?_⟩;have c7:=G.trans (I.trans (O.trans (R.trans S)));refine ⟨_,rfl,_,_,rfl,rfl,y,_,_,rfl,rfl,.inl ⟨by decide,by decide⟩,_,_,rfl,rfl,_,_,rfl,rfl,(by show (0:Int) < 2 * 10 ^ (15:Int).toNat - 1;decide),_,_,rfl,rfl,y,_,_,rfl,rfl,_,_,rfl,rfl,?_⟩
  refine ⟨_,rfl,_,_,rfl,rfl,y,_,_,rfl,rfl,_,_,rfl,rfl,(by show (0:Int) < 10 ^ (15:Int).toNat - 1;decide),_,_,rfl,rfl,?_⟩
  have d9:=Qy (c5 * 33554432+c6) (show (2 * 10 ^ (15:Int).toNat - 1:Int)≠0 by decide)
  have e1:=Jl (c5 * 33554432+c6) (show (0:Int) < 2 * 10 ^ (15:Int).toNat - 1 by decide)
  have e0:=Qy (J * 33554432+L) (show (10 ^ (15:Int).toNat - 1:Int)≠0 by decide)
  have e2:=Jl (J * 33554432+L) (show (0:Int) < 10 ^ (15:Int).toNat - 1 by decide)
  rw [Y] at d9 e1 e0 e2 ⊢;refine ⟨_,_,rfl,(by show (0:Int) < 1+(J * 33554432+L) % (1000000000000000 - 1);omega),W1 (show (1+(J * 33554432+L) % (1000000000000000 - 1):Int).natAbs < 2 ^ 50 by omega) (by unfold lim;exact Fp (by decide)),λ p u=>?_⟩
  exact q _ _ _ (l.keep (Al u _)) (c7.trans ((Al u _).sd d)) (TV (by omega)) ⟨Uu (by omega) (by omega) (by omega),λ e=>nomatch e⟩
theorem oG (T:Txt K mg ad):CalB P w K mg base true 3 "_law_piece" ["_law_drawn_here","_law_far"] (gW K):=by
 refine T.NK.calN Ii (λ _ _ _ _ _ _=>CJ λ _ _=>rfl) (λ vs H Q E h=>?_) (λ f cdv A outer s H vs Q E z h=>?_)
 ·obtain ⟨_,_,_,_,rfl,_⟩:=h;rfl
 obtain ⟨d,c,L,B,rfl,hd,q⟩:=h;refine ⟨_,(Ae (Aq (i:=2) Ii.nd (Ao (K7 T) z.m Aw (Ad (pv 0) (Ag Ab Aa)))) (Ae (Aq (i:=3) Ii.nd (Ao (iM T) z.m Aw (Ad (pv 0) (Ad (pv 1) Aa)))) (Ae (Az (BL Ga (pv 2) Ab) (Ah (Av (De (Ag Af (Ad (pv 3) Aa))))) BJ) (Ae (Az (BL Ga (pv 2) Ab) (Ah (Av (De (Ag Af (Ad (pv 3) Aa))))) BJ) (Ae (Aq (i:=4) Ii.nd (Ao (iM T) z.m Aw (Ad (pv 0) (Ad (pv 1) Aa)))) (Ae (Az (Bf (Ao (vD T) z.m Aw (Ad (pv 4) (Ad (pv 3) Aa)))) (Ah (Uz (i:=3) (j:=4) rfl Ii.nd rfl rfl (by decide) rfl rfl (Ad (pv 4) (Ad (pv 3) Aa)) rfl)) BJ) (Ah (Av (De (Ag Af (Ad (pv 3) (Ad (pv 4) Aa)))))))))))),?_⟩
 refine ⟨_,rfl,d,c,L,5,rfl,hd,by decide,λ S U O R F M=>?_⟩
 refine ⟨_,rfl,_,rfl,d,c,L,B,rfl,F,λ V W k n N t b2=>?_⟩
 have u:=M.trans N;refine ⟨_,rfl,_,_,rfl,rfl,_,rfl,?_⟩;refine ite2 (λ _=>?_) (λ _=>?_)
 ·refine ⟨_,rfl,(by show 2<=X2;decide),λ p a=>?_⟩
  exact q _ _ (.gap k) (n.keep (Al a _)) (u.trans ((Al a _).sd d)) (DV.upd2 a (.str _) t) ⟨⟨trivial,λ x g=>by rw [Zu.mp g];exact b2.1⟩,λ e=>b2.2 e⟩
 refine ⟨_,rfl,_,_,rfl,rfl,_,rfl,?_⟩;refine ite2 (λ _=>?_) (λ _=>?_)
 ·refine ⟨_,rfl,(by show 2<=X2;decide),λ p a=>?_⟩
  exact q _ _ (.glass k) (n.keep (Al a _)) (u.trans ((Al a _).sd d)) (DV.upd2 a (.str _) t) ⟨⟨trivial,λ x g=>by rw [Zu.mp g];exact b2.1⟩,λ e=>b2.2 e⟩
 refine ⟨_,rfl,_,rfl,d,c,L,B,rfl,n,λ X Y v G I y b3=>?_⟩
 have J:=u.trans I;have l:=n.dv I t;refine ⟨_,rfl,_,rfl,_,_,.cons y (.cons l .nil),⟨_,_,rfl,(V5 b3.1).sm (by decide),(V5 b2.1).sm (by decide),rfl⟩,λ b Z o hb=>?_⟩
 obtain rfl:=hb.bl_of;refine ⟨_,rfl,?_⟩;have C:=G.keep o;have D:=J.trans (o.sd d);refine ite2 (λ r=>?_) (λ r=>?_)
 ·have r:v < k:=of_decide_eq_true r;refine ⟨_,rfl,_,rfl,_,_,rfl,?_⟩;refine ⟨_,rfl,_,rfl,(by show 3<=X2;decide),λ p a=>?_⟩
  exact q _ _ (.stop v k) (C.keep (Al a _)) (D.trans ((Al a _).sd d)) (DV.upd3 a (.str _) (y.keep o) (l.keep o)) ⟨⟨show ¬ k < v by grind,λ x g=>by rcases ZT.mp g with rfl | g;exact b3.1;rw [Zu.mp g];exact b2.1⟩,λ e=>⟨b3.2 e,b2.2 e⟩⟩
 ·have r:¬ v < k:=λ a0=>r (decide_eq_true a0)
  refine ⟨_,rfl,_,rfl,(by show 3<=X2;decide),λ p a=>?_⟩
  exact q _ _ (.stop k v) (C.keep (Al a _)) (D.trans ((Al a _).sd d)) (DV.upd3 a (.str _) (l.keep o) (y.keep o)) ⟨⟨r,λ x g=>by rcases ZT.mp g with rfl | g;exact b2.1;rw [Zu.mp g];exact b3.1⟩,λ e=>⟨b2.2 e,b3.2 e⟩⟩
end
end K70
namespace K70
open PySem L2 Lib Fr Op
seal PE PT PW PA PS PSs PG PGs PI PO Bo
local macro_rules | `(tactic| walk_at "Zs")=>`(tactic| first | with_reducible assumption | with_reducible exact Same.refl _ | exact zs1 (by with_reducible assumption) (by walk_at "Zs") | exact zs2 (by with_reducible assumption) (by walk_at "Zs"))
local macro_rules | `(tactic| walk_at "Zd")=>`(tactic| first | with_reducible assumption | with_reducible exact DV.int _ | with_reducible exact DV.str _ | with_reducible exact DV.bl _ | with_reducible exact DV.non | exact zd1 (by first | with_reducible assumption | assumption) (by walk_at "Zs") | with_reducible exact dN (by assumption) _ | with_reducible exact dO (by assumption) _ | exact zd2 (by with_reducible assumption) (by walk_at "Zs") (by walk_at "Zd") (by walk_at "Zd") | exact zd3 (by with_reducible assumption) (by walk_at "Zs") (by walk_at "Zd") (by walk_at "Zd") (by walk_at "Zd") | exact zd4 (by with_reducible assumption) (by walk_at "Zs") (by walk_at "Zd") (by walk_at "Zd") (by walk_at "Zd") (by walk_at "Zd"))
local macro_rules | `(tactic| walk_at "Zt")=>`(tactic| first | assumption | exact zt1 (by assumption) (by walk_at "Zs") | exact zt2 (by walk_at "Zs"))
local macro_rules | `(tactic| walk_at "Zl")=>`(tactic| first | assumption | exact Hw (by assumption) (by walk_at "Zs") | exact Gx (by walk_at "Zs"))
local macro_rules | `(tactic| walk_at "Zv")=>`(tactic| first | exact DVs.nil | exact DVs.cons (by walk_at "Zd") (by walk_at "Zv"))
local macro_rules | `(tactic| walk_at "Zb")=>`(tactic| first | with_reducible assumption | exact bd_zero 1 (by decide) | exact bd_one 1 (by decide) | with_reducible exact Bd.mul (by walk_at "Zb") (by walk_at "Zb") | with_reducible exact Bd.add (by walk_at "Zb") (by walk_at "Zb") | with_reducible exact Bd.sub (by walk_at "Zb") (by walk_at "Zb") | with_reducible exact Tb.a (by with_reducible assumption) | with_reducible exact Tb.b (by with_reducible assumption) | with_reducible exact Tb.c (by with_reducible assumption) | with_reducible exact Tb.d (by with_reducible assumption) | with_reducible exact Rb.y (by with_reducible assumption) | with_reducible exact Rb.u (by with_reducible assumption))
local macro_rules | `(tactic| walk_at "Zm")=>`(tactic| first | with_reducible assumption | with_reducible exact Sm.zero | with_reducible exact Sm.one | exact Bd.sm (by walk_at "Zb") (by first | decide | omega))
local macro_rules | `(tactic| walk_at "Zr")=>`(tactic| first | exact ⟨_,_,rfl,by walk_at "Zm",by walk_at "Zm",rfl⟩ | exact ⟨_,_,rfl,by walk_at "Zm",by walk_at "Zm",by assumption,rfl⟩)
local macro_rules | `(tactic| walk_at "Zc")=>`(tactic| (refine ⟨_,_,by walk_at "Zv",by walk_at "Zr",λ v H' s hv=>?_⟩;(first | (obtain rfl:=DV.bl_of hv) | (have:=(show DV _ _ _ (BK _) from hv);clear this) | (obtain ⟨a,x1,x2,x3,x4,rfl,ha,h1,h2,h3,h4⟩:=DV.t4 hv) | (obtain ⟨a,x1,x2,x3,rfl,ha,h1,h2,h3⟩:=DV.t3 hv) | (obtain ⟨a,x1,x2,rfl,ha,h1,h2⟩:=DV.t2 hv) | skip)))
local macro_rules | `(tactic| walk_at "Zp")=>`(tactic| first | refine ⟨by (show 2<=sizeLine;decide),λ p hp=>?_⟩ | refine ⟨by (show 3<=sizeLine;decide),λ p hp=>?_⟩ | refine ⟨by (show 4<=sizeLine;decide),λ p hp=>?_⟩)
local macro_rules | `(tactic| walk_at "Zn")=>`(tactic| first | refine ⟨_,rfl,?_⟩ | refine ⟨_,_,_,_,rfl,rfl,by walk_at "Zt",by rfl,?_⟩ | refine ⟨_,_,rfl,rfl,?_⟩)
local macro_rules | `(tactic| walk_at "Z1")=>`(tactic| first | walk_at "Zn" | walk_at "Zp" | walk_at "Zc" | refine iteF ?_ | refine iteT ?_)
local macro_rules | `(tactic| walk_at "Z")=>`(tactic| repeat walk_at "Z1")
section
variable {P:Yg}{w:World}{K:FrG}{mg:Str->Option Value}{base:Heap}{ad:Adr}{c:Bool}
theorem VF (T:Txt K mg ad):CalB P w K mg base true 3 "_law_plus" ["_law_one","_law_other"] (PR K (Zj λ p q=>p+q)):=by
 refine T.Nt.calN fV (λ _ _ _ _ _ _=>CJ λ _ _=>rfl) (λ vs H Q E h=>?_) (λ f cdv A outer s H vs Q E g h=>?_)
 ·obtain ⟨_,_,dv,⟨_,_,rfl,_⟩,_⟩:=h;exact dv.len
 obtain ⟨_,_,dv,⟨p,q,rfl,sp,d,rfl⟩,k⟩:=h;obtain ⟨_,_,rfl,i,j⟩:=dv.two;obtain ⟨a,rfl,ha⟩:=i.fr;obtain ⟨b,rfl,hb⟩:=j.fr;refine ⟨_,(Ah (Av (Ao (XS T) g.m Aw (Bw (Ak Ca (Ak GF (Ai BW (pv 0) Ab) (Ai BW (pv 1) Ab)) (Ak GF (Ai BW (pv 1) Ab) (Ai BW (pv 0) Ab))) (Bw (Ak GF (Ai BW (pv 0) Ab) (Ai BW (pv 1) Ab)) Aa))))),?_⟩
 refine ⟨_,rfl,a,_,_,_,rfl,rfl,ha,rfl,_,rfl,b,_,_,_,rfl,rfl,hb,rfl,_,_,rfl,rfl,GC sp.n d.dn,?_⟩;refine ⟨_,rfl,b,_,_,_,rfl,rfl,hb,rfl,_,rfl,a,_,_,_,rfl,rfl,ha,rfl,_,_,rfl,rfl,GC d.n sp.dn,_,_,rfl,rfl,?_⟩;refine ⟨_,rfl,a,_,_,_,rfl,rfl,ha,rfl,_,rfl,b,_,_,_,rfl,rfl,hb,rfl,_,_,rfl,rfl,GC sp.dn d.dn,?_⟩;refine ⟨_,_,rfl,Int.mul_pos (Le p) (Le q),nH sp.dn d.dn,λ r g=>k _ _ (Al g _) ?_⟩
 have e:=TV (K:=K) (H:=H) (t:=p.num * (q.den:Int)+q.num * (p.den:Int)) (b:=(p.den:Int) * (q.den:Int)) (p:=r) (ux p q);rw [Fr.Xi] at e;exact e
theorem sY (T:Txt K mg ad):CalB P w K mg base true 4 "_law_less" ["_law_one","_law_other"] (PR K (Zj λ p q=>p - q)):=by
 refine T.O4.calN dF (λ _ _ _ _ _ _=>CJ λ _ _=>rfl) (λ vs H Q E h=>?_) (λ f cdv A outer s H vs Q E i h=>?_)
 ·obtain ⟨_,_,dv,⟨_,_,rfl,_⟩,_⟩:=h;exact dv.len
 obtain ⟨_,_,dv,⟨p,q,rfl,sp,j,rfl⟩,k⟩:=h;obtain ⟨_,_,rfl,l,n⟩:=dv.two;obtain ⟨b,rfl,hb⟩:=n.fr;refine ⟨_,(Ah (Av (Ao (VF T) i.m Aw (Ad (pv 0) (Ik (De (Bw (Ak Fq Ab (Ai BW (pv 1) Ab)) (BR (Ai BW (pv 1) Ab) Aa))) Aa))))),?_⟩
 refine ⟨_,rfl,_,rfl,b,_,_,_,rfl,rfl,hb,rfl,_,_,rfl,rfl,_,rfl,b,_,_,_,rfl,rfl,hb,rfl,(by show 2<=X2;decide),λ a d=>?_⟩
 have g:=Al d (.tup [.int (0 - q.num),.int (q.den:Int)]);have dn:DV K (upd H a (.tup [.int (0 - q.num),.int (q.den:Int)])) (.ref a) (BK (-q)):=by
  rw [jE];exact .tup (SqT.of Aj) (.cons (.int _) (.cons (.int _) .nil))
 refine ⟨_,_,.cons (l.keep g) (.cons dn .nil),⟨_,_,rfl,sp,j.neg,rfl⟩,λ v o r hv=>k _ _ (g.trans r) ?_⟩
 have e:p+-q=p - q:=(Rat.sub_eq_add_neg p q).symm;show DV K o v (BK (p - q));rw [<- e];exact hv
end
end K70
namespace K70
open PySem L2 Lib Fr Op Tx PySem.NumText
seal PE PT PW PA PS PSs PG PGs PI PO Bo PJ
section
variable {P:Yg}{w:World}{K:FrG}{mg:Y2->Option Value}{base:Heap}{ad:Adr}{c:Bool}
theorem Xr {d:Nat}(h:d < 10):(Y1 "0123456789").cps[d]?=some (48+d):=by
 have:∀d:Nat,d < 10->(Y1 "0123456789").cps[d]?=some (48+d):=by decide
 exact this d h
theorem nW {a:Y2}(h:a=Y1 ""):cl a=[]:=by subst h;rfl
theorem lE (T:Txt K mg ad):CalB P w K mg base true 1 "_law_written" ["_law_number"] iT:=by
 refine T.Pk.calN Hl (λ _ _ _ _ _ _=>Bk λ _=>rfl) (λ vs H Q E h=>?_) (λ f cdv A outer s H vs Q E J h=>?_)
 ·obtain ⟨_,rfl,_⟩:=h;rfl
 obtain ⟨n,rfl,hn,q⟩:=h;refine ⟨_,(Ae (Aq (i:=1) Hl.nd Af) (Ae (Aq (i:=2) Hl.nd (BV N8 rfl T.abs Lz (Ad (pv 0) Aa))) (Ae (Lb UI (PW.pt (pw_or (BL Fd (pv 2) Ab) (pw_or1 (BL Bj (pv 1) Af)))) (Ae (Aq (i:=1) Hl.nd (Ak Dk (VM Af (Ak CT (pv 2) Ab) (λ _ _=>rfl)) (pv 1))) (Ah (Aq (i:=2) Hl.nd (Ak Du (pv 2) Ab))))) (Ah (Av (Ak Dk (Ak Ku Af (Ib ZX rfl T.int Iu (WN (Ea Ga (pv 0) Ab) Aa))) (pv 1))))))),?_⟩
 have dl:=(Dw (m:=n.natAbs) (k:=575) (by decide)).mpr hn
 refine ⟨_,rfl,_,rfl,?_⟩;refine ⟨λ k G o=>∃(m:Nat) (b:Y2),G=[some (.int n),some (.str b),some (.int (m:Int))]/\o=H/\((cl b=[]/\b=Y1 ""/\m=n.natAbs/\k=m+1)\/(cl b≠[]/\dz m++cl b=dg n.natAbs/\k=m)),⟨n.natAbs+1,n.natAbs,Y1 "",by rw [Fr.Jp];rfl,rfl,.inl ⟨rfl,rfl,rfl,rfl⟩⟩,?_⟩
 rintro k _ o ⟨m,b,rfl,rfl,p⟩
 have x:(m:Int) % 10=((m % 10:Nat):Int):=(ja m 10).symm;have y:(m:Int) / 10=((m / 10:Nat):Int):=(Int.natCast_ediv m 10).symm;have g:m % 10 < 10:=FB _ (by decide)
 have L:b.length<=575:=by
  rw [<- Ci];rcases p with ⟨e,_⟩ | ⟨_,e,_⟩
  ·rw [e];decide
  ·have:=congrArg Qf e;rw [ZA] at this;omega
 have step:(0 < m\/cl b=[])->m / 10 < k/\cl (QN #[48+m % 10]++b)≠[]/\dz (m / 10)++cl (QN #[48+m % 10]++b)=dg n.natAbs:=λ hm=>by
  have e1:cl (QN #[48+m % 10]++b)=[48+m % 10]++cl b:=Bh _ _;rw [e1];refine ⟨?_,by simp,?_⟩
  ·rcases p with ⟨_,_,_,e⟩ | ⟨d,_,e⟩
   ·omega
   ·rcases hm with h | h
    ·omega
    ·exact absurd h d
  ·rcases p with ⟨d,_,e2,e⟩ | ⟨d,e2,e⟩
   ·rw [d,<- e2];by_cases F:m=0
    ·subst F;rfl
    ·rw [UB,<- Ur (by omega),uE (by omega)]
   ·rcases hm with h | h
    ·rw [<- e2,Ur h,US]
    ·exact absurd h d
 have r:¬ (0 < m\/cl b=[])->cl (zU (Y1 "-") (if decide (n < 0)=true then 1 else 0)++b)=(if n < 0 then [45] else [])++dg n.natAbs:=λ hm=>by
  have I:m=0:=by
   by_cases F:m=0
   ·exact F
   ·exact absurd (.inl (by omega)) hm
  have z:cl b=dg n.natAbs:=by
   rcases p with ⟨d,_⟩ | ⟨_,e2,_⟩
   ·exact absurd (.inr d) hm
   ·rw [I] at e2;exact e2
  rw [Bh,z];by_cases a:n < 0
  ·rw [if_pos (decide_eq_true a),if_pos a];rfl
  ·rw [if_neg (by simpa using a),if_neg a];rfl
 have B:MulOk (Y1 "-") (if decide (n < 0)=true then 1 else 0):=by
  by_cases a:n < 0
  ·rw [if_pos (decide_eq_true a)];exact ⟨by decide,λ _ h=>absurd h (by decide),λ _ h=>absurd h (by decide)⟩
  ·rw [if_neg (by simpa using a)];exact ⟨by decide,λ h=>absurd (by decide) h,λ h=>absurd (by decide) h⟩
 have M:(zU (Y1 "-") (if decide (n < 0)=true then 1 else 0)).length<=1:=by
  by_cases a:n < 0
  ·rw [if_pos (decide_eq_true a)];decide
  ·rw [if_neg (by simpa using a)];decide
 refine ⟨_,rfl,_,_,rfl,rfl,_,rfl,?_⟩;refine ite2 (λ c=>?_) (λ c=>?_)
 ·have hm:0 < m:=by
   have:(0:Int) < (m:Int):=of_decide_eq_true c;omega
  obtain ⟨t,u,v⟩:=step (.inl hm);refine ⟨λ j l=>j=[some (.int n),some (.str (QN #[48+m % 10]++b)),some (.int ((m / 10:Nat):Int))]/\l=o,?_,?_⟩
  ·rintro _ _ ⟨rfl,rfl⟩
   exact ⟨m / 10,t,m / 10,_,rfl,rfl,.inr ⟨u,v,rfl⟩⟩
  ·refine ⟨_,rfl,_,_,rfl,rfl,(by show (0:Int) < 10;decide),_,_,48+m % 10,rfl,rfl,(by show (0:Int)<=(m:Int) % 10;omega),(by show (m:Int) % 10 < 2 ^ 63;omega),(by show (m:Int) % 10 < 10;omega),?_,?_⟩
   ·show (Y1 "0123456789").cps[((m:Int) % 10).toNat]?=_;rw [x,Qb];exact Xr g
   ·refine ⟨_,rfl,_,_,rfl,rfl,Cp (by show 1+b.length<=10000;omega),?_⟩
    refine ⟨_,rfl,_,_,rfl,rfl,⟨by decide,by decide⟩,?_⟩
    refine ⟨?_,rfl⟩;show [some (V.int n),some (V.str (QN #[48+m % 10]++b)),some (V.int ((m:Int) / 10))]=_;rw [y]
 ·have hm:¬ 0 < m:=λ F=>c (decide_eq_true (by omega))
  refine ⟨_,rfl,rfl,_,rfl,?_⟩;refine ite2 (λ c=>?_) (λ c=>?_)
  ·rw [Bq] at c;have hm:=nW (of_decide_eq_true c);obtain ⟨t,u,v⟩:=step (.inr hm);refine ⟨λ j l=>j=[some (.int n),some (.str (QN #[48+m % 10]++b)),some (.int ((m / 10:Nat):Int))]/\l=o,?_,?_⟩
   ·rintro _ _ ⟨rfl,rfl⟩
    exact ⟨m / 10,t,m / 10,_,rfl,rfl,.inr ⟨u,v,rfl⟩⟩
   ·refine ⟨_,rfl,_,_,rfl,rfl,(by show (0:Int) < 10;decide),_,_,48+m % 10,rfl,rfl,(by show (0:Int)<=(m:Int) % 10;omega),(by show (m:Int) % 10 < 2 ^ 63;omega),(by show (m:Int) % 10 < 10;omega),?_,?_⟩
    ·show (Y1 "0123456789").cps[((m:Int) % 10).toNat]?=_;rw [x,Qb];exact Xr g
    ·refine ⟨_,rfl,_,_,rfl,rfl,Cp (by show 1+b.length<=10000;omega),?_⟩
     refine ⟨_,rfl,_,_,rfl,rfl,⟨by decide,by decide⟩,?_⟩
     refine ⟨?_,rfl⟩;show [some (V.int n),some (V.str (QN #[48+m % 10]++b)),some (V.int ((m:Int) / 10))]=_;rw [y]
  ·have C:¬ cl b=[]:=λ e=>c (by rw [Bq];exact decide_eq_true (ext (e.trans (show []=cl (Y1 "") from rfl))))
   have D:¬ (0 < m\/cl b=[]):=λ h=>h.elim hm C
   exact ⟨_,rfl,_,_,rfl,rfl,.inr ⟨_,rfl,_,_,rfl,rfl,B,_,rfl,_,_,rfl,rfl,Cp (by omega),q _ (r D)⟩⟩
theorem ik (T:Txt K mg ad):CalB P w K mg base true 2 "_law_shown" ["_law_part_here"] (X4 K):=by
 refine T.Oa.calN ir (λ _ _ _ _ _ _=>Bk λ _=>rfl) (λ vs H Q E h=>?_) (λ f cdv A outer s H vs Q E g h=>?_)
 ·obtain ⟨_,_,rfl,_⟩:=h;rfl
 obtain ⟨v,p,rfl,hv,sp,q⟩:=h;obtain ⟨a,t,u,rfl,h,e1,e2⟩:=DV.t2 (show DV K H v (.tuple [.int p.num,.int (p.den:Int)]) from hv)
 obtain rfl:=DV.int_of e1;obtain rfl:=DV.int_of e2;refine ⟨_,(Ae (Az (BL Bj (Ai BW (pv 0) Ab) Ab) (Ah (Av (Ao (lE T) g.m Aw (BR (Ai BW (pv 0) Ab) Aa)))) BJ) (Ah (Av (Ak Dk (Ak Dk (Ao (lE T) g.m Aw (BR (Ai BW (pv 0) Ab) Aa)) Af) (Ao (lE T) g.m Aw (BR (Ai BW (pv 0) Ab) Aa)))))),?_⟩
 refine ⟨_,rfl,a,_,_,_,rfl,rfl,h,rfl,rfl,_,rfl,?_⟩;have y:=(Dw (m:=p.num.natAbs) (k:=575) (by decide)).mpr (W1 sp.1 G6)
 have z:=(Dw (m:=p.den) (k:=575) (by decide)).mpr (W1 sp.2 G6)
 have e1:∀x:Y2,cl x=sh p->x=Am p:=λ x l=>ext (l.trans (Do p).symm)
 refine ite2 (λ c1=>?_) (λ c1=>?_)
 ·have i:p.den=1:=by
   have d:decide (V.int (p.den:Int)=V.int 1)=true:=c1;rw [Dj] at d;have:=of_decide_eq_true d;omega
  refine ⟨_,rfl,a,_,_,_,rfl,rfl,h,rfl,_,rfl,W1 sp.1 G6,λ d b=>?_⟩
  rw [e1 d (by rw [b];unfold sh;rw [if_pos i,UB])]
  exact q
 ·have i:¬ p.den=1:=by
   intro e
   apply c1
   show decide (V.int (p.den:Int)=V.int 1)=true;rw [Dj,e];rfl
  refine ⟨_,rfl,a,_,_,_,rfl,rfl,h,rfl,_,rfl,W1 sp.1 G6,λ d b=>?_⟩
  have n:=Ci d;rw [b,ZA] at n;have Gx:(if p.num < 0 then [45] else []:List Nat).length<=1:=by split<;>decide
  have zs:(Y1 "/").length=1:=rfl;refine ⟨_,_,rfl,rfl,Cp (by omega),?_⟩
  refine ⟨_,rfl,a,_,_,_,rfl,rfl,h,rfl,_,rfl,by rw [ze];exact W1 sp.2 G6,λ o j=>?_⟩
  rw [if_neg (by omega),xR,ze] at j
  have r:=Ci o;rw [j] at r;refine ⟨_,_,rfl,rfl,Cp (by rw [Ds];omega),?_⟩
  show Q (.str (d++Y1 "/"++o)) H;rw [e1 (d++Y1 "/"++o) (by
   rw [Bh,Bh,b,j];unfold sh;rw [if_neg i];show _++[47]++_=_;simp)]
  exact q
theorem jW (T:Txt K mg ad):CalB P w K mg base true 3 "_law_piece_text" ["_law_piece_here"] (Xv K):=by
 refine T.QT.calN oH (λ _ _ _ _ _ _=>Bk λ _=>rfl) (λ vs H Q E h=>?_) (λ f cdv A outer s H vs Q E a1 h=>?_)
 ·obtain ⟨_,_,rfl,_⟩:=h;rfl
 obtain ⟨v,p,rfl,hv,ps,q⟩:=h;refine ⟨_,(Ah (Av (Br Yf yq yr Lg Af (Bw (Ak DN (Bl (BR (Ai BW (pv 0) Ab) Aa)) (HB ["_law_part_here"] [none] rfl (Nu (Di Qp (pv 0) (Cy Ab) Ej)) (λ _ _ _ _ _=>(CG (i:=0) (show zh [("_law_part_here":Str)] by decide))) (λ _ _ _ _ _=>Em) (λ _ _ _ _ _=>(Ao (ik T) a1.m Aw (Ad (pv 0) Aa))) (Fj (by decide) (by decide)) (by decide) rfl (by decide) rfl (FZ rfl))) Aa)))),?_⟩
 obtain ⟨t,b,rfl,ht,y⟩:∃(t:Addr) (b:List V),v=.ref t/\SqT K H t (.str (wd p)::b)/\DVs K H b ((fracs p).map BK):=by
  cases p with
  | gap z=>
   obtain ⟨t,M,N,rfl,ht,j,k⟩:=DV.t2 (show DV K H v (.tuple [.str "gap",BK z]) from hv)
   obtain rfl:=DV.str_of j;exact ⟨t,_,rfl,ht,.cons k .nil⟩
  | glass z=>
   obtain ⟨t,M,N,rfl,ht,j,k⟩:=DV.t2 (show DV K H v (.tuple [.str "glass",BK z]) from hv)
   obtain rfl:=DV.str_of j;exact ⟨t,_,rfl,ht,.cons k .nil⟩
  | stop z h=>
   obtain ⟨t,M,N,b0,rfl,ht,j,k,a2⟩:=DV.t3 (show DV K H v (.tuple [.str "stop",BK z,BK h]) from hv)
   obtain rfl:=DV.str_of j;exact ⟨t,_,rfl,ht,.cons k (.cons a2 .nil)⟩
 have hl:b.length=(fracs p).length:=by have:=y.len;rw [Y6] at this;exact this
 have b1:1<=(fracs p).length/\(fracs p).length<=2:=by cases p<;>exact ⟨by simp [fracs],by simp [fracs]⟩
 refine ⟨rfl,_,rfl,t,_,_,_,rfl,rfl,ht,Dz,(by show 1<=X2;decide),λ n O=>?_⟩
 have D:=Al O (.lst [.str (wd p)]);have R:upd H n (.lst [.str (wd p)]) n=some (.lst [.str (wd p)]):=Aj;generalize upd H n (.lst [.str (wd p)])=S at D R ⊢;refine ⟨_,rfl,_,rfl,t,_,rfl,ht.keep D,(λ e=>by rw [NB] at e;simp only [U1] at e;omega),λ l U=>⟨l,rfl,⟨_,SqT.of Aj⟩,?_⟩⟩
 rw [Pq];have G:=Al U (.tup ((V.str (wd p)::b).drop 1));have W:upd S l (.tup ((V.str (wd p)::b).drop 1)) l=some (.tup b):=Aj;have B:=G _ _ R;have I:=D.trans G;generalize upd S l (.tup ((V.str (wd p)::b).drop 1))=a3 at G W B I ⊢;refine S7 (K:=K) (a:=l) (xs:=b) (λ i o r g=>∃c0,o=[c0]/\r=(((fracs p).take i).map Am).map V.str/\g=a3) ⟨_,rfl,rfl,rfl⟩ ?_ ?_ ?_
 ·rintro i o r g J ⟨c0,rfl,rfl,rfl⟩
  refine ⟨?_,SqT.of W⟩;rw [Y6,Y6,Uf];exact JA (small1000 (by omega))
 ·rintro i x o r g J ⟨c0,rfl,rfl,rfl⟩
  obtain ⟨d,hd,a4⟩:=y.get J;rw [YA] at hd;cases e:(fracs p)[i]? with
  | none=>rw [e] at hd;cases hd
  | some z=>
   rw [e] at hd;cases hd
   refine ⟨_,rfl,x,z,rfl,a4.keep I,ps.2 z (Xb e),nx (Cg J) ⟨_,rfl,?_,rfl⟩⟩;rw [JE,e,YP,YP];rfl
 ·rintro o r g u ⟨c0,rfl,rfl,rfl⟩ X
  rw [hl,QI];have L:=Al X (.lst (((fracs p).map Am).map V.str));have Y:upd g u (.lst (((fracs p).map Am).map V.str)) u=some (.lst (((fracs p).map Am).map V.str)):=Aj;have C:=L _ _ B;have Z:=I.trans L;generalize upd g u (.lst (((fracs p).map Am).map V.str))=b2 at L Y C Z ⊢;refine ⟨n,u,_,_,rfl,rfl,C,Y,JA (small1000 (by rw [Y6,Y6];simp only [U1,WA];omega)),λ a5 a0=>?_⟩
  have a6:([.str (wd p)]++((fracs p).map Am).map V.str:List V)=(toks p).map V.str:=rfl;have a7:JoinOk (Y1 " ") (toks p)=true:=by
   refine zj ?_ (by decide+kernel)
   have a8:∀t∈toks p,t.length<=1200:=Lib.Nh p ps;have a9:=GK p;have b3:((toks p).map (·.length)).sum<=(toks p).length * 1200:=Kz a8
   have b4:(toks p).length * 1200<=3 * 1200:=QE _ a9.1;omega
  exact ⟨_,a5,toks p,rfl,rfl,by rw [Aj,a6],a7,q _ (Z.trans (Al a0 _))⟩
theorem Yq (T:Txt K mg ad):CalB P w K mg base true 4 "_law_text" ["_law_bench"] (YT K):=by
 refine T.Q5.calN uN (λ _ _ _ _ _ _=>Bk λ _=>rfl) (λ vs H Q E h=>?_) (λ f cdv A outer s H vs Q E B h=>?_)
 ·obtain ⟨_,_,rfl,_⟩:=h;rfl
 obtain ⟨v,ps,rfl,hv,u,sh,q⟩:=h;refine ⟨_,(Ah (Av (Br Yf yq yr Lg Af (Dc (HB ["_law_piece_here"] [none] rfl (Dv (pv 0)) (λ _ _ _ _ _=>(CG (i:=0) (show zh [("_law_piece_here":Str)] by decide))) (λ _ _ _ _ _=>Em) (λ _ _ _ _ _=>(Ao (jW T) B.m Aw (Ad (pv 0) Aa))) (Fj (by decide) (by decide)) (by decide) rfl (by decide) rfl (FZ rfl)) Aa)))),?_⟩
 have y:=Same.refl H;obtain ⟨b,xs,rfl,hb,l⟩:=hv.lst_of;have hl:xs.length=ps.length:=by have:=l.len;rw [Y6] at this;exact this
 refine ⟨rfl,_,rfl,b,rfl,⟨_,hb.keep y⟩,?_⟩;refine HH (K:=K) (a:=b) (xs:=xs) (λ i g j k=>∃c0,g=[c0]/\j=((ps.take i).map DQ).map V.str/\Same H k) ⟨_,rfl,rfl,y⟩ ?_ ?_ ?_
 ·rintro i g j k o ⟨c0,rfl,rfl,e⟩
  refine ⟨?_,hb.keep e⟩;rw [Y6,Y6,Uf];exact JA (small1000 (by omega))
 ·rintro i x g j k o ⟨c0,rfl,rfl,e⟩
  obtain ⟨d,hd,C⟩:=l.get o;obtain ⟨z,n,rfl⟩:=Im hd;refine ⟨_,rfl,x,z,rfl,C.keep e,sh z (Xb n),λ L D=>nx (Cg o) ⟨_,rfl,?_,e.trans D⟩⟩
  rw [JE,n,YP,YP];rfl
 ·rintro g j k p ⟨c0,rfl,rfl,e⟩ r
  rw [hl,QI];have G:JoinOk (Y1 "; ") (ps.map DQ)=true:=by
   refine zj ?_ (by decide+kernel)
   have I:∀t∈ps.map DQ,t.length<=4000:=λ t ht=>by
    obtain ⟨p,r,rfl⟩:=Jb.mp ht;exact X3 (sh p r)
   have J:=Kz I;rw [Y6] at J ⊢;have M:ps.length * 4000<=60 * 4000:=QE _ u;omega
  exact ⟨_,p,ps.map DQ,rfl,rfl,Aj,G,q _ (e.trans (Al r _))⟩
theorem Vu (T:Txt K mg ad):CalB P w K mg base true 1 "is_name" ["thing"] (uo K):=by
 refine T.Ou.calN dZ (λ _ _ _ _ _ _=>Bk λ _=>rfl) (λ vs H Q E h=>?_) (λ f cdv A outer s H vs Q E l h=>?_)
 ·obtain ⟨_,_,rfl,_⟩:=h;rfl
 obtain ⟨v,d,rfl,hv,ok,q⟩:=h;refine ⟨_,(Ae (Az (PW.pt (pw_or (Bt (Bf (BV Dh rfl T.isinstance CQ (Ad (pv 0) (Ad (Df (v:=.ty "str") rfl T.str Es rfl) Aa))))) (pw_or1 (Bt (Qx Gr Gr Ab (BV Q0 rfl T.len CK (Ad (pv 0) Aa)) (Bm (v:=.int 8) rfl T.ex.m_MOST_LETTERS ⟨_,rfl⟩)))))) (Ah (Av Dd)) BJ) (Ah (Av (BV (Ks rfl) rfl T.all Kc (Dc (R3 rfl (pv 0) T.ex.m_LETTERS (by decide) (by decide) rfl (by decide) rfl rfl rfl rfl) Aa))))),?_⟩
 refine ⟨_,rfl,_,_,_,_,rfl,hv,Eh d,_,rfl,?_⟩;cases ht:Io d with
 | false=>
  have a:=q _ (Same.refl _);rw [jm ht] at a;exact iteT (iteT a)
 | true=>
  obtain ⟨b,rfl⟩:=bj ht;obtain rfl:=DV.str_of hv;have g:=ok b rfl;refine iteF ⟨_,rfl,b,rfl,g,_,_,rfl,rfl,_,rfl,?_⟩;by_cases i:1<=b.length
  ·refine Bu (decide_eq_true (by omega)) ⟨_,_,rfl,rfl,_,rfl,?_⟩
   by_cases j:b.length<=8
   ·refine BX (by rw [decide_eq_true (by omega)];rfl) ?_
    refine ⟨_,rfl,b,rfl,g,λ p k=>?_⟩
    refine ⟨p,(zf b).map Gp,rfl,SqL.of (by rw [xr];exact Aj),?_⟩
    have a:=q _ (Al k (.lst ((zf b).map λ x=>V.bl (Gp x))))
    have e:FN (.str b)=((zf b).map Gp).all id:=by
     show ((decide (1<=b.length) && decide (b.length<=8)) && _)=_;rw [decide_eq_true i,decide_eq_true j,FG];rfl
    rw [<- e];exact a
   ·have a:=q _ (Same.refl _);have e:FN (.str b)=false:=by
     show ((decide (1<=b.length) && decide (b.length<=8)) && _)=_;rw [decide_eq_false j,Gc,zW]
    rw [e] at a;exact Bu (by rw [decide_eq_false (by omega)];rfl) a
  ·have a:=q _ (Same.refl _);have e:FN (.str b)=false:=by
    show ((decide (1<=b.length) && decide (b.length<=8)) && _)=_;rw [decide_eq_false i,zW,zW]
   rw [e] at a;exact BX (decide_eq_false (by omega)) ⟨_,rfl,iteT a⟩
theorem UT (T:Txt K mg ad):CalB P w K mg base true 2 "look_at_name" ["word"] jV:=by
 refine T.Gj.calN Yb (λ _ _ _ _ _ _=>Bk λ _=>rfl) (λ vs H Q E h=>?_) (λ f cdv A outer s H vs Q E a h=>?_)
 ·obtain ⟨_,rfl,_⟩:=h;rfl
 obtain ⟨x,rfl,nx,k⟩:=h;refine ⟨_,(Ah (Az (Bt (Bf (Ao (Vu T) a.m Aw (Ad (pv 0) Aa)))) (Ah Cw) BJ)),?_⟩
 refine ⟨_,rfl,_,_,rfl,.str x,(λ g e=>by cases e;exact U2 nx.len (by decide)),λ d b=>?_⟩
 refine ⟨_,rfl,?_⟩;refine BX (by rw [show FN (.str x)=true from nx];rfl) ?_
 exact k _ b
theorem eZ (T:Txt K mg ad):CalB P w K mg base true 4 "read_number_desk" ["word"] (Qo K):=by
 refine T.Gs.calN Zh (λ _ _ _ _ _ _=>Bk λ _=>rfl) (λ vs H Q E h=>?_) (λ f cdv A outer s H vs Q E a h=>?_)
 ·obtain ⟨_,rfl,_⟩:=h;rfl
 obtain ⟨q,rfl,b,k⟩:=h;refine ⟨_,(Ah (Wz (aO T) a.m (Ad (pv 0) Aa))),?_⟩
 exact ⟨_,rfl,q,rfl,b,k⟩
abbrev Ij (ad:Adr):List (Y2×V):=[("join",V.ref ad.ROWS_join),("turn",V.ref ad.ROWS_turn),("show",V.ref ad.ROWS_show),("walk",V.ref ad.ROWS_walk),("table",V.ref ad.ROWS_table),("apart",V.ref ad.ROWS_apart),("image",V.ref ad.ROWS_image),("field",V.ref ad.ROWS_field),("sharp",V.ref ad.ROWS_sharp),("rounds",V.ref ad.ROWS_rounds)]
abbrev oY (ad:Adr):List (Y2×V):=[("show",V.ref ad.ANSWERS_show),("walk",V.ref ad.ANSWERS_walk),("table",V.ref ad.ANSWERS_table),("apart",V.ref ad.ANSWERS_apart),("image",V.ref ad.ANSWERS_image),("field",V.ref ad.ANSWERS_field),("sharp",V.ref ad.ANSWERS_sharp),("rounds",V.ref ad.ANSWERS_rounds)]
def YZ (K:FrG)(ad:Adr)(u:Y2)(m:Nat):Prop:=∃a,valV (CN (Ij ad)) (.inr u)=some (.ref a)/\∀H,SqT K H a [.int 1,.int (m:Int)]
theorem PP (T:Txt K mg ad)(b8:w.params=ad.pr){u0:Y2}{m:Nat}(b9:YZ K ad u0 m)(d0:m<=5):CalB P w K mg base true 8 "read_row" ["words"] (λ vs H Q E=>∃(l:Addr) (x:Y2) (qs:List Rat),vs=[.ref l]/\H l=some (.lst ((u0::x::qs.map Am).map V.str))/\Nm x/\(∀q∈qs,Short q)/\qs.length=m/\(u0=Y1 "sharp"->∃q,qs[4]?=some q/\0<=q)/\
  ∀r g y b,Same H b->b r=some (.tup [.ref g,.ref y])->b g=some (.lst [.str x])->DV K b (.ref y) (.list (qs.map BK))->Q (.ref r) b):=by
 refine T.LK.calN El (λ _ _ _ _ _ _=>Bk λ _=>rfl) (λ vs H Q E h=>?_) (λ f cdv A outer s H vs Q E a0 h=>?_)
 ·obtain ⟨_,_,_,rfl,_⟩:=h;rfl
 obtain ⟨l,x,qs,rfl,hl,a6,a7,d1,a8,k⟩:=h;obtain ⟨F,c1,C⟩:=b9;refine ⟨_,(Ae (Aq (i:=1) El.nd (Z7 (Bm (v:=.ref ad.ROWS) rfl T.ex.m_ROWS rfl) (Ai Ay (pv 0) Ab) ⟨rfl,rfl,rfl,rfl⟩)) (Ae (Az (PW.pt (pw_or (BL QX (pv 1) Hh) (pw_or1 (BL DK (BV CV rfl T.len CK (Ad (pv 0) Aa)) (Ak Ca (Ak Ca Ab (Ai BW (pv 1) Ab)) (Ai BW (pv 1) Ab)))))) (Ah Cw) BJ) (Ae (Aq (i:=2) El.nd (Di Gv (pv 0) (Cy Ab) (Cy (Ak Ca Ab (Ai BW (pv 1) Ab))))) (Ae (Ef UI rfl (Dv (pv 2)) (CG (i:=3) El.nd) (Ah (DP (Ao (UT T) a0.m Aw (Ad (pv 3) Aa))))) (Ae (Wa (i:=4) El.nd rfl (by walk_at "o") ["word"] [none] rfl (Dv (Di Gv (pv 0) (Cy (Ak Ca Ab (Ai BW (pv 1) Ab))) Ej)) (λ _ _ _ _ _=>(CG (i:=0) (show zh [("word":Str)] by decide))) (λ _ _ _ _ _=>Em) (λ _ _ _ _ _=>(Ao (eZ T) a0.m Aw (Ad (pv 0) Aa))) (Fj (by decide) (by decide)) (by decide) rfl (by decide) rfl (FZ rfl)) (Ae (Az (PW.pt (pw_and (BL Bj (Ai Ay (pv 0) Ab) Af) (pw_and1 (Bf (Ao (Nv T) a0.m Aw (BR (Ai Ay (pv 4) Ab) (Ad (Bm (v:=.ref ad.NOUGHT) rfl T.ex.m_NOUGHT rfl) Aa))))))) (Ah Cw) BJ) (Ah (Av (De (Ad (pv 2) (Ad (pv 4) Aa))))))))))),?_⟩
 refine ⟨ad.ROWS,_,rfl,T.ex.g_ROWS _ _ b8,_,rfl,l,_,_,.str u0,rfl,rfl,SqL.of hl,Bb (j:=0) rfl,.inr u0,rfl,?_⟩;rw [c1];refine ⟨_,rfl,rfl,_,rfl,BX (by rfl) ?_⟩
 have a1:((u0::x::qs.map Am).map V.str).length=2+m:=by simp only [Y6,U1];omega
 refine ⟨_,rfl,l,_,rfl,.inl (SqL.of hl),_,rfl,F,_,_,.int 1,rfl,rfl,C H,rfl,_,_,rfl,rfl,_,rfl,F,_,_,.int (m:Int),rfl,rfl,C H,rfl,_,_,rfl,rfl,?_⟩;refine ⟨rfl,_,rfl,BX (by rw [Dj,decide_eq_true (show (((u0::x::qs.map Am).map V.str).length:Int)=1+1+(m:Int) by rw [a1];omega)];rfl) ?_⟩
 refine ⟨_,rfl,_,rfl,_,rfl,F,_,_,.int 1,rfl,rfl,C H,rfl,_,_,rfl,rfl,_,rfl,l,_,rfl,SqL.of hl,λ g a9=>?_⟩
 have c2:cutV ((u0::x::qs.map Am).map V.str) (some 1) (some (1+1))=[.str x]:=by
  unfold cutV;rw [show HT.sIx ((u0::x::qs.map Am).map V.str).length 0 (some 1)=min 1 ((u0::x::qs.map Am).map V.str).length from HT.Er _ _ 1,show HT.sIx ((u0::x::qs.map Am).map V.str).length ((u0::x::qs.map Am).map V.str).length (some (1+1))=min 2 ((u0::x::qs.map Am).map V.str).length from HT.Er _ _ 2,a1,yg (by omega),yg (by omega)]
  rfl
 have c3:cutV ((u0::x::qs.map Am).map V.str) (some (1+1)) none=(qs.map Am).map V.str:=by
  unfold cutV;rw [show HT.sIx ((u0::x::qs.map Am).map V.str).length 0 (some (1+1))=min 2 ((u0::x::qs.map Am).map V.str).length from HT.Er _ _ 2,HT.M9,a1,yg (by omega)]
  show ((qs.map Am).map V.str).take _=_;exact JU (by rw [Y6,Y6];omega)
 rw [c2];have a2:=Al a9 (.lst [.str x]);have t:upd H g (.lst [.str x]) g=some (.lst [.str x]):=Aj;generalize upd H g (.lst [.str x])=c4 at a2 t ⊢;refine ⟨_,rfl,g,rfl,⟨_,SqL.of t⟩,?_⟩;refine HQ (K:=K) (a:=g) (xs:=[.str x]) (λ i u b=>∃G,u=[some (.ref l),some (.ref F),some (.ref g),G,none]/\Same c4 b) ⟨_,rfl,Same.refl _⟩ ?_ ?_ ?_
 ·rintro i u b n ⟨G,rfl,B⟩
  exact SqL.of (B _ _ t)
 ·rintro i I u b n ⟨G,rfl,B⟩
  obtain rfl:I=.str x:=by
   have:=Xb n;exact Zu.mp this
  exact ⟨_,rfl,x,rfl,a6,λ b0 c5=>⟨_,rfl,B.trans c5⟩⟩
 ·rintro u b ⟨G,rfl,B⟩
  have X:b l=some (.lst ((u0::x::qs.map Am).map V.str)):=B _ _ (a2 _ _ hl);refine ⟨_,rfl,_,rfl,F,_,_,.int 1,rfl,rfl,C b,rfl,_,_,rfl,rfl,_,rfl,l,_,rfl,SqL.of X,λ y a3=>?_⟩
  rw [c3];have b1:=Al a3 (.lst ((qs.map Am).map V.str));have J:upd b y (.lst ((qs.map Am).map V.str)) y=some (.lst ((qs.map Am).map V.str)):=Aj;generalize upd b y (.lst ((qs.map Am).map V.str))=b0 at b1 J ⊢;refine ⟨y,rfl,⟨_,SqL.of J⟩,?_⟩;refine HH (K:=K) (a:=y) (xs:=(qs.map Am).map V.str) (λ i u o z=>∃c0,u=[c0]/\Same b0 z/\DVs K z o ((qs.take i).map BK)) ⟨_,rfl,Same.refl _,.nil⟩ ?_ ?_ ?_
  ·rintro i u o z n ⟨c0,rfl,L,dv⟩
   have:=dv.len;rw [Y6,Uf] at this;rw [Y6,Y6] at n;exact ⟨JA (small1000 (by omega)),SqL.of (L _ _ J)⟩
  ·rintro i I u o z n ⟨c0,rfl,L,dv⟩
   have b2:=Cg n;rw [YA,YA] at n;cases e:qs[i]? with
   | none=>rw [e] at n;cases n
   | some q=>
    rw [e] at n;cases n
    refine ⟨_,rfl,q,rfl,a7 q (Xb e),λ v M b3 hv=>nx b2 ⟨_,rfl,L.trans b3,?_⟩⟩
    rw [JE,e,YP];exact DVs.append (dv.keep b3) (.cons hv .nil)
  ·rintro u o z p ⟨c0,rfl,L,dv⟩ c6
   rw [Y6,Y6,QI] at dv;have U:=Al c6 (.lst o);have dl:DV K (upd z p (.lst o)) (.ref p) (.list (qs.map BK)):=.lst (SqL.of Aj) (dv.keep U);have b4:(upd z p (.lst o)) p=some (.lst o):=Aj;have N:=dv.keep U;have D:=b1.trans (L.trans U);generalize upd z p (.lst o)=M at U dl b4 N D ⊢;have Y:∀O,Same M O->tTup (tCons (tVar 2) (tCons (tVar 4) tNil)) [some (.ref l),some (.ref F),some (.ref g),G,some (.ref p)] O (λ v c7=>Q v c7):=λ O R=>by
    refine ⟨_,rfl,_,rfl,(by show 2<=X2;decide),λ r b5=>?_⟩
    have a4:=Al b5 (.tup [.ref g,.ref p]);exact k r g p _ (((a2.trans B).trans D).trans (R.trans a4)) Aj (a4 _ _ (R _ _ (D _ _ (B _ _ t)))) (dl.keep (R.trans a4))
   refine ⟨_,rfl,l,_,_,.str u0,rfl,rfl,SqL.of (D _ _ X),Bb (j:=0) rfl,rfl,_,rfl,?_⟩;rw [Bq];by_cases a5:u0=Y1 "sharp"
   ·obtain ⟨q,b6,c8⟩:=a8 a5;refine Bu (decide_eq_true a5) ?_;have Z:(qs.map BK)[4]?=some (BK q):=by rw [YA,b6];rfl
    obtain ⟨I,W,S⟩:∃I,o[4]?=some I/\DV K M I (BK q):=by
     have c9:=N.len;have d2:=Cg Z;obtain ⟨I,W⟩:∃I,o[4]?=some I:=⟨_,XU (by omega)⟩
     obtain ⟨d,hd,S⟩:=N.get W;rw [Z] at hd;cases hd
     exact ⟨I,W,S⟩
    refine ⟨_,rfl,p,_,_,I,rfl,rfl,SqL.of b4,Bb (j:=4) W,_,_,.cons S (.cons (dN T M) .nil),⟨q,0,rfl,(Gi (a7 q (Xb b6))).sm (by decide),Sm.zero,rfl⟩,λ d3 O R b7=>?_⟩
    obtain rfl:=b7.bl_of;rw [decide_eq_false (Rat.not_lt.mpr c8)];exact ⟨_,rfl,iteF (Y O R)⟩
   ·exact BX (decide_eq_false a5) (iteF (Y M (Same.refl _)))
theorem vP (T:Txt K mg ad):MkC P w K mg base 1 "Desk" ad.Desk ["self"] (iR ad.Desk):=by
 refine T.ex.i_Desk.mkc fW (λ _ _ _ _ _ _=>Bk λ _=>rfl) (λ vs H Q E h=>?_) (λ f cdv A outer s H vs Q E b h=>?_)
 ·obtain ⟨_,_,rfl,_⟩:=h;rfl
 obtain ⟨a,dx,rfl,ha,q⟩:=h;refine ⟨_,(Ah (SJ (pv 0) mD)),?_⟩;exact λ d hd=>⟨_,rfl,a,ad.Desk,dx,[],rfl,by rw [Ax (BZ ha hd)];exact ha,T.ex.l_Desk,T.ex.n_Desk_benches,by decide,q d hd⟩
theorem pY (T:Txt K mg ad):MC P w K mg base 1 ad.Desk "bench_by" ["self","name"] (qO K ad.Desk):=by
 refine T.ex.q_Desk_bench_by.mc Ue (λ _ _ _ _ _ _=>CJ λ _ _=>rfl) (λ vs H Q E h=>?_) (λ f cdv A outer s H vs Q E b h=>?_)
 ·obtain ⟨_,_,_,_,_,_,_,_,rfl,_⟩:=h;rfl
 obtain ⟨o,dx,d,q,x,r,n,ps,rfl,a,sx,k⟩:=h;refine ⟨_,(Ae (Az (Vx (ZQ b.units1 (pv 1) (Ek (pv 0)))) (Ah Cw) BJ) (Ah (Av (YX b.units1 (Ek (pv 0)) (pv 1) (λ _ _=>rfl))))),?_⟩
 obtain ⟨m,e,hl,g⟩:=a.d;obtain ⟨ok,l,i,hb,j⟩:=g.at sx;have p:DGet H d (.str x) (some (.ref l)):=i▸DGet.k (k:=.inr x) e;refine ⟨_,rfl,_,rfl,o,_,dx,_,_,rfl,a.o,T.ex.l_Desk,T.ex.n_Desk_benches,rfl,d,_,rfl,p,_,rfl,BX rfl ?_⟩;exact ⟨_,rfl,o,_,dx,_,_,rfl,a.o,T.ex.l_Desk,T.ex.n_Desk_benches,rfl,_,rfl,d,_,rfl,p,k l hb j⟩
theorem dI (T:Txt K mg ad):MC P w K mg base 6 ad.Desk "keep" ["self","name","bench"] (j8 K ad.Desk):=by
 refine T.ex.q_Desk_keep.mc cP (λ _ _ _ _ _ _=>I9 λ _ _ _=>rfl) (λ vs H Q E h=>?_) (λ f cdv A outer s H vs Q E e h=>?_)
 ·obtain ⟨_,_,_,_,_,_,_,_,_,rfl,_⟩:=h;rfl
 obtain ⟨o,dx,d,q,l,x,y,n,ps,rfl,i,j,hb,p,ok,k⟩:=h;refine ⟨_,(Ae (DP (Ao (aW T) e.m Aw (Ad (pv 2) Aa))) (Ae (cY e.units1 (Ek (pv 0)) (pv 1) (pv 2) rfl) (Ah (Av (Bm (v:=.str "ok") rfl T.ex.m_DONE ⟨⟨_,T.ex.z_DONE⟩,rfl⟩))))),?_⟩
 refine ⟨_,rfl,.ref l,ps,18,rfl,hb.dv,ok.good,by decide,λ t b=>?_⟩
 have a:=i.keep b;obtain ⟨r,g,hl,u⟩:=a.d;refine ⟨_,rfl,_,rfl,o,_,dx,_,_,rfl,a.o,T.ex.l_Desk,T.ex.n_Desk_benches,rfl,_,rfl,d,_,rfl,DPut.k (k:=.inr x) g (yU (U2 hl j) (by decide)),?_⟩
 exact k _ ((Lib.SD.ofSame b).trans (GX _)) (a.put g (hb.keep b) p ok)
theorem ue (T:Txt K mg ad):MC P w K mg base 10 ad.Desk "lay" ["self","row"] (ZS K ad.Desk):=by
 refine T.ex.q_Desk_lay.mc JS (λ _ _ _ _ _ _=>CJ λ _ _=>rfl) (λ vs H Q E h=>?_) (λ f cdv A outer s H vs Q E t h=>?_)
 ·obtain ⟨_,_,_,_,_,_,_,_,rfl,_⟩:=h;rfl
 obtain ⟨o,dx,d,q,x,O,n,ps,rfl,C,D,G,nx,ok,k⟩:=h;have R:=Jz (U2 ok.1 (by decide)) ok.sh
 refine ⟨_,(Ae (Aq (i:=2) JS.nd (Br Yf XO Wp aD (pv 1) (Ag Af (Ag Ab Aa)))) (Ae (Az (BL DK (BV CV rfl T.len CK (Ad (pv 2) Aa)) Ab) (Ah Cw) BJ) (Ae (DP (Ao (UT T) t.m Aw (BR (Ai Ay (pv 2) Ab) Aa))) (Ah (Av (Cr (k:=6) (pv 0) t.m (BR (Ai Ay (pv 2) Ab) (Bg (Ao (Ud T) t.m Aw (BR (Ai Ay (pv 2) Ab) Aa)) Aa)))))))),?_⟩
 refine ⟨_,rfl,rfl,_,Y1 "bench",x,Cv ps,rfl,rfl,R4 _ _,by decide+kernel,nx.no,(by rw [Xc nx];have:=nx.len;exact U2 (show _<=20000 by omega) (by decide)),λ a u=>?_⟩
 have b:=Al u (.lst [.str (Y1 "bench"),.str x,.str (Cv ps)]);have g:upd H a (.lst [.str (Y1 "bench"),.str x,.str (Cv ps)]) a=some (.lst [.str (Y1 "bench"),.str x,.str (Cv ps)]):=Aj;generalize upd H a (.lst [.str (Y1 "bench"),.str x,.str (Cv ps)])=S at b g ⊢;refine ⟨_,rfl,a,_,rfl,.inl (SqL.of g),rfl,_,rfl,BX rfl ?_⟩;refine ⟨_,rfl,a,_,_,.str x,rfl,rfl,SqL.of g,Bb (j:=1) rfl,x,rfl,nx,λ U p=>?_⟩
 have r:=C.keep (b.trans p);have v:=p _ _ g;refine ⟨_,rfl,o,_,dx,_,_,_,rfl,r.o,rfl,dI T,_,rfl,a,_,_,.str x,rfl,rfl,SqL.of v,Bb (j:=1) rfl,_,rfl,a,_,_,.str (Cv ps),rfl,rfl,SqL.of v,Bb (j:=2) rfl,ps,rfl,U2 ok.1 (by decide),ok.sh,λ l xs V y I hl z=>?_⟩
 have J:l∉q:=λ e=>by
  obtain ⟨W,L⟩:=D l e;have:=p _ _ (b _ _ L);rw [I] at this;cases this
 exact ⟨o,dx,d,q,l,x,O,n,ps,rfl,r.keep y,G,.of hl z,J,ok,λ M N B=>k M ((Lib.SD.ofSame ((b.trans p).trans y)).trans N) B⟩
theorem Mu (T:Txt K mg ad):CalB P w K mg base true 5 "turned_bench" ["bench"] (λ _ _ _ _=>False):=T.Pb.calN gh (λ _ _ _ _ _ _=>Bk λ _=>rfl) (λ vs H Q E h=>h.elim) (λ f cdv A outer s H vs Q E a h=>h.elim)
theorem mj (T:Txt K mg ad)(z:w.params=ad.pr):MC P w K mg base 16 ad.Desk "say" ["self","row"] (ZS K ad.Desk):=by
 have B:=PP (P:=P) (w:=w) (base:=base) T z (u0:="show") ⟨_,by unfold valV CN;rfl,λ H=>T.ex.s_ROWS_show H⟩ (by decide)
 refine T.ex.q_Desk_say.mc DY (λ _ _ _ _ _ _=>CJ λ _ _=>rfl) (λ vs H Q E h=>?_) (λ f cdv A outer s H vs Q E b h=>?_)
 ·obtain ⟨_,_,_,_,_,_,_,_,rfl,_⟩:=h;rfl
 obtain ⟨o,dx,d,q,x,N,n,ps,rfl,C,D,G,nx,ok,k⟩:=h;have O:=Jz (U2 ok.1 (by decide)) ok.sh
 refine ⟨_,(Ae (Az (Bt (Bf (BV Dh rfl T.isinstance CQ (Ad (pv 1) (Ad (Df (v:=.ty "str") rfl T.str Es rfl) Aa))))) (Ah Cw) BJ) (Ae (Aq (i:=2) DY.nd (Br Yf XO Wp Ey (pv 1) (Ag Af Aa))) (Ae (Az (BL Bj (Ai Ay (pv 2) Ab) Af) (Ah (Av (Cr (k:=10) (pv 0) b.m (Ad (pv 1) Aa)))) BJ) (Ae (Aq (i:=3) DY.nd (Ao B b.m Aw (Ad (pv 2) Aa))) (Ae (Aq (i:=4) DY.nd (Ai BW (pv 3) Ab)) (Ae (Az (BL Bj (Ai Ay (pv 2) Ab) Af) (Ah (Av (Cr (k:=6) (pv 0) b.m (BR (Ai Ay (pv 4) Ab) (Bw (Ak DN (Cr (k:=1) (pv 0) b.m (BR (Ai Ay (pv 4) Ab) Aa)) (Cr (k:=1) (pv 0) b.m (BR (Ai Ay (pv 4) Ab) Aa))) Aa))))) BJ) (Ae (Az (BL Bj (Ai Ay (pv 2) Ab) Af) (Ah (Av (Cr (k:=6) (pv 0) b.m (BR (Ai Ay (pv 4) Ab) (Bg (Ao (Mu T) b.m Aw (Bg (Cr (k:=1) (pv 0) b.m (BR (Ai Ay (pv 4) Ab) Aa)) Aa)) Aa))))) BJ) (Ah (Av (Jt Aw (Ji (Bm (v:=.ref ad.ANSWERS) rfl T.ex.m_ANSWERS rfl) (Ai Ay (pv 2) Ab) (λ _ _=>rfl)) (Bg (Cr (k:=1) (pv 0) b.m (BR (Ai Ay (pv 4) Ab) Aa)) (BR (Ai BW (pv 3) Ab) Aa)))))))))))),?_⟩
 refine ⟨_,rfl,_,_,_,_,rfl,.str _,Eh _,_,rfl,iteF ?_⟩;refine ⟨_,rfl,rfl,_,_,rfl,rfl,rfl,(by rw [Xc nx];have:=nx.len;exact U2 (show _<=20000 by omega) (by decide)),λ e p=>?_⟩
 obtain ⟨r,I⟩:=sE (t:=Cv ps) nx;rw [I];have g:=Al p (.lst ((Y1 "bench"::r).map V.str));have u:upd H e (.lst ((Y1 "bench"::r).map V.str)) e=some (.lst ((Y1 "bench"::r).map V.str)):=Aj;generalize upd H e (.lst ((Y1 "bench"::r).map V.str))=R at g u ⊢;refine ⟨_,rfl,e,_,_,.str (Y1 "bench"),rfl,rfl,SqL.of u,Bb (j:=0) rfl,rfl,_,rfl,Bu (by rw [Bq];exact decide_eq_true rfl) ?_⟩
 have l:=C.keep g;exact ⟨_,rfl,o,_,dx,_,_,_,rfl,l.o,rfl,ue T,_,rfl,o,dx,d,q,x,N,n,ps,rfl,l,(λ a ha=>(D a ha).imp λ S J=>g _ _ J),G,nx,ok,λ L M y=>k L ((Lib.SD.ofSame g).trans M) y⟩
theorem vC (T:Txt K mg ad)(z:w.params=ad.pr){u0 nm:Y2}{m:Nat}{p:Addr}{b3:List Pc->List Rat->Y2->Prop}(Z:YZ K ad u0 m)(a0:m<=5)(a1:32∉cl u0)(a2:u0.length<=8)(a3:u0≠Y1 "bench")(a4:u0≠Y1 "join")(a5:u0≠Y1 "turn")
  (hv:valV (CN (oY ad)) (.inr u0)=some (.ref p)) (B:mg nm=some (.ref p)) (C:CalB P w K mg base true 12 nm ["bench","numbers"] (bD K b3)):MC P w K mg base 16 ad.Desk "say" ["self","row"] (Wc K ad.Desk u0 m b3):=by
 have a6:=PP (P:=P) (w:=w) (base:=base) T z Z a0;refine T.ex.q_Desk_say.mc DY (λ _ _ _ _ _ _=>CJ λ _ _=>rfl) (λ vs H Q E h=>?_) (λ f cdv A outer s H vs Q E a h=>?_)
 ·obtain ⟨_,_,_,_,_,_,_,_,_,_,rfl,_⟩:=h;rfl
 obtain ⟨o,dx,d,q,x,b5,n,ps,qs,t,rfl,a7,nx,sx,a8,D,G,I,k⟩:=h;refine ⟨_,(Ae (Az (Bt (Bf (BV Dh rfl T.isinstance CQ (Ad (pv 1) (Ad (Df (v:=.ty "str") rfl T.str Es rfl) Aa))))) (Ah Cw) BJ) (Ae (Aq (i:=2) DY.nd (Br Yf XO Wp Ey (pv 1) (Ag Af Aa))) (Ae (Az (BL Bj (Ai Ay (pv 2) Ab) Af) (Ah (Av (Cr (k:=10) (pv 0) a.m (Ad (pv 1) Aa)))) BJ) (Ae (Aq (i:=3) DY.nd (Ao a6 a.m Aw (Ad (pv 2) Aa))) (Ae (Aq (i:=4) DY.nd (Ai BW (pv 3) Ab)) (Ae (Az (BL Bj (Ai Ay (pv 2) Ab) Af) (Ah (Av (Cr (k:=6) (pv 0) a.m (BR (Ai Ay (pv 4) Ab) (Bw (Ak DN (Cr (k:=1) (pv 0) a.m (BR (Ai Ay (pv 4) Ab) Aa)) (Cr (k:=1) (pv 0) a.m (BR (Ai Ay (pv 4) Ab) Aa))) Aa))))) BJ) (Ae (Az (BL Bj (Ai Ay (pv 2) Ab) Af) (Ah (Av (Cr (k:=6) (pv 0) a.m (BR (Ai Ay (pv 4) Ab) (Bg (Ao (Mu T) a.m Aw (Bg (Cr (k:=1) (pv 0) a.m (BR (Ai Ay (pv 4) Ab) Aa)) Aa)) Aa))))) BJ) (Ah (Av (Jt Aw (Ji (Bm (v:=.ref ad.ANSWERS) rfl T.ex.m_ANSWERS rfl) (Ai Ay (pv 2) Ab) (λ _ _=>rfl)) (Bg (Cr (k:=1) (pv 0) a.m (BR (Ai Ay (pv 4) Ab) Aa)) (BR (Ai BW (pv 3) Ab) Aa)))))))))))),?_⟩
 refine ⟨_,rfl,_,_,_,_,rfl,.str _,Eh _,_,rfl,iteF ?_⟩;refine ⟨_,rfl,rfl,_,_,rfl,rfl,rfl,U2 (yB (Xx a2 nx.len (by omega) D) 2) (by decide),λ b J=>?_⟩
 rw [Yh a1 nx.no];have L:=Al J (.lst ((u0::x::qs.map Am).map V.str));have g:upd H b (.lst ((u0::x::qs.map Am).map V.str)) b=some (.lst ((u0::x::qs.map Am).map V.str)):=Aj;generalize upd H b (.lst ((u0::x::qs.map Am).map V.str))=b6 at L g ⊢;refine ⟨_,rfl,b,_,_,.str u0,rfl,rfl,SqL.of g,Bb (j:=0) rfl,rfl,_,rfl,BX (by rw [Bq];exact decide_eq_false a3) ?_⟩
 refine ⟨_,rfl,b,x,qs,rfl,g,nx,D,a8,G,λ r M a9 b7 N l O dn=>?_⟩
 refine ⟨_,rfl,r,_,_,.ref M,rfl,rfl,SqT.of l,Bb (j:=0) rfl,?_⟩;have u:=N _ _ g;refine ⟨_,rfl,b,_,_,.str u0,rfl,rfl,SqL.of u,Bb (j:=0) rfl,rfl,_,rfl,BX (by rw [Bq];exact decide_eq_false a4) ?_⟩
 refine ⟨_,rfl,b,_,_,.str u0,rfl,rfl,SqL.of u,Bb (j:=0) rfl,rfl,_,rfl,BX (by rw [Bq];exact decide_eq_false a5) ?_⟩
 have R:=L.trans N;have e:=a7.keep R;obtain ⟨y,S,b0,U,W,X⟩:=C.ex;obtain rfl:y=p:=by
  have:=U.symm.trans B
  injection this with this
  injection this
 refine ⟨_,rfl,b,_,_,.str u0,rfl,rfl,SqL.of u,Bb (j:=0) rfl,ad.ANSWERS,_,.inr u0,.ref y,rfl,T.ex.g_ANSWERS _ _ z,rfl,hv,y,S,12,_,_,rfl,b0,W,X,a.mono (by decide),?_⟩
 refine ⟨_,rfl,o,_,dx,_,_,_,rfl,e.o,rfl,pY T,_,rfl,M,_,_,.str x,rfl,rfl,SqL.of O,Bb (j:=0) rfl,o,dx,d,q,x,b5,n,ps,rfl,e,sx,λ b8 Y b4=>?_⟩
 exact ⟨_,rfl,r,_,_,.ref a9,rfl,rfl,SqT.of l,Bb (j:=1) rfl,_,_,ps,qs,t,rfl,Y.dv,e.ok sx,dn,I,λ b1 b2=>k b1 (R.trans b2)⟩
theorem Xg (T:Txt K mg ad):CalB P w K mg base true 12 "show_answer" ["bench","numbers"] (bD K XD):=by
 refine T.Oq.calN rM (λ _ _ _ _ _ _=>CJ λ _ _=>rfl) (λ vs H Q E h=>?_) (λ f cdv A outer s H vs Q E a h=>?_)
 ·obtain ⟨_,_,_,_,_,rfl,_⟩:=h;rfl
 obtain ⟨v,u,ps,qs,t,rfl,hb,b,hn,rfl,k⟩:=h;refine ⟨_,(Ah (Av (Ao (oV T) a.m Aw (Ad (pv 0) Aa)))),?_⟩
 exact ⟨_,rfl,v,ps,rfl,hb,U2 b.1 (by decide),b.pbig,k⟩
theorem fJ (T:Txt K mg ad):CalB P w K mg base true 1 "_law_called" ["_law_number","_law_k"] vR:=by
 refine T.QC.calN RJ (λ _ _ _ _ _ _=>CJ λ _ _=>rfl) (λ vs H Q E h=>?_) (λ f cdv A outer s H vs Q E l h=>?_)
 ·obtain ⟨_,_,rfl,_⟩:=h;rfl
 obtain ⟨a,i,rfl,z0,n,o,p,q⟩:=h;refine ⟨_,(Ae (Aq (i:=2) RJ.nd (VM Af (Ak CT (Ak Ca (Ak Du (pv 0) Ab) (Ak Gb Ab (pv 1))) Ab) (λ _ _=>rfl))) (Ae (Az (BL Bj (Ak CT (pv 0) Ab) Ab) (Ah (Av (Ak Ku Af (Ak Ca Ab (pv 1))))) BJ) (Ae (Aq (i:=3) RJ.nd (Ak CT (Ak Du (pv 0) Ab) Ab)) (Ah (Av (Ak Dk (Ak Dk (Di HD Af Ej (Cy (pv 3))) (pv 2)) (Di HD Af (Cy (pv 3)) (Cy (Ak Ca (pv 3) (Ak CT (pv 0) Ab)))))))))),?_⟩
 have hl:=ig ⟨((a / 24+5 * i) % 26).toNat,by omega⟩
 have g:=bF ⟨(a / 3 % 5).toNat,by omega⟩ ⟨(a % 4).toNat,by omega⟩
 have e2:(((a / 3 % 5).toNat:Nat):Int)=a / 3 % 5:=by omega
 have j:(((a % 4).toNat:Nat):Int)=a % 4:=by omega
 simp only [e2,j] at g;refine ⟨_,rfl,_,_,rfl,rfl,⟨(by show (0:Int) < 24;decide),(by show (24:Int) < 1073741824;decide)⟩,_,rfl,_,_,rfl,rfl,.inl ⟨by decide,by omega⟩,_,_,rfl,rfl,_,_,rfl,rfl,(by show (0:Int) < 26;decide),?_⟩
 refine ⟨_,_,_,rfl,rfl,by omega,by omega,?_,hl,?_⟩
 ·show (a / 24+5 * i) % 26 < ((Y1 "abcdefghijklmnopqrstuvwxyz").length:Int);rw [show (Y1 "abcdefghijklmnopqrstuvwxyz").length=26 by decide+kernel]
  omega
 refine ⟨_,rfl,_,_,rfl,rfl,(by show (0:Int) < 3;decide),rfl,_,rfl,?_⟩
 by_cases b:a % 3=0
 ·refine Bu (by rw [Dj];exact decide_eq_true b) ⟨_,rfl,_,_,rfl,rfl,_,_,rfl,rfl,?_,?_⟩
  ·have k:i=0\/i=1\/i=2\/i=3:=by omega
   rcases k with rfl | rfl | rfl | rfl
   ·exact ⟨by decide,λ _ h=>absurd h (by decide),λ _ h=>absurd h (by decide)⟩
   ·exact ⟨by decide,λ _ _=>by decide,λ _ _=>by decide⟩
   ·exact ⟨by decide,λ _ _=>by decide,λ _ _=>by decide⟩
   ·exact ⟨by decide,λ _ _=>by decide,λ _ _=>by decide⟩
  ·have e:called a i=zU (Y1 "m") (1+i):=if_pos b;rw [<- e];exact q
 ·refine BX (by rw [Dj];exact decide_eq_false b) ?_
  have e:called a i=Dt ((a / 24+5 * i) % 26) (a / 3 % 5) (a % 4):=if_neg b;rw [e] at q;have d:(Y1 "lens").length<=X2:=by decide+kernel
  refine ⟨_,rfl,_,_,rfl,rfl,⟨(by show (0:Int) < 3;decide),(by show (3:Int) < 1073741824;decide)⟩,_,_,rfl,rfl,(by show (0:Int) < 5;decide),?_⟩
  refine ⟨_,rfl,_,rfl,_,rfl,d,_,rfl,_,_,rfl,rfl,?_,?_⟩
  ·exact U2 (show _+1<=5 by omega) (by decide)
  refine ⟨_,rfl,_,rfl,_,rfl,_,rfl,_,_,rfl,rfl,(by show (0:Int) < 4;decide),_,_,rfl,rfl,_,rfl,_,rfl,d,_,_,rfl,rfl,?_,q⟩
  refine U2 (m:=9) ?_ (by decide)
  rw [<- Lib.Dq,Bh,ZA,Lib.Dq,Lib.Dq];show _+1+_<=9;omega
theorem bZ (T:Txt K mg ad):CalB P w K mg base true 6 "_law_benches" ["_law_drawn_here","_law_many","_law_least"] (qX K):=by
 refine T.O2.calN Fv (λ _ _ _ _ _ _=>I9 λ _ _ _=>rfl) (λ vs H Q E h=>?_) (λ f cdv A outer s H vs Q E b4 h=>?_)
 ·obtain ⟨_,_,_,_,rfl,_⟩:=h;rfl
 obtain ⟨d,c,e3,c9,rfl,k4,hd,q⟩:=h;refine ⟨_,(Ae (Aq (i:=3) Fv.nd (Bl Aa)) (Ae (Ef UI rfl (JB rfl T.range (Ad (pv 1) Aa)) (CG (i:=4) Fv.nd) (Ae (Aq (i:=5) Fv.nd (Bl Aa)) (Ae (Ef UI rfl (JB rfl T.range (Bw (Ak Ca (pv 2) (Ao (K7 T) b4.m Aw (Ad (pv 0) (Ag Ab Aa)))) Aa)) (CG (i:=6) Fv.nd) (Ae (Aq (i:=7) Fv.nd (Ao (oG T) b4.m Aw (Ad (pv 0) (Ag Dd Aa)))) (Ae (Az (PW.pt (pw_and (BL Bj (Ai BW (pv 7) Ab) Af) (pw_and1 (BL Fd (Ao (K7 T) b4.m Aw (Ad (pv 0) (Ag Ab Aa))) Ab)))) (Ae (Aq (i:=8) Fv.nd (Ao (sY T) b4.m Aw (BR (Ai BW (pv 7) Ab) (Ik (De (Ag Ab (Ag Ab Aa))) Aa)))) (Ah (Aq (i:=7) Fv.nd (De (Ag Af (Ad (pv 8) (Bg (Ao (VF T) b4.m Aw (BR (Ai BW (pv 7) Ab) (Ik (De (Ag Ab (Ag Ab Aa))) Aa))) Aa))))))) BJ) (Ah (DP (Br WJ WX WZ Ez (pv 5) (Ad (pv 7) Aa))))))) (Ah (DP (Br WJ WX WZ Ez (pv 3) (Ad (pv 5) Aa))))))) (Ah (Av (pv 3))))),?_⟩
 refine ⟨(by show 0<=X2;decide),λ g C=>?_⟩
 have u0:=Al C (.lst ([]:List V));have a1:g≠d:=λ e=>by
  obtain ⟨i2,i3,_,b5⟩:=hd.d;rw [e,b5] at C;cases C
 have d3:=hd.keep u0;have d4:upd H g (.lst ([]:List V)) g=some (.lst []):=Aj;have f5:SD d H (upd H g (.lst ([]:List V))):=Lib.SD.ofSame u0;generalize upd H g (.lst ([]:List V))=k5 at u0 d3 d4 f5 ⊢;refine ⟨_,rfl,(c9:Int),rfl,by omega,by omega,?_⟩
 rw [Qb];refine Jh (lo:=0) (n:=c9) (λ i U y=>(∃e4 e5 W X Y,U=[some (.ref d),some (.int (c9:Int)),some (.int 0),some (.ref g),e4,e5,W,X,Y])/\DrA y d c e3/\SD d H y/\∃(bs:List Addr) (k:List (List Pc)),bs.length=i/\y g=some (.lst (bs.map V.ref))/\BnL K y bs k/\(∀b∈bs,H b=none/\b≠g)/\∀ps∈k,OkB ps) ⟨⟨_,_,_,_,_,rfl⟩,d3,f5,[],[],rfl,d4,⟨rfl,λ i b ps h=>nomatch h⟩,(λ b hb=>nomatch hb),λ ps x=>nomatch x⟩ ?_ ?_
 ·rintro i U d0 b0 ⟨⟨e4,e5,W,X,Y,rfl⟩,a2,d1,bs,k,e6,a3,I,bn,b6⟩
  refine ⟨(by show 0<=X2;decide),λ lb z=>?_⟩
  have b7:=Al z (.lst ([]:List V));have J:lb≠d:=λ e=>by
   obtain ⟨i2,i3,_,b5⟩:=a2.d;rw [e,b5] at z;cases z
  have b8:lb≠g:=λ e=>by rw [e,a3] at z;cases z
  have f6:∀b∈bs,b≠lb:=λ b hb e=>by
   obtain ⟨j,f7⟩:=List.getElem?_of_mem hb;have f8:j < k.length:=by rw [<- I.1];exact Cg f7
   obtain ⟨xs,L,_⟩:=I.2 j b _ f7 (XU f8);rw [e,z] at L;cases L
  have b9:H lb=none:=by
   cases e:H lb with
   | none=>rfl
   | some o=>have:=d1 lb o J e;rw [z] at this;cases this
  have c0:=a2.keep b7;have d5:upd d0 lb (.lst ([]:List V)) lb=some (.lst []):=Aj;have d6:=b7 _ _ a3;have f9:=d1.trans (Lib.SD.ofSame b7);have d7:=I.keep b7;generalize upd d0 lb (.lst ([]:List V))=k6 at b7 c0 d5 d6 f9 d7 ⊢;refine ⟨_,rfl,_,rfl,d,c,e3,7,rfl,c0,by decide,λ m k7 k8 k9 g0 d2=>?_⟩
  refine ⟨_,_,rfl,rfl,_,rfl,by omega,by omega,?_⟩
  obtain ⟨l0,l1,_,e7⟩:=c0.d;have Z:∀b∈bs,b≠d:=λ b hb e=>by
   obtain ⟨_,_,_,i4⟩:=hd.d;have:=(bn b hb).1;rw [e,i4] at this;cases this
  refine Jh (lo:=0) (n:=(0+m).toNat) (λ e8 U y=>(∃W X Y,U=[some (.ref d),some (.int (c9:Int)),some (.int 0),some (.ref g),some (.int (0+(i:Int))),some (.ref lb),W,X,Y])/\DrA y d c e3/\SD d H y/\y g=some (.lst (bs.map V.ref))/\BnL K y bs k/\∃xs ps,y lb=some (.lst xs)/\DVs K y xs (yh Bv ps)/\ps.length=e8/\∀p∈ps,DX p/\p.fd 12 17) ⟨⟨_,_,_,rfl⟩,g0,f9.trans d2,d2 _ _ a1 d6,d7.sd e7 d2 Z,[],[],d2 _ _ J d5,.nil,rfl,λ p x=>nomatch x⟩ ?_ ?_
  ·rintro e8 U e9 j4 ⟨⟨W,X,Y,rfl⟩,M,f0,D,c1,xs,ps,c2,a4,d8,c3⟩
   refine ⟨_,rfl,d,c,e3,false,rfl,M,λ v g1 p G c4 hv x=>?_⟩
   have a5:∀(u:V) (a:Hp) (b1:Pc),DrA a d c e3->SD d H a->a g=some (.lst (bs.map V.ref))->BnL K a bs k->a lb=some (.lst xs)->DV K a u (Bv b1)->DVs K a xs (yh Bv ps)->(DX b1/\b1.fd 12 17)->DrA (upd a lb (.lst (xs++[u]))) d c e3/\SD d H (upd a lb (.lst (xs++[u])))/\upd a lb (.lst (xs++[u])) g=some (.lst (bs.map V.ref))/\BnL K (upd a lb (.lst (xs++[u]))) bs k/\∃d9 c5,upd a lb (.lst (xs++[u])) lb=some (.lst d9)/\DVs K (upd a lb (.lst (xs++[u]))) d9 (yh Bv c5)/\c5.length=e8+1/\∀p∈c5,DX p/\p.fd 12 17:=by
    intro u a b1 a6 N a7 a8 l i5 a9 g2;have O:SD lb a (upd a lb (.lst (xs++[u]))):=JX;have st:Ex a (upd a lb (.lst (xs++[u]))):=O.t l;refine ⟨a6.keepD O J.symm (BZ hd.c b9),λ b o n e=>by rw [Ax (BZ e b9)];exact N b o n e,by rw [Ax b8.symm];exact a7,a8.sd l O f6,_,ps++[b1],Aj,?_,by rw [ZA,d8];rfl,λ p x=>?_⟩
    ·rw [YP];exact DVs.append (Ep st (Ew JV ps) a9) (.cons (Ma st (JV b1) i5) .nil)
    ·rcases XA.mp x with h | h
     ·exact c3 p h
     ·rw [Zu.mp h];exact g2
   have b2:xs.length < X2:=small1000 (by have:=a4.len;rw [Y6] at this;omega)
   have c6:=f0.trans c4;have c7:=c4 _ _ a1 D;have B:=c4 _ _ J c2;have c8:=Ep (M.t c4) (Ew JV ps) a4;obtain ⟨j5,j6,_,f1⟩:=M.d;have R:=c1.sd f1 c4 Z;have a0:DX _/\_:=⟨x.1,cL (x.2 rfl)⟩;cases p with
   | gap l2=>
    obtain ⟨tt,g3,rfl,ht,S⟩:=DV.tup_of hv;obtain ⟨g4,g5,rfl,L,g6⟩:=S.two;obtain rfl:=DV.str_of L;refine ⟨_,rfl,tt,_,_,_,rfl,rfl,ht,Dz,rfl,_,rfl,BX (by rw [Bq];exact decide_eq_false (by decide+kernel)) (iteF ?_)⟩
    exact ⟨_,rfl,.inl ⟨rfl,_,SqL.of B⟩,_,rfl,lb,_,_,rfl,rfl,B,b2,⟨_,_,_,rfl⟩,a5 _ g1 _ G c6 c7 R B hv c8 a0⟩
   | glass l2=>
    obtain ⟨tt,g3,rfl,ht,S⟩:=DV.tup_of hv;obtain ⟨g4,g5,rfl,L,g6⟩:=S.two;obtain rfl:=DV.str_of L;refine ⟨_,rfl,tt,_,_,_,rfl,rfl,ht,Dz,rfl,_,rfl,BX (by rw [Bq];exact decide_eq_false (by decide+kernel)) (iteF ?_)⟩
    exact ⟨_,rfl,.inl ⟨rfl,_,SqL.of B⟩,_,rfl,lb,_,_,rfl,rfl,B,b2,⟨_,_,_,rfl⟩,a5 _ g1 _ G c6 c7 R B hv c8 a0⟩
   | stop lo b0=>
    obtain ⟨tt,g3,rfl,ht,S⟩:=DV.tup_of hv;obtain ⟨g4,g5,l3,rfl,L,g6,l4⟩:=S.three;obtain rfl:=DV.str_of L;refine ⟨_,rfl,tt,_,_,_,rfl,rfl,ht,Dz,rfl,_,rfl,Bu (by rw [Bq];exact decide_eq_true rfl) ?_⟩
    refine ⟨_,rfl,d,c,e3,3,rfl,G,by decide,λ m0 a l5 l6 a6 N=>?_⟩
    have e0:=c6.trans N;have a7:=N _ _ a1 c7;have l:=N _ _ J B;have a9:=Ep (G.t N) (Ew JV ps) c8;obtain ⟨j7,j8,_,f2⟩:=G.d;have a8:=R.sd f2 N Z;have e1:=G.dv N hv;refine ⟨_,_,rfl,rfl,_,rfl,ite2 (λ i6=>?_) (λ i6=>?_)⟩
    ·obtain ⟨t',j9,e,e2,f3⟩:=DV.tup_of e1;cases e
     obtain ⟨l7,l8,l9,rfl,k1,k2,k3⟩:=f3.three;have b:=x.2 rfl;have g7:BK 9=.tuple [.int 9,.int 1]:=rfl;have b3:Bd 4 (9:Rat):=⟨by decide,by decide⟩
     refine ⟨_,rfl,tt,_,_,_,rfl,rfl,e2,rfl,(by show 2<=X2;decide),λ g8 g9=>?_⟩
     have h0:=Al g9 (.tup [.int 9,.int 1]);have i7:DV K (upd a g8 (.tup [.int 9,.int 1])) (.ref g8) (BK 9):=by rw [g7];exact .tup (SqT.of Aj) (.cons (.int 9) (.cons (.int 1) .nil))
     refine ⟨_,_,.cons (k2.keep h0) (.cons i7 .nil),⟨lo,9,rfl,b.1.sm (by decide),b3.sm (by decide),rfl⟩,λ h1 i8 i9 j0=>?_⟩
     have h2:=h0.trans i9;refine ⟨_,rfl,_,rfl,tt,_,_,_,rfl,rfl,e2.keep h2,rfl,(by show 2<=X2;decide),λ h3 h4=>?_⟩
     have h5:=Al h4 (.tup [.int 9,.int 1]);have h6:=h2.trans h5;have j1:DV K (upd i8 h3 (.tup [.int 9,.int 1])) (.ref h3) (BK 9):=by rw [g7];exact .tup (SqT.of Aj) (.cons (.int 9) (.cons (.int 1) .nil))
     refine ⟨_,_,.cons (k3.keep h6) (.cons j1 .nil),⟨b0,9,rfl,b.2.sm (by decide),b3.sm (by decide),rfl⟩,λ h7 j2 h8 j3=>?_⟩
     refine ⟨(by show 3<=X2;decide),λ r h9=>?_⟩
     have f4:=Al h9 (.tup [.str (Y1 "stop"),h1,h7]);have u:=(h6.trans h8).trans f4;have i0:DV K (upd j2 r (.tup [.str (Y1 "stop"),h1,h7])) (.ref r) (Bv (.stop (lo - 9) (b0+9))):=.tup (SqT.of Aj) (.cons (.str _) (.cons (j0.keep ((h5.trans h8).trans f4)) (.cons (j3.keep f4) .nil)));have k0:¬ b0 < lo:=x.1.1;have i1:(Pc.stop (lo - 9) (b0+9)).ok:=show ¬ b0+9 < lo - 9 by grind
     exact ⟨_,rfl,.inl ⟨rfl,_,SqL.of (u _ _ l)⟩,_,rfl,lb,_,_,rfl,rfl,u _ _ l,b2,⟨_,_,_,rfl⟩,a5 _ _ _ (a6.keep u) (e0.trans (Lib.SD.ofSame u)) (u _ _ a7) (a8.keep u) (u _ _ l) i0 (a9.keep u) ⟨lO i1 ⟨b.1.sub b3,b.2.add b3⟩ (by decide),(b.1.sub b3).mono (by decide),(b.2.add b3).mono (by decide)⟩⟩
    ·exact ⟨_,rfl,.inl ⟨rfl,_,SqL.of l⟩,_,rfl,lb,_,_,rfl,rfl,l,b2,⟨_,_,_,rfl⟩,a5 _ a _ a6 e0 a7 a8 l e1 a9 a0⟩
  ·rintro U e9 ⟨⟨W,X,Y,rfl⟩,M,f0,D,c1,xs,ps,c2,a4,d8,c3⟩
   have O:SD g e9 (upd e9 g (.lst (bs.map V.ref++[.ref lb]))):=JX;have R:=(c1.sd D O λ b hb=>(bn b hb).2).snoc (Pg (BnA.of c2 a4) (O.t D) λ o e=>O _ _ b8 e)
   have b2:(bs.map V.ref).length < X2:=small1000 (by rw [Y6];omega)
   refine ⟨_,rfl,.inl ⟨rfl,_,SqL.of D⟩,_,rfl,g,_,_,rfl,rfl,D,b2,⟨_,_,_,_,_,rfl⟩,M.keepD O a1.symm (BZ hd.c C),(λ b o n e=>by rw [Ax (BZ e C)];exact f0 b o n e),bs++[lb],k++[ps],by rw [ZA,e6];rfl,by rw [Aj,YP];rfl,R,λ b hb=>?_,λ p x=>?_⟩
   ·rcases XA.mp hb with h | h
    ·exact bn b h
    ·rw [Zu.mp h];exact ⟨b9,b8⟩
   ·rcases XA.mp x with h | h
    ·exact b6 p h
    ·rw [Zu.mp h];exact ⟨by omega,c3⟩
 ·rintro U d0 ⟨⟨e4,e5,W,X,Y,rfl⟩,a2,d1,bs,k,e6,a3,I,bn,b6⟩
  exact ⟨_,rfl,q g bs k d0 a2 d1 C bn a3 e6 I b6⟩
end
end K70
namespace K70
open PySem L2 Lib Fr Op Tx PySem.NumText
seal PE PT PW PA PS PSs PG PGs PI PO Bo PJ
end K70
namespace K70
open PySem L2 Lib Fr Op Tx PySem.NumText
seal PE PT PW PA PS PSs PG PGs PI PO Bo PJ
section
variable {P:Yg}{w:World}{K:FrG}{mg:Y2->Option Value}{base:Heap}{ad:Adr}{c:Bool}
theorem Gj (T:Txt K mg ad):CalB P w K mg base true 2 "look_at_name" ["word"] (jN ad.NoRow):=by
 refine T.Gj.calB Yb (λ _ _ _ _ _ _=>Bk λ _=>rfl) (λ vs H Q E h=>?_) (λ f cdv A outer s H vs Q E d h=>?_)
 ·obtain ⟨_,rfl,_⟩:=h;rfl
 obtain ⟨x,rfl,g,i,j⟩:=h;refine ⟨_,(Ah (Az (Bt (Bf (Ao (Vu T) d.m (Bp Ba) (Ad (pv 0) Aa)))) (Ah (Ei Ba rfl T.ex.c_NoRow (Ag Af Aa))) BJ)),?_⟩
 refine ⟨_,rfl,_,_,rfl,.str x,(λ k e=>by cases e;exact U2 g (by decide)),λ a b=>?_⟩
 refine ⟨_,rfl,?_⟩;cases e:nameB x with
 | true=>exact BX (by rw [show FN (.str x)=true from e];rfl) (i e a b)
 | false=>exact Bu (by rw [show FN (.str x)=false from e];rfl) ⟨(by show 1<=X2;decide),j e a b⟩
theorem VJ {u:Y2}:∀{l:List (Y2×V)},(∀b∈l.map (·.1),b≠u)->valV (CN l) (.inr u)=none
 | [],_=>rfl
 | (b,v)::l,h=>by
  have a:=VJ (u:=u) (l:=l) λ f d=>h f (Ya _ d)
  have nz:¬ (yc b:Key)=.inr u:=λ e=>h b (ZU ..) (FO e)
  unfold valV CN at a ⊢;rw [YV,zE];simp only [decide_eq_false nz];exact a
theorem du (T:Txt K mg ad)(u:Y2):match Ge u with | none=>valV (CN (Ij ad)) (.inr u)=none | some (a,b)=>∃n,valV (CN (Ij ad)) (.inr u)=some (.ref n)/\∀H,SqT K H n [.int (a:Nat),.int (b:Nat)]:=by
 unfold Ge;by_cases e:u=Ac "join"
 ·subst e;rw [if_pos rfl];exact ⟨_,by unfold valV CN;rfl,λ H=>T.ex.s_ROWS_join H⟩
 rw [if_neg e];by_cases f:u=Ac "turn"
 ·subst f;rw [if_pos rfl];exact ⟨_,by unfold valV CN;rfl,λ H=>T.ex.s_ROWS_turn H⟩
 rw [if_neg f];by_cases g:u=Ac "show"
 ·subst g;rw [if_pos rfl];exact ⟨_,by unfold valV CN;rfl,λ H=>T.ex.s_ROWS_show H⟩
 rw [if_neg g];by_cases h:u=Ac "walk"
 ·subst h;rw [if_pos rfl];exact ⟨_,by unfold valV CN;rfl,λ H=>T.ex.s_ROWS_walk H⟩
 rw [if_neg h];by_cases i:u=Ac "table"
 ·subst i;rw [if_pos rfl];exact ⟨_,by unfold valV CN;rfl,λ H=>T.ex.s_ROWS_table H⟩
 rw [if_neg i];by_cases j:u=Ac "apart"
 ·subst j;rw [if_pos rfl];exact ⟨_,by unfold valV CN;rfl,λ H=>T.ex.s_ROWS_apart H⟩
 rw [if_neg j];by_cases k:u=Ac "image"
 ·subst k;rw [if_pos rfl];exact ⟨_,by unfold valV CN;rfl,λ H=>T.ex.s_ROWS_image H⟩
 rw [if_neg k];by_cases l:u=Ac "field"
 ·subst l;rw [if_pos rfl];exact ⟨_,by unfold valV CN;rfl,λ H=>T.ex.s_ROWS_field H⟩
 rw [if_neg l];by_cases m:u=Ac "sharp"
 ·subst m;rw [if_pos rfl];exact ⟨_,by unfold valV CN;rfl,λ H=>T.ex.s_ROWS_sharp H⟩
 rw [if_neg m];by_cases d:u=Ac "rounds"
 ·subst d;rw [if_pos rfl];exact ⟨_,by unfold valV CN;rfl,λ H=>T.ex.s_ROWS_rounds H⟩
 rw [if_neg d];refine VJ λ p o=>?_
 simp only [Ij,YV,xo,ZT,WE,or_false] at o;rcases o with rfl | rfl | rfl | rfl | rfl | rfl | rfl | rfl | rfl | rfl
 ·exact WU e
 ·exact WU f
 ·exact WU g
 ·exact WU h
 ·exact WU i
 ·exact WU j
 ·exact WU k
 ·exact WU l
 ·exact WU m
 ·exact WU d
theorem gH (T:Txt K mg ad)(c5:w.params=ad.pr):CalB P w K mg base true 8 "read_row" ["words"] (jM ad.NoRow):=by
 refine T.LK.calB El (λ _ _ _ _ _ _=>Bk λ _=>rfl) (λ vs H Q E h=>?_) (λ f cdv A outer s H vs Q E a8 h=>?_)
 ·obtain ⟨_,_,_,rfl,_⟩:=h;rfl
 obtain ⟨l,u0,r,rfl,hl,no,e4,b6,k⟩:=h;refine ⟨_,(Ae (Aq (i:=1) El.nd (Z7 (Bm (v:=.ref ad.ROWS) rfl T.ex.m_ROWS rfl) (Ai Ay (pv 0) Ab) ⟨rfl,rfl,rfl,rfl⟩)) (Ae (Az (PW.pt (pw_or (BL QX (pv 1) Hh) (pw_or1 (BL DK (BV CV rfl T.len CK (Ad (pv 0) Aa)) (Ak Ca (Ak Ca Ab (Ai BW (pv 1) Ab)) (Ai BW (pv 1) Ab)))))) (Ah (Ei Ba rfl T.ex.c_NoRow (Ag Af Aa))) BJ) (Ae (Aq (i:=2) El.nd (Di Gv (pv 0) (Cy Ab) (Cy (Ak Ca Ab (Ai BW (pv 1) Ab))))) (Ae (Ef QZ.leaving rfl (Dv (pv 2)) (CG (i:=3) El.nd) (Ah (DP (Ao (Gj T) a8.m (Bp Ba) (Ad (pv 3) Aa))))) (Ae (lN (i:=4) El.nd rfl (by walk_at "o") ["word"] [none] rfl (Dv (Di Gv (pv 0) (Cy (Ak Ca Ab (Ai BW (pv 1) Ab))) Ej)) (λ _ _ _ _ _=>(CG (i:=0) (show zh [("word":Str)] by decide))) (λ _ _ _ _ _=>Em) (λ _ _ _ _ _ _ c6 c7=>(Ao (Gs T) a8.m (jr Ba c6 c7) (Ad (pv 0) Aa))) (Fj (by decide) (by decide)) (by decide) rfl (by decide) rfl (FZ rfl)) (Ae (Az (PW.pt (pw_and (BL Bj (Ai Ay (pv 0) Ab) Af) (pw_and1 (Bf (Ao (Nv T) a8.m (Bp Ba) (BR (Ai Ay (pv 4) Ab) (Ad (Bm (v:=.ref ad.NOUGHT) rfl T.ex.m_NOUGHT rfl) Aa))))))) (Ah (Ei Ba rfl T.ex.c_NoRow (Ag Af Aa))) BJ) cG)))))),?_⟩
 have G:=du T u0;have one:(1:Nat)<=X2:=by decide
 refine ⟨ad.ROWS,_,rfl,T.ex.g_ROWS _ _ c5,_,rfl,l,_,_,.str u0,rfl,rfl,SqL.of hl,Bb (j:=0) rfl,.inr u0,rfl,?_⟩;cases a9:Ge u0 with
 | none=>
  rw [a9] at G;have G:valV (CN (Ij ad)) (.inr u0)=none:=G;rw [G];exact ⟨_,rfl,rfl,_,rfl,Bu (by rfl) ⟨one,k _ (Same.refl _)⟩⟩
 | some ab=>
  obtain ⟨a,b⟩:=ab;rw [a9] at G;obtain ⟨M,c8,F⟩:=G;rw [c8];refine ⟨_,rfl,rfl,_,rfl,BX (by rfl) ?_⟩
  have Y:((u0::r).map V.str).length=1+r.length:=by simp only [Y6,U1];omega
  refine ⟨_,rfl,l,_,rfl,.inl (SqL.of hl),_,rfl,M,_,_,.int (a:Nat),rfl,rfl,F H,rfl,_,_,rfl,rfl,_,rfl,M,_,_,.int (b:Nat),rfl,rfl,F H,rfl,_,_,rfl,rfl,?_⟩;refine ⟨rfl,_,rfl,?_⟩;by_cases b0:r.length=a+b
  rotate_left
  ·exact Bu (by rw [Dj,decide_eq_false (show ¬ (((u0::r).map V.str).length:Int)=1+(a:Int)+(b:Int) by rw [Y];omega)];rfl) ⟨one,k _ (Same.refl _)⟩
  refine BX (by rw [Dj,decide_eq_true (show (((u0::r).map V.str).length:Int)=1+(a:Int)+(b:Int) by rw [Y];omega)];rfl) ?_
  refine ⟨_,rfl,_,rfl,_,rfl,M,_,_,.int (a:Nat),rfl,rfl,F H,rfl,_,_,rfl,rfl,_,rfl,l,_,rfl,SqL.of hl,λ I b7=>?_⟩
  have a5:(1:Int)+(a:Int)=((1+a:Nat):Int):=by omega
  have c9:cutV ((u0::r).map V.str) (some 1) (some (1+(a:Int)))=(r.take a).map V.str:=by
   rw [a5];unfold cutV;rw [show HT.sIx ((u0::r).map V.str).length 0 (some 1)=min 1 ((u0::r).map V.str).length from HT.Er _ _ 1,HT.Er,Y,yg (by omega),yg (by omega)]
   show ((r.map V.str).take (1+a - 1))=_;rw [show 1+a - 1=a by omega,Fh]
  have d0:cutV ((u0::r).map V.str) (some (1+(a:Int))) none=(r.drop a).map V.str:=by
   rw [a5];unfold cutV;rw [HT.Er,HT.M9,Y,yg (by omega),YV,wc 1 a,List.drop_succ_cons,Fk]
   exact JU (by rw [zx,Y6];omega)
  rw [c9];have Z:=Al b7 (.lst ((r.take a).map V.str));have z:upd H I (.lst ((r.take a).map V.str)) I=some (.lst ((r.take a).map V.str)):=Aj;generalize upd H I (.lst ((r.take a).map V.str))=d1 at Z z ⊢;refine ⟨_,rfl,I,rfl,⟨_,SqL.of z⟩,?_⟩;refine HQ (K:=K) (a:=I) (xs:=(r.take a).map V.str) (λ i n u=>∃a0,n=[some (.ref l),some (.ref M),some (.ref I),a0,none]/\Same d1 u/\∀y∈(r.take a).take i,nameB y=true) ⟨_,rfl,Same.refl _,λ _ h=>by rw [wD] at h;cases h⟩ ?_ ?_ ?_
  ·rintro i n u o ⟨a0,rfl,B,_⟩
   exact SqL.of (B _ _ z)
  ·rintro i y n u o ⟨a0,rfl,B,a1⟩
   rw [YA] at o;obtain ⟨x,N,rfl⟩:=UK.mp o;have mx:x∈r:=GB (Xb N);refine ⟨_,rfl,x,rfl,b6 x mx,(λ e a2 b1=>⟨_,rfl,B.trans b1,λ e2 J=>?_⟩),λ e a2 b1=>k a2 ((Z.trans B).trans b1)⟩
   rw [JE,N] at J;rcases XA.mp J with J | J
   ·exact a1 e2 J
   ·rw [Zu.mp J];exact e
  ·rintro n u ⟨a0,rfl,B,a1⟩
   rw [Y6,QI] at a1;have a6:u l=some (.lst ((u0::r).map V.str)):=B _ _ (Z _ _ hl);refine ⟨_,rfl,_,rfl,M,_,_,.int (a:Nat),rfl,rfl,F u,rfl,_,_,rfl,rfl,_,rfl,l,_,rfl,SqL.of a6,λ O b2=>?_⟩
   rw [d0];have b3:=Al b2 (.lst ((r.drop a).map V.str));have R:upd u O (.lst ((r.drop a).map V.str)) O=some (.lst ((r.drop a).map V.str)):=Aj;generalize upd u O (.lst ((r.drop a).map V.str))=a2 at b3 R ⊢;have t3:=(Z.trans B).trans b3;refine ⟨O,rfl,⟨_,SqL.of R⟩,?_⟩;refine HH (K:=K) (a:=O) (xs:=(r.drop a).map V.str) (λ i n g C=>∃c0 qs,n=[c0]/\Same a2 C/\DVs K C g (yh BK qs)/\((r.drop a).take i).map numOf=qs.map some) ⟨_,[],rfl,Same.refl _,.nil,rfl⟩ ?_ ?_ ?_
   ·rintro i n g C o ⟨c0,qs,rfl,L,dv,D⟩
    have a3:=dv.len;have b8:=congrArg Qf D;rw [Y6,Y6,Uf] at b8;rw [Y6] at a3 o;exact ⟨U2 (show g.length<=10000 by rw [zx] at b8;omega) (by decide),SqL.of (L _ _ R)⟩
   ·rintro i y n g C o ⟨c0,qs,rfl,L,dv,D⟩
    have b9:=Cg o;rw [YA] at o;obtain ⟨x,N,rfl⟩:=UK.mp o;have mx:x∈r:=GA (Xb N);refine ⟨_,rfl,x,rfl,U2 (b6 x mx) (by decide),(λ q e v S a4 hv=>nx b9 ⟨_,qs++[q],rfl,L.trans a4,?_,?_⟩),λ e S a4=>k S (t3.trans (L.trans a4))⟩
    ·rw [YP];exact DVs.append (dv.keep a4) (.cons hv .nil)
    ·rw [JE,N,YP,YP,D];show _++[numOf x]=_;rw [e];rfl
   ·rintro n g C p ⟨c0,qs,rfl,L,dv,D⟩ d2
    rw [Y6,QI] at D;have b4:=Al d2 (.lst g);have c1:(upd C p (.lst g)) p=some (.lst g):=Aj;have U:=dv.keep b4;have W:=L.trans b4;generalize upd C p (.lst g)=S at b4 c1 U W ⊢;have d3:=t3.trans W;rcases no a b a9 b0 with ⟨y,b5,t⟩ | ⟨y,b5,t⟩ | ⟨d4,y,q,t,c2,d5⟩
    ·rw [a1 y b5] at t;cases t
    ·have m:numOf y∈(r.drop a).map numOf:=Jb.mpr ⟨y,b5,rfl⟩;rw [t,D] at m;obtain ⟨q,_,e⟩:=Jb.mp m;cases e
    ·refine ⟨_,rfl,l,_,_,.str u0,rfl,rfl,SqL.of (W _ _ (b3 _ _ a6)),Bb (j:=0) rfl,rfl,_,rfl,?_⟩;rw [Bq];refine Bu (decide_eq_true d4) ?_;have d6:qs[4]?=some q:=by
      have a3:((r.drop a).map numOf)[4]?=some (some q):=by rw [YA,t];show some (numOf y)=_;rw [c2]
      rw [D,YA] at a3;obtain ⟨e2,d7,d8⟩:=UK.mp a3;cases d8
      exact d7
     have a7:(qs.map BK)[4]?=some (BK q):=by rw [YA,d6];rfl
     obtain ⟨d9,c3,X⟩:∃y,g[4]?=some y/\DV K S y (BK q):=by
      have e3:=U.len;have e5:=Cg a7;obtain ⟨y,t⟩:∃y,g[4]?=some y:=⟨_,XU (by omega)⟩
      obtain ⟨d,hd,X⟩:=U.get t;rw [a7] at hd;cases hd
      exact ⟨y,t,X⟩
     have e0:Short q:=(Ub c2).1;refine ⟨_,rfl,p,_,_,d9,rfl,rfl,SqL.of c1,Bb (j:=4) c3,_,_,.cons X (.cons (dN T S) .nil),⟨q,0,rfl,(Gi e0).sm (by decide),Sm.zero,rfl⟩,λ e6 e7 e1 c4=>?_⟩
     obtain rfl:=c4.bl_of;rw [decide_eq_true d5];exact ⟨_,rfl,iteT ⟨one,k _ (d3.trans e1)⟩⟩
theorem sG (T:Txt K mg ad):MC P w K mg base 1 ad.Desk "bench_by" ["self","name"] (n6 K ad.Desk ad.Unknown):=by
 refine T.ex.q_Desk_bench_by.mcR Ue (λ _ _ _ _ _ _=>CJ λ _ _=>rfl) (λ vs H Q E h=>?_) (λ f cdv A outer s H vs Q E a h=>?_)
 ·obtain ⟨_,_,_,_,_,_,_,rfl,_⟩:=h;rfl
 obtain ⟨o,dx,d,q,x,l,n,rfl,b,sx,k⟩:=h;refine ⟨_,(Ae (Az (Vx (ZQ a.units1 (pv 1) (Ek (pv 0)))) (Ah (Ei Ba rfl T.ex.c_Unknown (Ag Af Aa))) BJ) (Ah (Av (YX a.units1 (Ek (pv 0)) (pv 1) (λ _ _=>rfl))))),?_⟩
 obtain ⟨i,e,hl,g⟩:=b.d;have j:DGet H d (.str x) none:=(g.no sx)▸DGet.k (k:=.inr x) e;refine ⟨_,rfl,_,rfl,o,_,dx,_,_,rfl,b.o,T.ex.l_Desk,T.ex.n_Desk_benches,rfl,d,_,rfl,j,_,rfl,Bu rfl ?_⟩;exact ⟨(by show 1<=X2;decide),k⟩
theorem sU (T:Txt K mg ad):MC P w K mg base 10 ad.Desk "lay" ["self","row"] (cJ ad.NoRow):=by
 have one:(1:Nat)<=X2:=by decide
 refine T.ex.q_Desk_lay.mcR JS (λ _ _ _ _ _ _=>CJ λ _ _=>rfl) (λ vs H Q E h=>?_) (λ f cdv A outer s H vs Q E b h=>?_)
 ·obtain ⟨_,_,_,rfl,_⟩:=h;rfl
 obtain ⟨v,t,r,rfl,g,hb,u,k⟩:=h;have sz:t.length+2<=X2:=U2 (show _<=20000 by omega) (by decide)
 have x:((Xs t ⟨#[32]⟩).map V.str).length=1+r.length:=by rw [g,Y6,U1];omega
 by_cases q:r.length < 2
 ·refine ⟨_,(Ae (Aq (i:=2) JS.nd (Br Yf XO Wp eG (pv 1) (Ag Af (Ag Ab Aa)))) (Ae (Az (BL DK (BV CV rfl T.len CK (Ad (pv 2) Aa)) Ab) (Ah (Ei Ba rfl T.ex.c_NoRow (Ag Af Aa))) BJ) (Ae (DP (Ao (Gj T) b.m (Bp Ba) (BR (Ai Ay (pv 2) Ab) Aa))) (Ah (Av (Dg (k:=6) (Bp Ba) (pv 0) b.m (BR (Ai Ay (pv 2) Ab) (Bg (Ao (Ud T) b.m (Bp Ba) (BR (Ai Ay (pv 2) Ab) Aa)) Aa)))))))),?_⟩
  refine ⟨_,rfl,rfl,t,rfl,rfl,(by rw [g,U1];omega),nA g,sz,λ a l=>?_⟩
  have n:=Al l (.lst ((Xs t ⟨#[32]⟩).map V.str));have d:upd H a (.lst ((Xs t ⟨#[32]⟩).map V.str)) a=some (.lst ((Xs t ⟨#[32]⟩).map V.str)):=Aj;generalize upd H a (.lst ((Xs t ⟨#[32]⟩).map V.str))=y at n d ⊢;exact ⟨_,rfl,a,_,rfl,.inl (SqL.of d),rfl,_,rfl,Bu (by rw [Dj,decide_eq_false (show ¬ (((Xs t ⟨#[32]⟩).map V.str).length:Int)=3 by rw [x];omega)];rfl) ⟨one,k _ n⟩⟩
 ·obtain ⟨o,p,rfl,z⟩:∃o p,r=o::p/\nameB o=false:=by
   rcases hb with hb | hb
   ·exact absurd hb q
   ·exact hb
  cases p with
  | nil=>exact absurd (show 1 < 2 by decide) q
  | cons J G=>
   obtain ⟨st,e1,e2,B⟩:=uZ g;refine ⟨_,(Ae (Aq (i:=2) JS.nd (Br Yf XO Wp aD (pv 1) (Ag Af (Ag Ab Aa)))) (Ae (Az (BL DK (BV CV rfl T.len CK (Ad (pv 2) Aa)) Ab) (Ah (Ei Ba rfl T.ex.c_NoRow (Ag Af Aa))) BJ) (Ae (DP (Ao (Gj T) b.m (Bp Ba) (BR (Ai Ay (pv 2) Ab) Aa))) (Ah (Av (Dg (k:=6) (Bp Ba) (pv 0) b.m (BR (Ai Ay (pv 2) Ab) (Bg (Ao (Ud T) b.m (Bp Ba) (BR (Ai Ay (pv 2) Ab) Aa)) Aa)))))))),?_⟩
   refine ⟨_,rfl,rfl,_,Ac "bench",o,st,rfl,rfl,e1,e2,B,sz,λ a l=>?_⟩
   have n:=Al l (.lst [.str (Ac "bench"),.str o,.str st]);have d:upd H a (.lst [.str (Ac "bench"),.str o,.str st]) a=some (.lst [.str (Ac "bench"),.str o,.str st]):=Aj;generalize upd H a (.lst [.str (Ac "bench"),.str o,.str st])=y at n d ⊢;refine ⟨_,rfl,a,_,rfl,.inl (SqL.of d),rfl,_,rfl,BX rfl ?_⟩;have C:o.length<=10000:=U2 (Ng (by rw [g];exact Ya _ (ZU ..))) u
   refine ⟨_,rfl,a,_,_,.str o,rfl,rfl,SqL.of d,Bb (j:=1) rfl,o,rfl,C,(λ e=>by rw [z] at e;cases e),λ _ I D=>k _ (n.trans D)⟩
theorem uH (T:Txt K mg ad)(D:w.params=ad.pr):MC P w K mg base 16 ad.Desk "say" ["self","row"] (m7 K ad.Desk ad.NoRow):=by
 have one:(1:Nat)<=X2:=by decide
 refine T.ex.q_Desk_say.mcR DY (λ _ _ _ _ _ _=>CJ λ _ _=>rfl) (λ vs H Q E h=>?_) (λ f cdv A outer s H vs Q E a h=>?_)
 ·obtain ⟨_,_,_,_,_,_,_,rfl,_⟩:=h;rfl
 obtain ⟨o,dx,d,q,v,R,n,rfl,G,I,k⟩:=h;refine ⟨_,(Ae (Az (Bt (Bf (BV Dh rfl T.isinstance CQ (Ad (pv 1) (Ad (Df (v:=.ty "str") rfl T.str Es rfl) Aa))))) (Ah (Ei Ba rfl T.ex.c_NoRow (Ag Af Aa))) BJ) (Ae (Aq (i:=2) DY.nd (Br Yf XO Wp Ey (pv 1) (Ag Af Aa))) (Ae (Az (BL Bj (Ai Ay (pv 2) Ab) Af) (Ah (Av (Dg (k:=10) (Bp Ba) (pv 0) a.m (Ad (pv 1) Aa)))) BJ) (Ae (Aq (i:=3) DY.nd (Ao (gH T D) a.m (Bp Ba) (Ad (pv 2) Aa))) (Ae (Aq (i:=4) DY.nd (Ai BW (pv 3) Ab)) (Ae (Az (BL Bj (Ai Ay (pv 2) Ab) Af) (Ah (Av (Dg (k:=6) (Bp Ba) (pv 0) a.m (BR (Ai Ay (pv 4) Ab) (Bw (Ak DN (Dg (k:=1) (Bp Ba) (pv 0) a.m (BR (Ai Ay (pv 4) Ab) Aa)) (Dg (k:=1) (Bp Ba) (pv 0) a.m (BR (Ai Ay (pv 4) Ab) Aa))) Aa))))) BJ) (Ae (Az (BL Bj (Ai Ay (pv 2) Ab) Af) (Ah (Av (Dg (k:=6) (Bp Ba) (pv 0) a.m (BR (Ai Ay (pv 4) Ab) (Bg (Ao (Mu T) a.m (Bp Ba) (Bg (Dg (k:=1) (Bp Ba) (pv 0) a.m (BR (Ai Ay (pv 4) Ab) Aa)) Aa)) Aa))))) BJ) (Ah (Av (Jt (Bp Ba) (Ji (Bm (v:=.ref ad.ANSWERS) rfl T.ex.m_ANSWERS rfl) (Ai Ay (pv 2) Ab) (λ _ _=>rfl)) (Bg (Dg (k:=1) (Bp Ba) (pv 0) a.m (BR (Ai Ay (pv 4) Ab) Aa)) (BR (Ai BW (pv 3) Ab) Aa)))))))))))),?_⟩
 rcases I with ⟨dd,dv,ns⟩ | ⟨t,rfl,⟨b,r,g,y⟩,z⟩
 ·refine ⟨_,rfl,_,_,_,_,rfl,dv,Eh _,_,rfl,?_⟩;rw [ns];exact iteT ⟨one,k _ (Same.refl _)⟩
 ·refine ⟨_,rfl,_,_,_,_,rfl,.str _,Eh _,_,rfl,iteF ?_⟩;refine ⟨_,rfl,rfl,_,_,rfl,rfl,rfl,U2 (show _<=20000 by omega) (by decide),λ e B=>?_⟩
  rw [show Xs t (Y1 " ")=b::r from g]
  have l:=Al B (.lst ((b::r).map V.str));have p:upd H e (.lst ((b::r).map V.str)) e=some (.lst ((b::r).map V.str)):=Aj;generalize upd H e (.lst ((b::r).map V.str))=O at l p ⊢;refine ⟨_,rfl,e,_,_,.str b,rfl,rfl,SqL.of p,Bb (j:=0) rfl,rfl,_,rfl,?_⟩;rcases y with ⟨rfl,hb⟩ | ⟨J,no⟩
  ·refine Bu (by rw [Bq];exact decide_eq_true rfl) ?_
   have C:=G.keep l;exact ⟨_,rfl,o,_,dx,_,_,_,rfl,C.o,rfl,sU T,_,rfl,_,t,r,rfl,g,hb,z,λ L u=>k _ (l.trans u)⟩
  ·refine BX (by rw [Bq];exact decide_eq_false J) ?_
   have M:r.length<=10000:=by
    have:=uy t;rw [g,U1] at this;omega
   exact ⟨_,rfl,e,b,r,rfl,p,no,M,(λ x N=>U2 (Ng (by rw [g];exact Ya _ N)) z),λ L u=>k _ (l.trans u)⟩
theorem lA (T:Txt K mg ad)(t:w.params=ad.pr):MC P w K mg base 16 ad.Desk "say" ["self","row"] (rB K ad.Desk ad.Unknown):=by
 have N:=PP (P:=P) (w:=w) (base:=base) T t (u0:=Ac "show") (m:=0) ⟨_,by unfold valV CN;rfl,λ H=>T.ex.s_ROWS_show H⟩ (by decide)
 refine T.ex.q_Desk_say.mcR DY (λ _ _ _ _ _ _=>CJ λ _ _=>rfl) (λ vs H Q E h=>?_) (λ f cdv A outer s H vs Q E a h=>?_)
 ·obtain ⟨_,_,_,_,_,_,_,rfl,_⟩:=h;rfl
 obtain ⟨o,dx,d,q,x,W,n,rfl,O,nx,sx,k⟩:=h;refine ⟨_,(Ae (Az (Bt (Bf (BV Dh rfl T.isinstance CQ (Ad (pv 1) (Ad (Df (v:=.ty "str") rfl T.str Es rfl) Aa))))) (Ah Cw) BJ) (Ae (Aq (i:=2) DY.nd (Br Yf XO Wp Ey (pv 1) (Ag Af Aa))) (Ae (Az (BL Bj (Ai Ay (pv 2) Ab) Af) (Ah (Av (Dg (k:=10) (Bp Ba) (pv 0) a.m (Ad (pv 1) Aa)))) BJ) (Ae (Aq (i:=3) DY.nd (Ao N a.m (Bp Ba) (Ad (pv 2) Aa))) (Ae (Aq (i:=4) DY.nd (Ai BW (pv 3) Ab)) (Ae (Az (BL Bj (Ai Ay (pv 2) Ab) Af) (Ah (Av (Dg (k:=6) (Bp Ba) (pv 0) a.m (BR (Ai Ay (pv 4) Ab) (Bw (Ak DN (Dg (k:=1) (Bp Ba) (pv 0) a.m (BR (Ai Ay (pv 4) Ab) Aa)) (Dg (k:=1) (Bp Ba) (pv 0) a.m (BR (Ai Ay (pv 4) Ab) Aa))) Aa))))) BJ) (Ae (Az (BL Bj (Ai Ay (pv 2) Ab) Af) (Ah (Av (Dg (k:=6) (Bp Ba) (pv 0) a.m (BR (Ai Ay (pv 4) Ab) (Bg (Ao (Mu T) a.m (Bp Ba) (Bg (Dg (k:=1) (Bp Ba) (pv 0) a.m (BR (Ai Ay (pv 4) Ab) Aa)) Aa)) Aa))))) BJ) (Ah (Av (Jt (Bp Ba) (Ji (Bm (v:=.ref ad.ANSWERS) rfl T.ex.m_ANSWERS rfl) (Ai Ay (pv 2) Ab) (λ _ _=>rfl)) (Bg (Dg (k:=1) (Bp Ba) (pv 0) a.m (BR (Ai Ay (pv 4) Ab) Aa)) (BR (Ai BW (pv 3) Ab) Aa)))))))))))),?_⟩
 refine ⟨_,rfl,_,_,_,_,rfl,.str _,Eh _,_,rfl,iteF ?_⟩;refine ⟨_,rfl,rfl,_,_,rfl,rfl,rfl,U2 (yB (Xx (by decide+kernel) nx.len (by decide) (λ _ h=>by cases h)) 2) (by decide),λ b u=>?_⟩
 rw [Yh (by decide+kernel) nx.no]
 have y:=Al u (.lst ((Ac "show"::x::([]:List Rat).map Am).map V.str));have g:upd H b (.lst ((Ac "show"::x::([]:List Rat).map Am).map V.str)) b=some (.lst ((Ac "show"::x::([]:List Rat).map Am).map V.str)):=Aj;generalize upd H b (.lst ((Ac "show"::x::([]:List Rat).map Am).map V.str))=X at y g ⊢;refine ⟨_,rfl,b,_,_,.str (Ac "show"),rfl,rfl,SqL.of g,Bb (j:=0) rfl,rfl,_,rfl,BX (by rw [Bq];exact decide_eq_false (by decide+kernel)) ?_⟩
 refine ⟨_,rfl,b,x,[],rfl,g,nx,(λ _ h=>by cases h),rfl,(λ e=>absurd e (by decide+kernel)),λ r z Y R B C D dn=>?_⟩
 refine ⟨_,rfl,r,_,_,.ref z,rfl,rfl,SqT.of C,Bb (j:=0) rfl,?_⟩;have p:=B _ _ g;refine ⟨_,rfl,b,_,_,.str (Ac "show"),rfl,rfl,SqL.of p,Bb (j:=0) rfl,rfl,_,rfl,BX (by rw [Bq];exact decide_eq_false (by decide+kernel)) ?_⟩
 refine ⟨_,rfl,b,_,_,.str (Ac "show"),rfl,rfl,SqL.of p,Bb (j:=0) rfl,rfl,_,rfl,BX (by rw [Bq];exact decide_eq_false (by decide+kernel)) ?_⟩
 have G:=y.trans B;have l:=O.keep G;obtain ⟨S,I,U,J,L,M⟩:=(Xg (P:=P) (w:=w) (base:=base) T).ex;obtain rfl:S=ad.ANSWERS_show:=by
  have:=J.symm.trans T.ex.f_ANSWERS_show
  injection this with this
  injection this
 refine ⟨_,rfl,b,_,_,.str (Ac "show"),rfl,rfl,SqL.of p,Bb (j:=0) rfl,ad.ANSWERS,_,.inr (Ac "show"),.ref ad.ANSWERS_show,rfl,T.ex.g_ANSWERS _ _ t,rfl,(by unfold valV CN;rfl),ad.ANSWERS_show,I,12,_,_,rfl,U,L,M,a.mono (by decide),?_⟩
 exact ⟨_,rfl,o,_,dx,_,_,_,rfl,l.o,rfl,sG T,_,rfl,z,_,_,.str x,rfl,rfl,SqL.of D,Bb (j:=0) rfl,o,dx,d,q,x,W,n,rfl,l,sx,k R G⟩
end
end K70
namespace K70
open PySem L2 Lib Fr Op Tx PySem.NumText
seal PE PT PW PA PS PSs PG PGs PI PO Bo
section
variable {P:Yg}{w:World}{K:FrG}{mg:Str->Option Value}{base:Heap}{ad:Adr}{c:Bool}
def kw70:List Y2:=["bench","box","value","number","text","table","stock","wish","row","unknown"]
def Ed (b:Bool):List Bool:=[false,false,true,false,false,false,false,false,b,!b]
def aM (b:Bool):Y2:=if b=true then Ac "row" else Ac "unknown"
def Fi (p:Y2×Bool):Bool:=p.2 && !decide (p.1=Y1 "value")
def Eb (b:Bool)(i:Nat):List V:=(((kw70.zip (Ed b)).take i).filter Fi).map (λ p=>V.str p.1)
theorem pF (b:Bool):Eb b 10=[.str (aM b)]:=by cases b<;>rfl
theorem eQ {b t:Bool}{a:Y2}{i:Nat}(d:kw70[i]?=some a)(f:(Ed b)[i]?=some t):Eb b (i+1)=Eb b i++(if Fi (a,t)=true then [.str a] else []):=by
 unfold Eb;have e:(kw70.zip (Ed b))[i]?=some (a,t):=by rw [List.getElem?_zip_eq_some];exact ⟨d,f⟩
 rw [JE,e,List.filter_append,YP];show _++yh _ (List.filter Fi [(a,t)])=_;rw [List.filter_cons];cases Fi (a,t)<;>rfl
theorem gm (b:Bool)(i:Nat):(Eb b i).length<=10:=by
 unfold Eb;rw [Y6];refine U2 (List.length_filter_le _ _) ?_;rw [Uf];exact U2 (Nat.min_le_right _ _) (by rw [List.length_zip];exact U2 (Nat.min_le_left _ _) (by decide))
theorem cg {b t:Bool}{i:Nat}(a:kw70[i]?=some (Y1 "value"))(f:(Ed b)[i]?=some t):t=true:=by
 have d:=Cg a;have:i < 10:=d;have e:∀i:Fin 10,∀b t:Bool,kw70[i.val]?=some (Y1 "value")->(Ed b)[i.val]?=some t->t=true:=by decide+kernel
 exact e ⟨i,this⟩ b t a f
theorem vN (T:Txt K mg ad):CalH P w K mg base 2 "_law_names" ["_law_e"] (pZ ad.NoRow ad.Unknown):=by
 refine T.R9.calH IV (λ _ _ _ _ _ _=>Bk λ _=>rfl) (λ ex vs H Q E h=>?_) (λ f cdv ex A outer s H vs Q E a4 d3 h=>?_)
 ·obtain ⟨_,_,rfl,_⟩:=h;rfl
 obtain ⟨dx,O,rfl,k,q⟩:=h;have X:=T.ex;obtain ⟨g,b,j,d,rfl,k1,k2,k3,c8,k5,c9,d0,d1,d2,a5⟩:∃(g:Addr) (b:Bool),ExcK K g/\HX H ex g dx/\O=aM b/\ZJ K (.ref g) (.ref ad.NoBench)=some false/\ZJ K (.ref g) (.ref ad.NoBox)=some false/\ZJ K (.ref g) (.type "ValueError")=some true/\ZJ K (.ref g) (.ref ad.NoNumber)=some false/\ZJ K (.ref g) (.ref ad.NoText)=some false/\ZJ K (.ref g) (.ref ad.NoTable)=some false/\ZJ K (.ref g) (.ref ad.NoStock)=some false/\ZJ K (.ref g) (.ref ad.NoWish)=some false/\ZJ K (.ref g) (.ref ad.NoRow)=some b/\ZJ K (.ref g) (.ref ad.Unknown)=some (!b):=by
  rcases k with ⟨d,rfl⟩ | ⟨d,rfl⟩
  ·exact ⟨_,true,X.e_NoRow,d,rfl,X.k_NoRow_NoBench,X.k_NoRow_NoBox,X.k_NoRow_ValueError,X.k_NoRow_NoNumber,X.k_NoRow_NoText,X.k_NoRow_NoTable,X.k_NoRow_NoStock,X.k_NoRow_NoWish,X.k_NoRow_NoRow,X.k_NoRow_Unknown⟩
  ·exact ⟨_,false,X.e_Unknown,d,rfl,X.k_Unknown_NoBench,X.k_Unknown_NoBox,X.k_Unknown_ValueError,X.k_Unknown_NoNumber,X.k_Unknown_NoText,X.k_Unknown_NoTable,X.k_Unknown_NoStock,X.k_Unknown_NoWish,X.k_Unknown_NoRow,X.k_Unknown_Unknown⟩
 clear k;refine ⟨_,(Ae (Aq (i:=1) IV.nd (Bl (Bg (BV (En (K:=K)) rfl T.isinstance CQ (Ad (pv 0) (Ad (Bm (v:=.ref ad.NoBench) rfl T.ex.m_NoBench rfl) Aa))) (Bg (BV (En (K:=K)) rfl T.isinstance CQ (Ad (pv 0) (Ad (Bm (v:=.ref ad.NoBox) rfl T.ex.m_NoBox rfl) Aa))) (Bg (BV (En (K:=K)) rfl T.isinstance CQ (Ad (pv 0) (Ad (Df (v:=.ty "ValueError") rfl T.ValueError tu rfl) Aa))) (Bg (BV (En (K:=K)) rfl T.isinstance CQ (Ad (pv 0) (Ad (Bm (v:=.ref ad.NoNumber) rfl T.ex.m_NoNumber rfl) Aa))) Aa)))))) (Ae (Aq (i:=1) IV.nd (Ak DN (pv 1) (Bl (Bg (BV (En (K:=K)) rfl T.isinstance CQ (Ad (pv 0) (Ad (Bm (v:=.ref ad.NoText) rfl T.ex.m_NoText rfl) Aa))) (Bg (BV (En (K:=K)) rfl T.isinstance CQ (Ad (pv 0) (Ad (Bm (v:=.ref ad.NoTable) rfl T.ex.m_NoTable rfl) Aa))) (Bg (BV (En (K:=K)) rfl T.isinstance CQ (Ad (pv 0) (Ad (Bm (v:=.ref ad.NoStock) rfl T.ex.m_NoStock rfl) Aa))) (Bg (BV (En (K:=K)) rfl T.isinstance CQ (Ad (pv 0) (Ad (Bm (v:=.ref ad.NoWish) rfl T.ex.m_NoWish rfl) Aa))) Aa))))))) (Ae (Aq (i:=1) IV.nd (Ak DN (pv 1) (Bl (Bg (BV (En (K:=K)) rfl T.isinstance CQ (Ad (pv 0) (Ad (Bm (v:=.ref ad.NoRow) rfl T.ex.m_NoRow rfl) Aa))) (Bg (BV (En (K:=K)) rfl T.isinstance CQ (Ad (pv 0) (Ad (Bm (v:=.ref ad.Unknown) rfl T.ex.m_Unknown rfl) Aa))) Aa))))) (Ae (Aq (i:=2) IV.nd (Bl (Ag Af (Ag Af (Ag Af (Ag Af (Ag Af (Ag Af (Ag Af (Ag Af (Ag Af (Ag Af Aa)))))))))))) (Ah (Av (j7 ["_law_word","_law_there"] [none,none] a4 (sH (C:=g) (dx:=dx) rfl T.zip (Ad (pv 2) (Ad (pv 1) Aa))) (λ _ _ _ _ _=>(jR (n:=2) (ex:=ex) (C:=g) (dx:=dx) (K:=K) (GQ (CG (i:=0) (show zh [("_law_word":Str),("_law_there":Str)] by decide)) (GQ (CG (i:=1) (show zh [("_law_word":Str),("_law_there":Str)] by decide)) Pa)) a4)) (λ _ _ _ _ _=>(uf (PW.pt (pw_or (PW.pt (pw_and (Bf (pv 1)) (pw_and1 (BL DK (pv 0) Af)))) (pw_or1 (PW.pt (pw_and (BL Bj (pv 0) Af) (pw_and1 (Bt (Bf (pv 1))))))))))) (λ _ _ _ _ _=>(pv 0)) (Fj (by decide) (by decide)) (by decide) rfl (by decide) rfl (FZ rfl)))))))),?_⟩
 refine ⟨_,rfl,ex,_,_,_,_,_,rfl,d,j,rfl,k1,_,rfl,ex,_,_,_,_,_,rfl,d,j,rfl,k2,_,rfl,ex,_,_,_,_,_,rfl,d,j,rfl,k3,_,rfl,ex,_,_,_,_,_,rfl,d,j,rfl,c8,(by show 4<=X2;decide),λ B a6=>?_⟩
 have S:=Al a6 (.lst [.bl false,.bl false,.bl true,.bl false]);have u:(upd H B (.lst [.bl false,.bl false,.bl true,.bl false])) B=some (.lst [.bl false,.bl false,.bl true,.bl false]):=Aj;have d:=d.same S;generalize upd H B (.lst [.bl false,.bl false,.bl true,.bl false])=a7 at S u d ⊢;refine ⟨_,rfl,_,rfl,ex,_,_,_,_,_,rfl,d,j,rfl,k5,_,rfl,ex,_,_,_,_,_,rfl,d,j,rfl,c9,_,rfl,ex,_,_,_,_,_,rfl,d,j,rfl,d0,_,rfl,ex,_,_,_,_,_,rfl,d,j,rfl,d1,(by show 4<=X2;decide),λ D a8=>?_⟩
 have U:=Al a8 (.lst [.bl false,.bl false,.bl false,.bl false]);have a9:(upd a7 D (.lst [.bl false,.bl false,.bl false,.bl false])) D=some (.lst [.bl false,.bl false,.bl false,.bl false]):=Aj;have d:=d.same U;have u:=U _ _ u;have t2:=S.trans U;generalize upd a7 D (.lst [.bl false,.bl false,.bl false,.bl false])=b0 at t2 u a9 d ⊢;refine ⟨B,D,_,_,rfl,rfl,u,a9,(by show 8<=X2;decide),λ F b1=>?_⟩
 have b2:=Al b1 (.lst ([V.bl false,.bl false,.bl true,.bl false]++[.bl false,.bl false,.bl false,.bl false]));have y:(upd b0 F (.lst ([V.bl false,.bl false,.bl true,.bl false]++[.bl false,.bl false,.bl false,.bl false]))) F=some (.lst ([V.bl false,.bl false,.bl true,.bl false]++[.bl false,.bl false,.bl false,.bl false])):=Aj;have d:=d.same b2;have t3:=t2.trans b2;generalize upd b0 F (.lst ([V.bl false,.bl false,.bl true,.bl false]++[.bl false,.bl false,.bl false,.bl false]))=b3 at t3 y d ⊢;refine ⟨_,rfl,_,rfl,ex,_,_,_,_,_,rfl,d,j,rfl,d2,_,rfl,ex,_,_,_,_,_,rfl,d,j,rfl,a5,(by show 2<=X2;decide),λ G b4=>?_⟩
 have Y:=Al b4 (.lst [.bl b,.bl (!b)]);have b5:(upd b3 G (.lst [.bl b,.bl (!b)])) G=some (.lst [.bl b,.bl (!b)]):=Aj;have d:=d.same Y;have y:=Y _ _ y;have b6:=t3.trans Y;generalize upd b3 G (.lst [.bl b,.bl (!b)])=Z at b6 y b5 d ⊢;refine ⟨F,G,_,_,rfl,rfl,y,b5,(by show 10<=X2;decide),λ m b7=>?_⟩
 have b8:=Al b7 (.lst ((Ed b).map V.bl));have o:(upd Z m (.lst ((Ed b).map V.bl))) m=some (.lst ((Ed b).map V.bl)):=Aj;have d:=d.same b8;have b9:=b6.trans b8
 change (λ I=>_) (upd Z m (.lst ((Ed b).map V.bl)))
 generalize upd Z m (.lst ((Ed b).map V.bl))=I at b9 o d ⊢;dsimp only
 refine ⟨(by show 10<=X2;decide),λ r c2=>?_⟩
 have a0:=Al c2 (.lst (kw70.map V.str));have a1:(upd I r (.lst (kw70.map V.str))) r=some (.lst (kw70.map V.str)):=Aj;have d:=d.same a0;have o:=a0 _ _ o;have c3:=b9.trans a0
 change (λ c4=>_) (upd I r (.lst (kw70.map V.str)))
 generalize upd I r (.lst (kw70.map V.str))=c4 at c3 o a1 d ⊢;dsimp only
 refine ⟨_,rfl,_,rfl,r,m,rfl,⟨_,SqL.of a1⟩,⟨_,SqL.of o⟩,?_⟩;refine gf (K:=K) (a:=r) (b:=m) (xs:=kw70.map V.str) (zs:=(Ed b).map V.bl) (λ i J L M=>∃c0 c1,J=[c0,c1]/\L=Eb b i/\Same c4 M) (by show 10<=10;decide) ⟨_,_,rfl,rfl,Same.refl _⟩ ?_ ?_ ?_
 ·rintro i J L M a2 ⟨c0,c1,rfl,rfl,s'⟩
  exact ⟨JA (small1000 (by have:=gm b i;omega)),SqL.of (s' _ _ a1),SqL.of (s' _ _ o),d.same s'⟩
 ·rintro i x d4 J L M p a2 c5 ⟨c0,c1,rfl,rfl,s'⟩ a3
  rw [YA] at a2 c5;obtain ⟨O,k,rfl⟩:=UK.mp a2;obtain ⟨t,ht,rfl⟩:=UK.mp c5;have N:=s'.trans (Al a3 (.tup [.str O,.bl t]));have c6:=eQ k ht;have z:i < (kw70.map V.str).length:=by rw [Y6];exact Cg k
  refine ⟨p,_,rfl,SqT.of Aj,rfl,d.same N,_,_,rfl,_,_,rfl,rfl,?_⟩;have c7:Fi (O,t)=true->Eb b (i+1)=Eb b i++[.str O]:=λ e=>by rw [c6,if_pos e]
  have R:Fi (O,t)=false->Eb b (i+1)=Eb b i:=λ e=>by rw [c6,e];simp
  refine ⟨_,rfl,_,rfl,?_⟩;cases t with
  | true=>
   refine iteT ?_;refine ⟨_,rfl,rfl,_,rfl,?_⟩;by_cases hv:O=Y1 "value"
   ·refine BX (by rw [Bq,decide_eq_true hv];rfl) ?_
    refine ⟨_,rfl,rfl,_,rfl,Bu (by rw [Bq];exact decide_eq_true hv) ?_⟩
    exact ⟨_,rfl,_,rfl,iteF (nx z ⟨_,_,rfl,(R (by unfold Fi;rw [decide_eq_true hv];rfl)).symm,N⟩)⟩
   ·refine Bu (by rw [Bq,decide_eq_false hv];rfl) (iteT ⟨_,rfl,nx z ⟨_,_,rfl,(c7 (by unfold Fi;rw [decide_eq_false hv];rfl)).symm,N⟩⟩)
  | false=>
   refine iteF (iteF ?_);have hv:¬ O=Y1 "value":=λ e=>by
    subst e;cases cg k ht
   exact ⟨_,rfl,rfl,_,rfl,BX (by rw [Bq];exact decide_eq_false hv) (iteF (nx z ⟨_,_,rfl,(R rfl).symm,N⟩))⟩
 ·rintro J L M p ⟨c0,c1,rfl,rfl,s'⟩ a3
  refine q p _ (c3.trans (s'.trans (Al a3 _))) ?_;rw [Aj];exact congrArg (λ l=>some (HO.lst l)) (pF b)
theorem dw (T:Txt K mg ad)(t:w.params=ad.pr):CalB P w K mg base true 18 "_law_class" ["_law_desk","_law_row_here"] (gB K ad.Desk):=by
 refine T.Nk.calN Mz (λ _ _ _ _ _ _=>CJ λ _ _=>rfl) (λ vs H Q E h=>?_) (λ f cdv A outer s H vs Q E u h=>?_)
 ·obtain ⟨_,_,_,_,_,_,_,_,rfl,_⟩:=h;rfl
 obtain ⟨o,dx,d,q,v,F,n,G,rfl,b,z,k⟩:=h;refine ⟨_,(Ae (Aq (i:=2) Mz.nd Hh) (Ae (gA (i:=3) (v5 (k:=16) (pv 0) u.m (Ad (pv 1) Aa)) rfl rfl T.ex.m_BenchError (λ a=>(Ah (Aq (i:=2) Mz.nd (pC (ex:=a) rfl (vN T) (u.m.mark _) Aw (Ad (pv 3) Aa))))) Mz.nd rfl rfl) (Ah (Av (pv 2))))),?_⟩
 rcases z with ⟨B,rfl⟩ | ⟨x,rfl,y,sx,rfl⟩
 ·refine ⟨_,rfl,o,_,dx,_,_,_,rfl,b.o,rfl,uH T t,_,rfl,o,dx,d,q,v,F,n,rfl,b,B,λ C e=>?_⟩
  exact ⟨_,rfl,T.ex.x_NoRow_BenchError,λ a D g j=>⟨_,rfl,_,_,rfl,.inl ⟨j,rfl⟩,λ l p r hl=>⟨_,rfl,k l p ((e.trans g).trans r) hl⟩⟩⟩
 ·refine ⟨_,rfl,o,_,dx,_,_,_,rfl,b.o,rfl,lA T t,_,rfl,o,dx,d,q,x,F,n,rfl,b,y,sx,λ C e=>?_⟩
  exact ⟨_,rfl,T.ex.x_Unknown_BenchError,λ a D g j=>⟨_,rfl,_,_,rfl,.inr ⟨j,rfl⟩,λ l p r hl=>⟨_,rfl,k l p ((e.trans g).trans r) hl⟩⟩⟩
end
end K70
namespace K70
open PySem L2 Lib Fr Op Tx PySem.NumText
seal PE PT PW PA PS PSs PG PGs PI PO Bo PJ
section
variable {P:Yg}{w:World}{K:FrG}{mg:Y2->Option Value}{base:Heap}{ad:Adr}{c:Bool}
def W170:List Y2:=[Ac "",Ac " ",Ac "bench",Ac "bench N",Ac "show",Ac "show N 1",Ac "show  N",Ac " show N",Ac "shows N",Ac "Show N",Ac "show N ",Ac "N"]
def W270:List Y2:=[Ac "walk N",Ac "walk N 1",Ac "walk N 1 2 3",Ac "table",Ac "table N N",Ac "apart",Ac "apart N 1",Ac "image N"]
def W370:List Y2:=[Ac "image N 1 2",Ac "field N 0 1 0",Ac "field N 0 1 0 1 2",Ac "rounds",Ac "sharp N 0 1 0 1",Ac "image 1"]
def W470:List Y2:=[Ac "join W N",Ac "turn N",Ac "join W N N N",Ac "turn W N 1",Ac "names",Ac "walk N  1 2",Ac "bench  gap 1"]
def W570:List Y2:=[Ac "rounds N N",Ac "sharp N 0 1 0 1 2 3",Ac "show\tN",Ac "show N\n",Ac "rounds\tN"]
def W670:List Y2:=[Ac "drop N",Ac "walk\nN",Ac "join",Ac "turn",Ac "bench W",Ac "field N",Ac "sharp N",Ac "image",Ac "walk"]
theorem jY (T:Txt K mg ad):CalB P w K mg base true 1 "_law_words" [] gO:=by
 refine T.TF.calN HW (λ _ _ _ _ _ _ us b8=>by cases us with | nil=>rfl | cons _ _=>cases b8) (λ vs H Q E h=>?_) (λ f cdv A outer s H vs Q E d2 h=>?_)
 ·obtain ⟨rfl,_⟩:=h;rfl
 obtain ⟨rfl,k⟩:=h;refine ⟨_,(Ae (Aq (i:=0) HW.nd (Bl (Ag Af (Ag Af (Ag Af (Ag Af (Ag Af (Ag Af (Ag Af (Ag Af (Ag Af (Ag Af (Ag Af (Ag Af Aa)))))))))))))) (Ae (Aq (i:=0) HW.nd (Ak DN (pv 0) (Bl (Ag Af (Ag Af (Ag Af (Ag Af (Ag Af (Ag Af (Ag Af (Ag Af Aa))))))))))) (Ae (Aq (i:=0) HW.nd (Ak DN (pv 0) (Bl (Ag Af (Ag Af (Ag Af (Ag Af (Ag Af (Ag Af Aa))))))))) (Ae (Aq (i:=0) HW.nd (Ak DN (pv 0) (Bl (Ag Af (Ag Af (Ag Af (Ag Af (Ag Af (Ag Af (Ag Af Aa)))))))))) (Ae (Aq (i:=0) HW.nd (Ak DN (pv 0) (Bl (Ag Af (Ag Af (Ag Af (Ag Af (Ag Af Aa)))))))) (Ah (Av (Ak DN (pv 0) (Bl (Ag Af (Ag Af (Ag Af (Ag Af (Ag Af (Ag Af (Ag Af (Ag Af (Ag Af Aa)))))))))))))))))),?_⟩;refine ⟨(by show 12<=X2;decide),λ t C=>?_⟩
 generalize e1:upd H t (HO.lst _)=b;have b9:Same H b:=e1▸Al C _;have c0:b t=some (.lst (W170.map V.str)):=by rw [<- e1];exact Aj
 refine ⟨_,rfl,(by show 8<=X2;decide),λ u D=>?_⟩
 generalize e2:upd b u (HO.lst _)=d;have F:Same b d:=e2▸Al D _;have c1:d u=some (.lst (W270.map V.str)):=by rw [<- e2];exact Aj
 have c2:=F _ _ c0;have t2:=b9.trans F;refine ⟨t,u,_,_,rfl,rfl,c2,c1,(by show 20<=X2;decide),λ e G=>?_⟩
 have I:=Al G (.lst (W170.map V.str++W270.map V.str));have J:upd d e (.lst (W170.map V.str++W270.map V.str)) e=some (.lst (W170.map V.str++W270.map V.str)):=Aj;have t3:=t2.trans I;generalize upd d e (.lst (W170.map V.str++W270.map V.str))=L at I J t3 ⊢;refine ⟨_,rfl,(by show 6<=X2;decide),λ v M=>?_⟩
 generalize N:upd L v (HO.lst _)=g;have O:Same L g:=N▸Al M _;have c3:g v=some (.lst (W370.map V.str)):=by rw [<- N];exact Aj
 have c4:=O _ _ J;have c5:=t3.trans O;refine ⟨e,v,_,_,rfl,rfl,c4,c3,(by show 26<=X2;decide),λ j R=>?_⟩
 have S:=Al R (.lst (W170.map V.str++W270.map V.str++W370.map V.str));have U:upd g j (.lst (W170.map V.str++W270.map V.str++W370.map V.str)) j=some (.lst (W170.map V.str++W270.map V.str++W370.map V.str)):=Aj;have W:=c5.trans S;generalize upd g j (.lst (W170.map V.str++W270.map V.str++W370.map V.str))=X at S U W ⊢;refine ⟨_,rfl,(by show 7<=X2;decide),λ x Y=>?_⟩
 generalize Z:upd X x (HO.lst _)=l;have a0:Same X l:=Z▸Al Y _;have c6:l x=some (.lst (W470.map V.str)):=by rw [<- Z];exact Aj
 have c7:=a0 _ _ U;have c8:=W.trans a0;refine ⟨j,x,_,_,rfl,rfl,c7,c6,(by show 33<=X2;decide),λ m a1=>?_⟩
 have a2:=Al a1 (.lst (W170.map V.str++W270.map V.str++W370.map V.str++W470.map V.str));have a3:upd l m (.lst (W170.map V.str++W270.map V.str++W370.map V.str++W470.map V.str)) m=some (.lst (W170.map V.str++W270.map V.str++W370.map V.str++W470.map V.str)):=Aj;have a4:=c8.trans a2;generalize upd l m (.lst (W170.map V.str++W270.map V.str++W370.map V.str++W470.map V.str))=a5 at a2 a3 a4 ⊢;refine ⟨_,rfl,(by show 5<=X2;decide),λ y a6=>?_⟩
 generalize a7:upd a5 y (HO.lst _)=n;have a8:Same a5 n:=a7▸Al a6 _;have c9:n y=some (.lst (W570.map V.str)):=by rw [<- a7];exact Aj
 have d0:=a8 _ _ a3;have d1:=a4.trans a8;refine ⟨m,y,_,_,rfl,rfl,d0,c9,(by show 38<=X2;decide),λ o a9=>?_⟩
 have b0:=Al a9 (.lst (W170.map V.str++W270.map V.str++W370.map V.str++W470.map V.str++W570.map V.str));have b1:upd n o (.lst (W170.map V.str++W270.map V.str++W370.map V.str++W470.map V.str++W570.map V.str)) o=some (.lst (W170.map V.str++W270.map V.str++W370.map V.str++W470.map V.str++W570.map V.str)):=Aj;have b2:=d1.trans b0;generalize upd n o (.lst (W170.map V.str++W270.map V.str++W370.map V.str++W470.map V.str++W570.map V.str))=b3 at b0 b1 b2 ⊢;refine ⟨_,rfl,(by show 9<=X2;decide),λ a z=>?_⟩
 generalize p:upd b3 a (HO.lst _)=q;have r:Same b3 q:=p▸Al z _;have b4:q a=some (.lst (W670.map V.str)):=by rw [<- p];exact Aj
 have b5:=r _ _ b1;have b6:=b2.trans r;refine ⟨o,a,_,_,rfl,rfl,b5,b4,(by show 47<=X2;decide),λ b7 B=>?_⟩
 exact k b7 _ (b6.trans (Al B _)) Aj
theorem Gm {zs:List Y2}{i:Int}(a:0<=i)(b:i < (zs.length:Int)):∃x,x∈zs/\atI (zs.map V.str) i=some (.str x):=by
 have hl:i.toNat < zs.length:=by omega
 refine ⟨zs[i.toNat],List.getElem_mem hl,?_⟩;have e:((i.toNat:Nat):Int)=i:=by omega
 have:=Bb (xs:=zs.map V.str) (j:=i.toNat) (v:=.str zs[i.toNat]) (by rw [YA,XU hl];rfl)
 rw [e] at this;exact this
theorem jq:∀b∈someL,(Y1 "B" == b)=false/\b.length<=20:=by decide+kernel
def S1370:List Y2:=[Ac "01",Ac "+1",Ac "-0",Ac "1/1",Ac "2/4",Ac "1/0",Ac "1.5",Ac "a",zU (Ac "1") 16,Ac "--1",Ac "1/-2",Ac "1_0",Ac "/2"]
theorem jk (T:Txt K mg ad)(N:∀h:Heap,K.In h->xE h):CalB P w K mg base true 1 "_law_numbers_bad" ["_law_cell"] iJ:=by
 refine T.QG.calN MF (λ _ _ _ _ _ _=>Bk λ _=>rfl) (λ vs H Q E h=>?_) (λ f cdv A outer s H vs Q E b9 h=>?_)
 ·obtain ⟨_,rfl,_⟩:=h;rfl
 obtain ⟨O,rfl,k⟩:=h;refine ⟨_,(Ae (Aq (i:=1) MF.nd (Bl (Ag Af (Ag Af (Ag Af (Ag Af (Ag Af (Ag Af (Ag Af (Ag Af (Bw (Ak Ku Af Ab) (Ag Af (Ag Af (Ag Af (Ag Af Aa))))))))))))))) (Ae (DP (Br WJ WX WZ Ez (pv 1) (Bw (Ak Dk Af (Ak Ku Af Ab)) Aa))) (Ae (Aq (i:=2) MF.nd (Bl (Ag Af (Ag Af (Ag Af (Ag Af (Ag Af (Ag Af Aa)))))))) (Ae (Vt (i:=2) MF.nd rfl (by walk_at "o") ["_law_row_here","_law_some","_law_cell"] [none,some 1,some 0] rfl (Dv (pv 2)) (λ _ _ _ _ _ _=>(CG (i:=0) (show zh [("_law_row_here":Str),("_law_some":Str),("_law_cell":Str)] by decide))) (λ _ _ _ _ _ _=>Em) (λ _ _ _ _ _ _=>(LQ (K:=K) Yf Ql Qr (Gy N) (pv 0) (Ag Af (BR (Ai (jK (K:=K)) (pv 1) (Ak CT (pv 2) Ab)) Aa)))) (QF (hcell:=by decide) (hf:=(show ∀a7:Str×Qv,a7∈_->a7.2=ym->(defScope Ko).names.lookup a7.1=some wX by decide))) (by decide) rfl (by decide) rfl (λ i j h=>by
   rcases i with _ | _ | _ | i
   ·simp at h
   ·simp at h;subst h;exact ⟨_,rfl,rfl,rfl,rfl⟩
   ·simp at h;subst h;exact ⟨_,rfl,rfl,rfl,rfl⟩
   ·simp at h)) (Ah (Av (Ak DN (pv 2) (Bl (Ag Af (Ag Af (Ag Af Aa))))))))))),?_⟩
 have R:∀x:Y2,x.length=1->MulOk x 16:=λ x m=>by
  refine ⟨by decide,λ _ _=>by rw [m];decide,λ _ _=>?_⟩
  rw [m];unfold wa X2
  decide
 have I:(Y1 "1/").length+(zU (Y1 "3") 16).length=18:=by decide+kernel
 refine ⟨_,_,rfl,rfl,R _ (by decide+kernel),(by show 13<=X2;decide),λ g C=>?_⟩
 generalize e1:upd H g (HO.lst _)=J;have a8:Same H J:=e1▸Al C _;have S:J g=some (.lst (S1370.map V.str)):=by rw [<- e1];exact Aj
 refine ⟨_,rfl,.inl ⟨rfl,_,SqL.of S⟩,_,_,rfl,rfl,R _ (by decide+kernel),_,_,rfl,rfl,(by rw [I];decide),g,_,_,rfl,rfl,S,(by show 13 < X2;decide),?_⟩
 generalize e2:upd J g (HO.lst _)=u;have a9:Same H u:=λ b o e=>by rw [<- e2,Ax (BZ e C)];exact a8 _ _ e
 have b0:u g=some (.lst (someL.map V.str)):=by rw [<- e2];exact Aj
 refine ⟨(by show 6<=X2;decide),λ v U=>?_⟩
 generalize W:upd u v (HO.lst _)=y;have X:Same u y:=W▸Al U _;have Y:y v=some (.lst (numsL.map V.str)):=by rw [<- W];exact Aj
 have b1:=X _ _ b0;have t3:=a9.trans X;refine ⟨_,rfl,v,rfl,⟨_,SqL.of Y⟩,?_⟩;refine HH (K:=K) (a:=v) (xs:=numsL.map V.str) (λ i n q l=>∃c0 d,n=[c0,some (.ref g),some (.int O)]/\Same y l/\q=yh V.str d/\d.length=i/\∀t∈d,Tm t) ⟨_,[],rfl,Same.refl _,rfl,rfl,λ _ h=>by cases h⟩ ?_ ?_ ?_
 ·rintro i n q l z ⟨c0,d,rfl,s',rfl,r,_⟩
  rw [Y6];exact ⟨U2 (show d.length<=6 by rw [r];exact z) (by decide),SqL.of (s' _ _ Y)⟩
 ·rintro i a7 n q l z ⟨c0,d,rfl,s',rfl,r,L⟩
  rw [YA] at z;obtain ⟨t,ht,rfl⟩:=UK.mp z;have mt:t∈numsL:=Xb ht;have Z:=Cg ht;obtain ⟨b,a0,hb⟩:=Gm (zs:=someL) (i:=O % 14) (by omega) (by show O % 14 < 14;omega)
  have lb:=(jq b a0).2;have b8:=(Ym t mt).2;have D:∀t',Tm t'->Nx (yh V.str numsL).length (λ i n q l=>∃c0 d,n=[c0,some (V.ref g),some (V.int O)]/\Same y l/\q=yh V.str d/\d.length=i/\∀t∈d,Tm t) i [some (V.str t),some (V.ref g),some (V.int O)] (yh V.str d++[.str t']) l:=λ t' h'=>nx (by rw [Y6];exact Z) ⟨_,d++[t'],rfl,s',by rw [YP];rfl,by rw [ZA,r];rfl,λ x m=>by
   rcases XA.mp m with m | m
   ·exact L x m
   ·rw [Zu.mp m];exact h'⟩
  exact ⟨_,rfl,rfl,_,rfl,_,rfl,_,_,rfl,rfl,(by show (0:Int) < 14;decide),g,_,_,.str b,rfl,rfl,SqL.of (s' _ _ b1),hb,t,_,_,rfl,rfl,(by have:=QO (show t.length+1<=101 by omega) lb;omega),D _ (pA t mt b a0),D _ (Ym t mt)⟩
 ·rintro n q l p ⟨c0,d,rfl,s',rfl,r,L⟩ b2
  generalize a1:upd l p (HO.lst _)=B;have b3:Same l B:=a1▸Al b2 _;have b4:B p=some (.lst (d.map V.str)):=by rw [<- a1];exact Aj
  have b5:=(t3.trans s').trans b3;refine ⟨_,rfl,(by show 3<=X2;decide),λ M a2=>?_⟩
  generalize a3:upd B M (HO.lst _)=a4;have a5:Same B a4:=a3▸Al a2 _;have b6:a4 M=some (.lst (mostL.map V.str)):=by rw [<- a3];exact Aj
  have G:d.length=6:=r;refine ⟨p,M,_,_,rfl,rfl,a5 _ _ b4,b6,(by rw [Y6,Y6,G];decide),λ b7 a6=>?_⟩
  refine k b7 (d++mostL) _ ((b5.trans a5).trans (Al a6 _)) ?_ (by rw [ZA,G];rfl) λ t ht=>?_
  ·rw [Aj,YP]
  ·rcases XA.mp ht with h | h
   ·exact L t h
   ·exact mU t h
def N170:List Y2:=[Ac "bench B gap 1",Ac "show B",Ac "join B N N",Ac "rounds B",Ac "join W B N",Ac "join W N B",Ac "turn B N",Ac "turn W B"]
def N270:List Y2:=[Ac "walk B 1 2",Ac "image B 1",Ac "bench B oops",Ac "table B",Ac "apart B",Ac "field B 0 1 0 1"]
theorem eV (T:Txt K mg ad)(v:∀h:Heap,K.In h->xE h):CalB P w K mg base true 1 "_law_names_bad" ["_law_cell","_law_name"] lq:=by
 refine T.Sd.calN Kl (λ _ _ _ _ _ _=>CJ λ _ _=>rfl) (λ vs H Q E h=>?_) (λ f cdv A outer s H vs Q E e7 h=>?_)
 ·obtain ⟨_,_,rfl,_⟩:=h;rfl
 obtain ⟨e6,x,rfl,y,a0,k⟩:=h;refine ⟨_,(Ae (Aq (i:=2) Kl.nd (Ai Ay (Bl (Bg (ur Yf PySem.F.slot_str_upper PySem.F.type_str_upper qI (pv 1)) (Bw (Ak Dk (pv 1) Af) (Ag Af (Ag Af (Ag Af (Bw (Ak Dk (Di HD (pv 1) Ej (Cy Ab)) Af) Aa))))))) (Ak CT (pv 0) Ab))) (Ae (Aq (i:=3) Kl.nd (Bl (Ag Af (Ag Af (Ag Af (Ag Af (Ag Af (Ag Af (Ag Af (Ag Af Aa)))))))))) (Ae (Aq (i:=3) Kl.nd (Ak DN (pv 3) (Bl (Ag Af (Ag Af (Ag Af (Ag Af (Ag Af (Ag Af Aa))))))))) (Ae (DP (Br WJ WX WZ Ez (pv 3) (Ag Af Aa))) (Ah (Av (bY ["_law_row_here","_law_bad","_law_name"] [none,some 2,some 1] rfl (Dv (pv 3)) (λ _ _ _ _ _ _=>(CG (i:=0) (show zh [("_law_row_here":Str),("_law_bad":Str),("_law_name":Str)] by decide))) (λ _ _ _ _ _ _=>Em) (λ _ _ _ _ _ _=>(LQ (K:=K) Yf Ql Qr (Gy v) (LQ (K:=K) Yf Ql Qr (Gy v) (LQ (K:=K) Yf Ql Qr (Gy v) (pv 0) (Ag Af (Ad (pv 2) Aa))) (Ag Af (Ag Af Aa))) (Ag Af (Ad (pv 1) Aa)))) (QF (hcell:=by decide) (hf:=(show ∀d3:Str×Qv,d3∈_->d3.2=ym->(defScope Kq).names.lookup d3.1=some wX by decide))) (by decide) rfl (by decide) rfl (λ i j h=>by
   rcases i with _ | _ | _ | i
   ·simp at h
   ·simp at h;subst h;exact ⟨_,rfl,rfl,rfl,rfl⟩
   ·simp at h;subst h;exact ⟨_,rfl,rfl,rfl,rfl⟩
   ·simp at h)))))))),?_⟩
 have e8:=y.len;have d4:wa (zg x).length=false:=by
  have:=a0.len;have e:(2:Nat) ^ 24=16777216:=by decide
  unfold wa X2;exact decide_eq_false (by omega)
 have O:∀n:Nat,n<=20->n<=X2:=λ n h=>U2 h (by decide)
 have a1:(Y1 "1").length=1:=by decide+kernel
 have a2:(Y1 "\n").length=1:=by decide+kernel
 have e9:=xp x none (some 1);refine ⟨_,rfl,rfl,x,rfl,rfl,d4,?_⟩;refine ⟨_,rfl,_,_,rfl,rfl,(O _ (by rw [a1];omega)),?_⟩
 refine ⟨_,rfl,_,rfl,x,rfl,(O _ (by omega)),_,_,rfl,rfl,(O _ (by rw [a2];omega)),(by show 6<=X2;decide),λ R a3=>?_⟩
 generalize e1:upd H R (HO.lst _)=G;have a4:Same H G:=e1▸Al a3 _;have d5:G R=some (.lst ((KZ x).map V.str)):=by rw [<- e1];exact Aj
 obtain ⟨b,d6,hb⟩:=Gm (zs:=KZ x) (i:=e6 % 6) (by omega) (by show e6 % 6 < 6;omega)
 obtain ⟨bn,a5,z⟩:=kJ y a0 b d6;refine ⟨_,rfl,_,_,rfl,rfl,(by show (0:Int) < 6;decide),R,_,_,.str b,rfl,rfl,SqL.of d5,hb,?_⟩
 refine ⟨(by show 8<=X2;decide),λ S a6=>?_⟩
 generalize e2:upd G S (HO.lst _)=I;have a7:Same G I:=e2▸Al a6 _;have d7:I S=some (.lst (N170.map V.str)):=by rw [<- e2];exact Aj
 refine ⟨_,rfl,(by show 6<=X2;decide),λ U a8=>?_⟩
 generalize a9:upd I U (HO.lst _)=J;have W:Same I J:=a9▸Al a8 _;have d8:J U=some (.lst (N270.map V.str)):=by rw [<- a9];exact Aj
 refine ⟨S,U,_,_,rfl,rfl,W _ _ d7,d8,(by show 14<=X2;decide),λ l N=>?_⟩
 generalize b0:upd J l (HO.lst _)=X;have d9:Same J X:=b0▸Al N _;have b3:X l=some (.lst (N170.map V.str++N270.map V.str)):=by rw [<- b0];exact Aj
 have e0:=((a4.trans a7).trans W).trans d9;have Y:H l=none:=by
  cases e:H l with
  | none=>rfl
  | some o=>have:=((a4.trans a7).trans W) _ _ e;rw [N] at this;cases this
 refine ⟨_,rfl,.inl ⟨rfl,_,SqL.of b3⟩,l,_,_,rfl,rfl,b3,(by show 14 < X2;decide),?_⟩
 generalize b4:upd X l (HO.lst _)=L;have e3:Same H L:=λ a o e=>by rw [<- b4,Ax (BZ e Y)];exact e0 _ _ e
 have b5:L l=some (.lst (namesL.map V.str)):=by rw [<- b4];exact Aj
 refine ⟨_,rfl,l,rfl,⟨_,SqL.of b5⟩,?_⟩;refine HH (K:=K) (a:=l) (xs:=namesL.map V.str) (λ i r u q=>∃c0 d,r=[c0,some (.str b),some (.str x)]/\Same L q/\u=yh V.str d/\d.length=i/\∀t∈d,Dm t) ⟨_,[],rfl,Same.refl _,rfl,rfl,λ _ h=>by cases h⟩ ?_ ?_ ?_
 ·rintro i r u q M ⟨c0,d,rfl,s',rfl,B,_⟩
  rw [Y6];exact ⟨U2 (show d.length<=15 by rw [B];exact M) (by decide),SqL.of (s' _ _ b5)⟩
 ·rintro i d3 r u q M ⟨c0,d,rfl,s',rfl,B,Z⟩
  rw [YA] at M;obtain ⟨t,ht,rfl⟩:=UK.mp M;have mt:t∈namesL:=Xb ht;have b6:=Cg ht;have C:=lV (fj t mt) y bn a5 z;have g:∀t',Dm t'->Nx (yh V.str namesL).length (λ i r u q=>∃c0 d,r=[c0,some (.str b),some (.str x)]/\Same L q/\u=yh V.str d/\d.length=i/\∀t∈d,Dm t) i [some (V.str t),some (.str b),some (.str x)] (yh V.str d++[.str t']) q:=λ t' h'=>nx (by rw [Y6];exact b6) ⟨_,d++[t'],rfl,s',by rw [YP];rfl,by rw [ZA,B];rfl,λ x D=>by
   rcases XA.mp D with D | D
   ·exact Z x D
   ·rw [Zu.mp D];exact h'⟩
  have sz:∀{n m:Nat},n<=800->m<=9->n+(n+1) * m<=16777216:=λ {n m} f0 e4=>by
   have:=QO (show n+1<=801 by omega) e4
   omega
  have b7:(Y1 "w").length<=9:=by decide+kernel
  obtain ⟨b8,b9⟩:=C t (ZU ..);obtain ⟨b1,b2⟩:=C _ (Ya _ (ZU ..));obtain ⟨c1,c2,c3⟩:=b9 _ (ZU ..);obtain ⟨c4,c5,c6⟩:=b9 _ (Ya _ (ZU ..));obtain ⟨c7,c8,c9⟩:=b2 _ (ZU ..);obtain ⟨d0,d1,d2⟩:=b2 _ (Ya _ (ZU ..));exact ⟨_,rfl,rfl,_,rfl,t,_,_,rfl,rfl,sz b8 (by omega),
   ⟨rfl,_,_,_,rfl,rfl,sz b1 b7,⟨rfl,_,rfl,_,_,_,rfl,rfl,sz d0 z,g _ d2,g _ d1⟩,⟨rfl,_,rfl,_,_,_,rfl,rfl,sz c7 z,g _ c9,g _ c8⟩⟩,
   ⟨rfl,_,_,_,rfl,rfl,sz b8 b7,⟨rfl,_,rfl,_,_,_,rfl,rfl,sz c4 z,g _ c6,g _ c5⟩,⟨rfl,_,rfl,_,_,_,rfl,rfl,sz c1 z,g _ c3,g _ c2⟩⟩⟩
 ·rintro r u q p ⟨c0,d,rfl,s',rfl,B,Z⟩ e5
  exact k p d _ ((e3.trans s').trans (Al e5 _)) Aj B Z
theorem j0 (T:Txt K mg ad)(g:∀h:Heap,K.In h->xE h):CalB P w K mg base true 2 "_law_row" ["_law_cell","_law_name","_law_new"] (vU K):=by
 have b6:=eV (P:=P) (w:=w) (base:=base) T g;have b7:=jk (P:=P) (w:=w) (base:=base) T g;refine T.Py.calN G8 (λ _ _ _ _ _ _=>I9 λ _ _ _=>rfl) (λ vs H Q E h=>?_) (λ f cdv A outer s H vs Q E S h=>?_)
 ·obtain ⟨_,_,_,rfl,_⟩:=h;rfl
 obtain ⟨r,x,a2,rfl,z0,u,b8,y,k⟩:=h;refine ⟨_,(Ae (Aq (i:=3) G8.nd (Bl (Ag Ab (Ag Hh (Ag Dd (mH (Bl (Ag Af (Ad (pv 1) Aa))) (Ik (De (Ag Af (Ad (pv 1) Aa))) Aa))))))) (Ae (Az (BL Bj (Ak CT (pv 0) Ab) Ab) (Ah (Av (Ai Ay (pv 3) (Ak CT (Ak Du (pv 0) Ab) Ab)))) BJ) (Ae (Az (BL Bj (Ak CT (pv 0) Ab) Ab) (Ae (Aq (i:=4) G8.nd (Ao b6 S.m Aw (Bw (Ak Du (pv 0) Ab) (Ad (pv 1) Aa)))) (Ah (Av (Ai Ay (pv 4) (Ak CT (Ak Du (pv 0) Ab) (BV CV rfl T.len CK (Ad (pv 4) Aa))))))) BJ) (Ae (Aq (i:=4) G8.nd (pI (jY T) S.m Aw)) (Ae (Aq (i:=5) G8.nd (pv 1)) (Ae (Az (BL Bj (Ak CT (pv 0) Ab) Ab) (Ae (Aq (i:=4) G8.nd (Ao b7 S.m Aw (Bw (Ak Du (pv 0) Ab) Aa))) (Ah (Aq (i:=5) G8.nd (Ai Ay (Bl (Ad (pv 1) (Ad (pv 2) Aa))) (Ak CT (Ak Du (pv 0) Ab) Ab))))) BJ) (Ah (Av (Br Yf Ql Qr (Gy g) (Br Yf Ql Qr (Gy g) (Ai Ay (pv 4) (Ak CT (Ak Du (pv 0) Ab) (BV CV rfl T.len CK (Ad (pv 4) Aa)))) (Ag Af (Ad (pv 5) Aa))) (Ag Af (Ad (pv 2) Aa))))))))))),?_⟩
 refine ⟨_,rfl,(by show 2<=X2;decide),λ z a3=>?_⟩
 generalize a4:upd H z (HO.lst _)=N;have b9:Same H N:=a4▸Al a3 _;have c0:N z=some (.lst [.str (Ac "show"),.str x]):=by rw [<- a4];exact Aj
 refine ⟨_,rfl,(by show 2<=X2;decide),λ pb a5=>?_⟩
 generalize a6:upd N pb (HO.tup _)=O;have a7:Same N O:=a6▸Al a5 _;have lb:O pb=some (.tup [.str (Ac "show"),.str x]):=by rw [<- a6];exact Aj
 refine ⟨(by show 5<=X2;decide),λ U a8=>?_⟩
 generalize e1:upd O U (HO.lst _)=o;have W:Same O o:=e1▸Al a8 _;have c1:o U=some (.lst [.int 5,.non,.bl true,.ref z,.ref pb]):=by rw [<- e1];exact Aj
 have t1:=(b9.trans a7).trans W;have a9:DV K o (.ref z) (.list [.str (Ac "show"),.str x]):=.lst (SqL.of (W _ _ (a7 _ _ c0))) (.cons (.str _) (.cons (.str _) .nil));have b0:DV K o (.ref pb) (.tuple [.str (Ac "show"),.str x]):=.tup (SqT.of (W _ _ lb)) (.cons (.str _) (.cons (.str _) .nil));have _at48:∀{n:Nat},0 < n->∃m:Int,r / 48 % (n:Int)=m/\0<=m/\m < (n:Int):=λ {n} h=>⟨_,rfl,Qy _ (by omega),Jl _ (by omega)⟩
 refine ⟨_,rfl,_,_,rfl,rfl,(by show (0:Int) < 16;decide),rfl,_,rfl,ite2 (λ _=>?_) (λ _=>?_)⟩
 ·obtain ⟨v,hv,c2⟩:∃v,atI [V.int 5,.non,.bl true,.ref z,.ref pb] (r / 16 % 5)=some v/\Mw K o v:=by
   have hm:r / 16 % 5=0\/r / 16 % 5=1\/r / 16 % 5=2\/r / 16 % 5=3\/r / 16 % 5=4:=by omega
   rcases hm with e | e | e | e | e
   ·rw [e];exact ⟨_,Bb (j:=0) rfl,.inl ⟨_,.int 5,rfl⟩⟩
   ·rw [e];exact ⟨_,Bb (j:=1) rfl,.inl ⟨_,.non,rfl⟩⟩
   ·rw [e];exact ⟨_,Bb (j:=2) rfl,.inl ⟨_,.bl true,rfl⟩⟩
   ·rw [e];exact ⟨_,Bb (j:=3) rfl,.inl ⟨_,a9,rfl⟩⟩
   ·rw [e];exact ⟨_,Bb (j:=4) rfl,.inl ⟨_,b0,rfl⟩⟩
  exact ⟨_,rfl,_,rfl,_,_,rfl,rfl,⟨(by show (0:Int) < 16;decide),(by show (16:Int) < 1073741824;decide)⟩,_,_,rfl,rfl,(by show (0:Int) < 5;decide),U,_,_,v,rfl,rfl,SqL.of c1,hv,k v o t1 c2⟩
 ·refine ⟨_,rfl,_,_,rfl,rfl,(by show (0:Int) < 3;decide),rfl,_,rfl,ite2 (λ _=>?_) (λ _=>?_)⟩
  ·refine ⟨_,rfl,_,_,rfl,rfl,⟨(by show (0:Int) < 7;decide),(by show (7:Int) < 1073741824;decide)⟩,_,rfl,_,x,rfl,u,b8,λ l b c3 R hl X rt=>?_⟩
   obtain ⟨t,mt,d⟩:=Gm (zs:=b) (i:=r / 48 % ((b.map V.str).length:Int)) (Qy _ (by rw [Y6];omega)) (by rw [Y6];exact Jl _ (by omega))
   exact ⟨_,rfl,_,rfl,_,_,rfl,rfl,⟨(by show (0:Int) < 48;decide),(by show (48:Int) < 1073741824;decide)⟩,_,rfl,l,_,rfl,.inl (SqL.of hl),_,_,rfl,rfl,(by show (0:Int) < ((b.map V.str).length:Int);rw [Y6];omega),l,_,_,.str t,rfl,rfl,SqL.of hl,d,k _ _ (t1.trans R) (.inr ⟨t,rfl,(rt t mt).1,(rt t mt).2⟩)⟩
  ·refine ⟨rfl,λ l c3 R hl=>?_⟩
   refine ⟨_,rfl,?_⟩;refine ⟨_,rfl,_,_,rfl,rfl,(by show (0:Int) < 3;decide),rfl,_,rfl,ite2 (λ _=>?_) (λ _=>?_)⟩
   ·refine ⟨_,rfl,_,_,rfl,rfl,⟨(by show (0:Int) < 7;decide),(by show (7:Int) < 1073741824;decide)⟩,_,rfl,λ l b b1 c4 hl X p=>?_⟩
    refine ⟨_,rfl,_,rfl,(by show 2<=X2;decide),λ Y b2=>?_⟩
    generalize b3:upd b1 Y (HO.lst _)=b4;have b5:Same b1 b4:=b3▸Al b2 _;have c5:b4 Y=some (.lst ([x,a2].map V.str)):=by rw [<- b3];exact Aj
    obtain ⟨a,mc,c6⟩:=Gm (zs:=[x,a2]) (i:=r / 3 % 2) (by omega) (by show r / 3 % 2 < 2;omega)
    have q:Nm a:=by
     rcases ZT.mp mc with rfl | mc
     ·exact u
     ·rw [Zu.mp mc];exact y
    have hl:=b5 _ _ hl;have tt:=((t1.trans R).trans c4).trans b5;refine ⟨_,rfl,_,_,rfl,rfl,⟨(by show (0:Int) < 3;decide),(by show (3:Int) < 1073741824;decide)⟩,_,_,rfl,rfl,(by show (0:Int) < 2;decide),Y,_,_,.str a,rfl,rfl,SqL.of c5,c6,?_⟩
    obtain ⟨t,mt,d⟩:=Gm (zs:=b) (i:=r / 48 % ((b.map V.str).length:Int)) (Qy _ (by rw [Y6];omega)) (by rw [Y6];exact Jl _ (by omega))
    obtain ⟨B,C,D,G,I⟩:=VG (p t mt) q y;have Z:=(p t mt).2;have a0:=q.len;have J:=y.len;have a1:t.length+(t.length+1) * a.length<=16777216:=by have:=QO (show t.length+1<=101 by omega) a0;omega
    have L:t.length+(t.length+1) * a2.length<=16777216:=by have:=QO (show t.length+1<=101 by omega) J;omega
    have M:(XT t (Ac "N") a).length+((XT t (Ac "N") a).length+1) * a2.length<=16777216:=by have:=QO (show (XT t (Ac "N") a).length+1<=1001 from uS I) J;have:(XT t (Ac "N") a).length<=1000:=I;omega
    exact ⟨_,rfl,_,rfl,_,_,rfl,rfl,⟨(by show (0:Int) < 48;decide),(by show (48:Int) < 1073741824;decide)⟩,_,rfl,l,_,rfl,.inl (SqL.of hl),_,_,rfl,rfl,(by show (0:Int) < ((b.map V.str).length:Int);rw [Y6];omega),l,_,_,.str t,rfl,rfl,SqL.of hl,d,rfl,_,rfl,t,_,_,rfl,rfl,a1,
     ⟨rfl,_,rfl,_,_,_,rfl,rfl,M,k _ _ tt (.inr ⟨_,rfl,G.1,G.2⟩),k _ _ tt (.inr ⟨_,rfl,C.1,C.2⟩)⟩,
     ⟨rfl,_,rfl,_,_,_,rfl,rfl,L,k _ _ tt (.inr ⟨_,rfl,D.1,D.2⟩),k _ _ tt (.inr ⟨_,rfl,B.1,B.2⟩)⟩⟩
   ·have tt:=t1.trans R;have q:=u;have p:=cN;have X:wordsL.length=47:=by decide+kernel
    generalize wordsL=b at hl p X ⊢;generalize c7:x=a at q ⊢;obtain ⟨t,mt,d⟩:=Gm (zs:=b) (i:=r / 48 % ((b.map V.str).length:Int)) (Qy _ (by rw [Y6];omega)) (by rw [Y6];exact Jl _ (by omega))
    obtain ⟨B,C,D,G,I⟩:=VG (p t mt) q y;have Z:=(p t mt).2;have a0:=q.len;have J:=y.len;have a1:t.length+(t.length+1) * a.length<=16777216:=by have:=QO (show t.length+1<=101 by omega) a0;omega
    have L:t.length+(t.length+1) * a2.length<=16777216:=by have:=QO (show t.length+1<=101 by omega) J;omega
    have M:(XT t (Ac "N") a).length+((XT t (Ac "N") a).length+1) * a2.length<=16777216:=by have:=QO (show (XT t (Ac "N") a).length+1<=1001 from uS I) J;have:(XT t (Ac "N") a).length<=1000:=I;omega
    exact ⟨_,rfl,_,rfl,_,_,rfl,rfl,⟨(by show (0:Int) < 48;decide),(by show (48:Int) < 1073741824;decide)⟩,_,rfl,l,_,rfl,.inl (SqL.of hl),_,_,rfl,rfl,(by show (0:Int) < ((b.map V.str).length:Int);rw [Y6];omega),l,_,_,.str t,rfl,rfl,SqL.of hl,d,rfl,_,rfl,t,_,_,rfl,rfl,a1,
     ⟨rfl,_,rfl,_,_,_,rfl,rfl,M,k _ _ tt (.inr ⟨_,rfl,G.1,G.2⟩),k _ _ tt (.inr ⟨_,rfl,C.1,C.2⟩)⟩,
     ⟨rfl,_,rfl,_,_,_,rfl,rfl,L,k _ _ tt (.inr ⟨_,rfl,D.1,D.2⟩),k _ _ tt (.inr ⟨_,rfl,B.1,B.2⟩)⟩⟩
theorem gK (T:Txt K mg ad)(c8:w.params=ad.pr):CalB P w K mg base true 18 "_law_laid" ["_law_drawn_here","_law_number","_law_least"] (vJ K ad.Desk):=by
 refine T.RG.calN Il (λ _ _ _ _ _ _=>I9 λ _ _ _=>rfl) (λ vs H Q E h=>?_) (λ f cdv A outer s H vs Q E C h=>?_)
 ·obtain ⟨_,_,_,_,rfl,_⟩:=h;rfl
 obtain ⟨q,c,c7,p,rfl,a7,z0,a8,k⟩:=h;have d5:(Y1 "bench ").length=6:=by decide+kernel
 have d9:(Y1 " ").length=1:=by decide+kernel
 refine ⟨_,(Ae (Vt (i:=3) Il.nd rfl (by walk_at "o") ["_law_k","_law_number"] [none,some 1] rfl (JB rfl T.range (Ag Ab Aa)) (λ _ _ _ _ _ _=>(CG (i:=0) (show zh [("_law_k":Str),("_law_number":Str)] by decide))) (λ _ _ _ _ _ _=>Em) (λ _ _ _ _ _ _=>(Ao (fJ T) C.m Aw (Ad (pv 1) (Ad (pv 0) Aa)))) (QF (hcell:=by decide) (hf:=(show ∀c9:Str×Qv,c9∈_->c9.2=ym->(defScope K3).names.lookup c9.1=some wX by decide))) (by decide) rfl (by decide) rfl (λ i j h=>by
   rcases i with _ | _ | i
   ·simp at h
   ·simp at h;subst h;exact ⟨_,rfl,rfl,rfl,rfl⟩
   ·simp at h)) (Ae (Aq (i:=4) Il.nd (Ao (bZ T) C.m Aw (Ad (pv 0) (Bw (Ak Ca Ab (Ao (K7 T) C.m Aw (Ad (pv 0) (Ag Ab Aa)))) (Ad (pv 2) Aa))))) (Ae (Aq (i:=5) Il.nd (eE (vP T) C.m)) (Ae (Ef UI rfl (JB rfl T.range (Bg (BV CV rfl T.len CK (Ad (pv 4) Aa)) Aa)) (CG (i:=6) Il.nd) (Ah (Az (BL DK (Cr (k:=16) (pv 5) C.m (Bw (Ak Dk (Ak Dk (Ak Dk Af (Ai Ay (pv 3) (pv 6))) Af) (Ao (Yq T) C.m Aw (BR (Ai Ay (pv 4) (pv 6)) Aa))) Aa)) Af) (Ah (Av (Bl (Ag Hh (Ad (pv 3) (Ad (pv 4) Aa)))))) BJ))) (Ah (Av (Bl (Ad (pv 5) (Ad (pv 3) (Ad (pv 4) Aa)))))))))),?_⟩
 refine ⟨4,rfl,by decide,by decide,?_⟩
 refine pG (lo:=0) (n:=(4:Int).toNat) (λ i t S l=>(∃c0,t=[c0,some (.int p)])/\S=((UP i).map λ j:Nat=>V.str (called p (j:Nat)))/\l=H) ⟨⟨_,rfl⟩,rfl,rfl⟩ ?_ ?_ ?_
 ·rintro i t S l D ⟨⟨c0,rfl⟩,rfl,rfl⟩
  rw [Y6,List.length_range];exact U2 D (by decide)
 ·rintro i t S l D ⟨⟨c0,rfl⟩,rfl,rfl⟩
  have d6:i < 4:=D;refine ⟨_,rfl,_,rfl,_,_,rfl,z0,a8,by omega,by omega,nx D ⟨⟨_,rfl⟩,?_,rfl⟩⟩
  rw [List.range_succ,YP,FM];rfl
 rintro t S l g ⟨⟨c0,rfl⟩,rfl,rfl⟩ F
 have G:=Al F (.lst ((UP (4:Int).toNat).map λ j:Nat=>V.str (called p (j:Nat))))
 have U:(upd l g (.lst ((UP (4:Int).toNat).map λ j:Nat=>V.str (called p (j:Nat))))) g=some (.lst ((UP 4).map λ j:Nat=>V.str (called p (j:Nat)))):=Aj
 have I:g≠q:=λ e=>by
  obtain ⟨_,_,_,h⟩:=a7.d;rw [e,h] at F;cases F
 have J:=a7.keep G;generalize upd l g (.lst ((UP (4:Int).toNat).map λ j:Nat=>V.str (called p (j:Nat))))=e0 at G U J ⊢
 refine ⟨_,rfl,_,rfl,q,c,c7,2,rfl,J,by decide,λ k2 d0 d7 d8 y a2=>?_⟩
 obtain ⟨m,d1,e3,a9⟩:∃m:Nat,2+k2=(m:Int)/\2<=m/\m<=3:=⟨(2+k2).toNat,by omega,by omega,by omega⟩
 refine ⟨_,_,rfl,rfl,_,rfl,?_⟩;dsimp only
 rw [d1];refine ⟨q,c,c7,m,rfl,a9,y,λ lb bs v d2 L b0 M bn Y bl b1 Z=>?_⟩
 have a0:∀b,d0 b=none->b≠q:=λ b hb e=>by
  obtain ⟨_,_,_,h⟩:=y.d;rw [e,h] at hb;cases hb
 have z:=a2.trans b0;have b2:=z _ _ I U;have b3:g≠lb:=λ e=>by
  have:=a2 _ _ I U;rw [e,M] at this;cases this
 have b4:lb≠c:=λ e=>by
  have:=y.c;rw [<- e,M] at this;cases this
 have a3:=a0 lb M;refine λ o dx no a1 ne=>⟨o,dx,rfl,Aj,λ d hd=>⟨rfl,?_⟩⟩
 obtain ⟨x,N,B,b5⟩:=jQ (K:=K) (q:=[q,lb]) no a1 ne hd;generalize upd (upd (upd (upd d2 dx (.own o)) o (.ins ad.Desk dx [])) d (.dK [])) o (.ins ad.Desk dx [("benches",.ref d)])=b6 at x N ⊢;have a:Ly69 K b6 ad.Desk o dx d g lb q c c7 (λ _=>none) 0 p bs v:=⟨L.keep x,N,x _ _ b2,x _ _ Y,b1.keep x,λ j ps d3=>absurd d3 (by omega)⟩
 have b7:SD q l b6:=(Lib.SD.ofSame G).trans (z.trans (Lib.SD.ofSame x));have b8:∀b∈bs,b≠q/\b≠lb:=λ b hb=>⟨a0 b (bn b hb).1,(bn b hb).2⟩
 have b9:l d=none:=by
  cases e:l d with
  | none=>rfl
  | some o=>
   have c1:d≠q:=λ e=>by
    obtain ⟨_,_,_,h⟩:=L.d;rw [e,h] at B;cases B
   have:=z _ _ c1 (G _ _ e);rw [B] at this;cases this
 clear x N B b5 hd no a1 ne z L y J a2 b0 U b2 G b1 Y;refine ⟨_,rfl,lb,_,rfl,.inl (SqL.of a.hl),_,rfl,by omega,by rw [Y6];omega,?_⟩
 rw [Qb,Y6,bl];refine Jh (lo:=0) (n:=m) (λ i t W=>∃(a4:Option V) (a5:Cm),t=[some (.ref q),some (.int p),some (.int 0),some (.ref g),some (.ref lb),some (.ref o),a4]/\Ly69 K W ad.Desk o dx d g lb q c c7 a5 i p bs v/\SD q l W/\a5 (called p ((3:Nat):Int))=none) ⟨_,_,rfl,a,b7,rfl⟩ ?_ ?_
 ·rintro i t W D ⟨a4,a5,rfl,a,sx,O⟩
  have hb:i < bs.length:=by omega
  have d4:i < v.length:=by rw [<- a.bl.1];exact hb
  have a6:=XU hb;have X:=XU d4;generalize bs[i]=b at a6;generalize v[i]=ps at X;have c2:=a.bl.2 i b ps a6 X;have ok:=Z ps (Xb X);have nm:Nm (called p i):=Zg p (by omega) (by omega)
  have e4:=Jz (U2 ok.1 (by decide)) ok.sh
  have e1:((UP 4).map λ k=>V.str (called p (k:Nat)))[i]?=some (.str (called p i)):=by
   rw [YA,List.getElem?_range (by omega)]
   rfl
  have e2:(bs.map V.ref)[i]?=some (.ref b):=by rw [YA,a6];rfl
  have a8:=nm.len;refine ⟨_,rfl,o,_,dx,_,_,_,rfl,a.ds.o,rfl,mj T c8,?_⟩;rw [FM];refine ⟨_,rfl,_,rfl,g,_,_,_,rfl,rfl,SqL.of a.nm,Bb e1,_,_,rfl,rfl,Cp (by omega),_,_,rfl,rfl,Cp (by rw [Ds];omega),?_⟩
  refine ⟨_,rfl,_,rfl,lb,_,_,_,rfl,rfl,SqL.of a.hl,Bb e2,.ref b,ps,rfl,c2.dv,U2 ok.1 (by decide),ok.pbig,λ e5 c3=>?_⟩
  refine ⟨_,_,rfl,rfl,(by rw [Ds,Ds];exact U2 (show _<=20100 by omega) (by decide)),?_⟩
  have R:=a.keep c3;refine ⟨o,dx,d,[q,lb],called p i,a5,i,ps,rfl,R.ds,R.there,by omega,nm,ok,λ e6 c4 c5=>?_⟩
  refine ⟨rfl,_,rfl,BX (by decide+kernel) ?_⟩
  exact ⟨_,_,rfl,R.next X (by omega) c4 c5,λ b o n e=>c4 _ _ (BZ e b9) (c3 _ _ (sx b o n e)),(by show setB a5 (called p i) ps (called p ((3:Nat):Int))=none;unfold setB;rw [if_neg (n8 p (by omega))];exact O)⟩
 ·rintro t W ⟨a4,a5,rfl,a,sx,O⟩
  refine ⟨_,rfl,_,rfl,_,rfl,(by show 3<=X2;decide),λ r c6=>?_⟩
  have u:=Al c6 (.lst [.ref o,.ref g,.ref lb]);have a:=a.keep u;exact k r o dx d g lb a5 m bs v _ (sx.trans (Lib.SD.ofSame u)) Aj a9 ⟨a.dr,a.ds,a.nm,a.hl,⟨I,a3,b3,b4⟩,a.bl,b8,by omega,Z,λ j ps e=>a.sx j ps (by have:=Cg e;rw [<- a.bl.1] at this;omega) e⟩ O
theorem U8 (T:Txt K mg ad)(a:w.params=ad.pr):MC P w K mg base 16 ad.Desk "say" ["self","row"] (Wc K ad.Desk (Y1 "show") 0 XD):=vC T a ⟨_,by unfold valV CN;rfl,λ H=>T.ex.s_ROWS_show H⟩ (by decide) (by decide+kernel) (by decide+kernel) (by decide+kernel) (by decide+kernel) (by decide+kernel) (by unfold valV CN;rfl) T.ex.f_ANSWERS_show (Xg T)
theorem tZ (T:Txt K mg ad)(R:w.params=ad.pr)(c7:∀h:Heap,K.In h->xE h){c8:Addr}{fd:JN}(g2:Fun K "law" "law" Hu c8 fd):FnB P w K mg base true 20 c8 fd ["_law_script"] (spLaw K):=by
 have e3:=j0 (P:=P) (w:=w) (base:=base) T c7;refine g2.okB Eo (λ vs H Q E h=>?_) (λ cdv A outer s H vs Q E g h=>?_)
 ·obtain ⟨a,ns,rfl,_⟩:=h;rfl
 obtain ⟨a,ns,rfl,b7,f5,k⟩:=h;have f6:(Y1 "bench ").length=6:=by decide+kernel
 have g3:(Y1 " ").length=1:=by decide+kernel
 refine ⟨_,(Ae (Aq (i:=1) Eo.nd (Ao (iD T) g.m Aw (Ad (pv 0) (Ag Ab Aa)))) (Ae (Aq (i:=2) Eo.nd (Ak CT (Ao (jc T) g.m Aw (Ad (pv 0) (Ag Ab Aa))) Ab)) (Ae (RV (Ao (gK T R) g.m Aw (Ad (pv 1) (Ad (pv 2) (Ag Ab Aa)))) (ju (n:=3) rfl (GQ (CG (i:=3) Eo.nd) (GQ (CG (i:=4) Eo.nd) (GQ (CG (i:=5) Eo.nd) Pa))))) (Ae (Az (BL QX (pv 3) Hh) (Ah (Av Dd)) BJ) (Ae (Ef UI rfl (Dv (Ak DN (Di Gv (pv 0) (Cy Ab) (Cy Ab)) (Bl (Bg (BV CV rfl T.len CK (Ad (pv 0) Aa)) Aa)))) (CG (i:=6) Eo.nd) (Ae (Aq (i:=2) Eo.nd (Ak Du (Ak CT (Ak Gb (pv 6) Ab) Ab) Ab)) (Ae (Aq (i:=7) Eo.nd (Ak CT (Ak Du (pv 2) Ab) (BV CV rfl T.len CK (Ad (pv 5) Aa)))) (Ae (Az (BL (Yy g.units) (Ao (dw T R) g.m Aw (Ad (pv 3) (Bg (Ao e3 g.m Aw (Ad (pv 2) (BR (Ai Ay (pv 4) (pv 7)) (BR (Ai Ay (pv 4) Ab) Aa)))) Aa))) (Bl (Ag Af Aa))) (Ah (Av Dd)) BJ) (Ah (Az (BL DK (Cr (k:=16) (pv 3) g.m (Bw (Ak Dk Af (Ai Ay (pv 4) (pv 7))) Aa)) (Ao (Yq T) g.m Aw (BR (Ai Ay (pv 5) (pv 7)) Aa))) (Ah (Av Dd)) BJ)))))) (Ae (Ef UI rfl (JB rfl T.range (Bg (BV CV rfl T.len CK (Ad (pv 5) Aa)) Aa)) (CG (i:=8) Eo.nd) (Ah (Az (PW.pt (pw_or (BL DK (Cr (k:=16) (pv 3) g.m (Bw (Ak Dk Af (Ai Ay (pv 4) (pv 8))) Aa)) (Ao (Yq T) g.m Aw (BR (Ai Ay (pv 5) (pv 8)) Aa))) (pw_or1 (BL (Yy g.units) (Ao (dw T R) g.m Aw (Ad (pv 3) (Bw (Ak Dk Af (Ai Ay (pv 4) Ab)) Aa))) (Bl (Ag Af Aa)))))) (Ah (Av Dd)) BJ))) (Ah (Av Dd)))))))),?_⟩
 refine ⟨_,rfl,a,ns,101,rfl,b7,λ q c g4 g5 b8 e4 a6=>?_⟩
 have a7:=b7.keep b8;refine ⟨_,rfl,a,ns,0,rfl,a7,by decide,λ p=>⟨_,_,rfl,rfl,(by show (0:Int) < 2147483647;decide),?_⟩⟩
 have a8:=Qy p (show (2147483647:Int)≠0 by decide)
 have a9:=Jl p (show (0:Int) < 2147483647 by decide)
 dsimp only
 generalize p % 2147483647=p at a8 a9 ⊢;refine ⟨_,rfl,_,rfl,q,c,g4,p,rfl,a6,a8,a9,λ r o dx d C lb e0 n bs f7 b9 M b0 g6 f c9=>?_⟩
 refine ⟨r,_,rfl,SqL.of b0,rfl,_,_,rfl,_,_,rfl,_,_,rfl,rfl,?_⟩;have b1:Same H b9:=λ b o e=>M b o (BZ e e4) (b8 b o e)
 have S:=b7.keep b1;clear M b0 a7 b8 a6 b1;refine ⟨_,rfl,rfl,_,rfl,BX rfl ?_⟩;refine ⟨_,rfl,_,rfl,_,rfl,a,_,rfl,S,λ c0 b2=>?_⟩
 have U:=Al b2 (.lst (cutV (ns.map V.int) (some 1) (some 46)));have c1:=qJ (ns.map V.int) 1 46
 change (cutV (ns.map V.int) (some 1) (some 46)).length<=_ at c1
 have c2:=V0 ns (some 1) (some 46);generalize cutV (ns.map V.int) (some 1) (some 46)=l at U c1 c2 ⊢;refine ⟨_,rfl,a,_,rfl,.inl (S.keep U),(by show 1<=X2;decide),λ c3 b3=>?_⟩
 generalize hn:(((ns.map V.int).length:Nat):Int)=nn;have a3:=Al b3 (.lst [.int nn]);refine ⟨c0,c3,_,_,rfl,rfl,a3 _ _ Aj,Aj,JA (small1000 (by simp only [U1,WA];omega)),λ D t=>⟨D,rfl,⟨_,SqL.of Aj⟩,?_⟩⟩
 have d0:=Al t (.lst (l++[.int nn]));have t3:=U.trans (a3.trans d0);have W:=f.keep (U.trans a3);have f8:D≠q:=λ e=>by
  obtain ⟨_,_,_,h⟩:=W.dr.d;rw [e,h] at t;cases t
 have f9:D≠lb:=λ e=>by
  have:=W.hl;rw [<- e,t] at this;cases this
 have d1:∀x∈l++[V.int nn],∃p:Int,x=.int p:=λ x e5=>by
  rcases XA.mp e5 with h | h
  ·exact c2 x h
  ·exact ⟨nn,Zu.mp h⟩
 have d2:(l++[V.int nn]).length<=46:=by rw [ZA];simp only [U1,WA];omega
 have F:upd (upd (upd b9 c0 (.lst l)) c3 (.lst [.int nn])) D (.lst (l++[.int nn])) D=some (.lst (l++[.int nn])):=Aj;have f:=f.keep t3;generalize upd (upd (upd b9 c0 (.lst l)) c3 (.lst [.int nn])) D (.lst (l++[.int nn]))=e6 at F f ⊢;generalize l++[V.int nn]=e7 at d1 F d2 ⊢;clear U a3 d0 t3 W b2 b3 t S c2 c1;have g7:(Y1 "show ").length=5:=by decide+kernel
 have e1:∀{j:Nat},j < 4->((UP 4).map λ k=>V.str (called p (k:Nat)))[j]?=some (.str (called p j)):=λ {j} h=>by
  rw [YA,List.getElem?_range h];rfl
 have I:∀{j:Nat},j < 4->Nm (called p j):=λ {j} h=>Zg p (by omega) (by omega)
 have b4:∀{u:Y2},u≠Y1 "sharp"->∀qs:List Rat,u=Y1 "sharp"->∃q,qs[4]?=some q/\0<=q:=λ h _ e=>absurd e h
 have g8:=f.m;refine HQ (K:=K) (a:=D) (xs:=e7) (λ i y z=>∃X Y Z B,y=[some (.ref a),some (.ref q),X,some (.ref o),some (.ref C),some (.ref lb),Y,Z,B]/\Same e6 z) ⟨_,_,_,_,rfl,Same.refl _⟩ ?_ ?_ ?_
 ·rintro i y z d3 ⟨X,Y,Z,B,rfl,s'⟩
  exact SqL.of (s' _ _ F)
 ·rintro i v y z d3 ⟨X,Y,Z,B,rfl,s'⟩
  obtain ⟨g0,rfl⟩:=d1 v (Xb d3);have f:=f.keep s';refine ⟨_,rfl,_,_,rfl,rfl,.inr ⟨by decide,by decide⟩,_,_,rfl,rfl,(by show (0:Int) < 2147483647;decide),_,_,rfl,rfl,⟨by decide,by decide⟩,?_⟩
  dsimp only
  have d4:0<=g0 * 69621 % 2147483647 / 8:=by omega
  generalize g0 * 69621 % 2147483647 / 8=m at d4 ⊢;have d5:(0:Int) < (((bs.map V.ref).length:Nat):Int):=by rw [Y6];omega
  refine ⟨_,rfl,_,_,rfl,rfl,⟨(by show (0:Int) < 7;decide),(by show (7:Int) < 1073741824;decide)⟩,_,rfl,lb,_,rfl,.inl (SqL.of f.hl),_,_,rfl,rfl,d5,?_⟩
  obtain ⟨j,e8,c4⟩:=jO (bs:=bs) (m / 7) d5;dsimp only
  rw [e8];obtain ⟨b,ps,c5,hb,ok,sx⟩:=f.ps c4;have e2:(bs.map V.ref)[j]?=some (.ref b):=by rw [YA,c5];rfl
  have N:j < 4:=by omega
  have O:=I N;have e9:=O.len;refine ⟨_,rfl,_,rfl,_,rfl,_,rfl,C,_,_,_,rfl,rfl,SqL.of f.nm,Bb (e1 N),_,rfl,C,_,_,_,rfl,rfl,SqL.of f.nm,Bb (j:=3) (e1 (by decide)),m,called p j,called p (3:Nat),rfl,d4,O,oO p (by omega) (by omega),I (by decide),λ v g9 d6 f0=>?_⟩
  have d7:=f.keep d6;refine ⟨o,dx,d,[q,lb],v,e0,n,_,rfl,d7.ds,.inl ⟨f0,rfl⟩,λ f1 d8 c6 a0=>?_⟩
  refine ⟨(by show 1<=X2;decide),λ d9 a1=>?_⟩
  have a2:=Al a1 (.lst [.str (Y1 "row")]);refine ⟨_,_,.lst (SqL.of (a2 _ _ a0)) (.cons (.str _) .nil),.lst (SqL.of Aj) (.cons (.str _) .nil),(by decide+kernel),(by decide+kernel),_,rfl,BX (by decide+kernel) ?_⟩
  have a4:=(d6.trans c6).trans a2;generalize upd d8 d9 (.lst [.str (Y1 "row")])=h0 at a4 ⊢;have J:=f.keep a4;refine ⟨_,rfl,o,_,dx,_,_,_,rfl,J.ds.o,rfl,U8 T R,_,rfl,_,rfl,C,_,_,_,rfl,rfl,SqL.of J.nm,Bb (e1 N),_,_,rfl,rfl,Cp (by omega),?_⟩
  rw [Rc (u:=Y1 "show") (by decide+kernel)]
  refine ⟨o,dx,d,[q,lb],called p j,e0,n,ps,[],_,rfl,J.ds,O,sx,rfl,(λ _ h=>by cases h),b4 (by decide+kernel) _,rfl,λ f2 G=>?_⟩
  have L:=J.keep G;refine ⟨_,rfl,_,rfl,lb,_,_,_,rfl,rfl,SqL.of L.hl,Bb e2,.ref b,ps,rfl,(hb.keep (a4.trans G)).dv,U2 ok.1 (by decide),ok.pbig,λ f3 a5=>?_⟩
  exact ⟨rfl,_,rfl,BX (by simp) ⟨_,_,_,_,rfl,((s'.trans a4).trans G).trans a5⟩⟩
 ·rintro y f4 ⟨X,Y,Z,B,rfl,s'⟩
  have f:=f.keep s';refine ⟨_,rfl,lb,_,rfl,.inl (SqL.of f.hl),_,rfl,by omega,by rw [Y6];omega,?_⟩
  rw [Qb,Y6];refine Jh (lo:=0) (n:=bs.length) (λ i y z=>∃B,y=[some (.ref a),some (.ref q),X,some (.ref o),some (.ref C),some (.ref lb),Y,Z,B]/\Same f4 z) ⟨_,rfl,Same.refl _⟩ ?_ ?_
  ·rintro j y z c4 ⟨B,rfl,M⟩
   have f:=f.keep M;obtain ⟨b,ps,c5,hb,ok,sx⟩:=f.ps c4;have e2:(bs.map V.ref)[j]?=some (.ref b):=by rw [YA,c5];rfl
   have N:j < 4:=by omega
   have O:=I N;have e9:=O.len;have b5:Nm (called p (3:Nat)):=I (by decide)
   have g1:=b5.len;refine ⟨_,rfl,o,_,dx,_,_,_,rfl,f.ds.o,rfl,U8 T R,?_⟩;rw [FM];refine ⟨_,rfl,_,rfl,C,_,_,_,rfl,rfl,SqL.of f.nm,Bb (e1 N),_,_,rfl,rfl,Cp (by omega),?_⟩
   rw [Rc (u:=Y1 "show") (by decide+kernel)]
   refine ⟨o,dx,d,[q,lb],called p j,e0,n,ps,[],_,rfl,f.ds,O,sx,rfl,(λ _ h=>by cases h),b4 (by decide+kernel) _,rfl,λ f2 G=>?_⟩
   have L:=f.keep G;refine ⟨_,rfl,_,rfl,lb,_,_,_,rfl,rfl,SqL.of L.hl,Bb e2,.ref b,ps,rfl,(hb.keep G).dv,U2 ok.1 (by decide),ok.pbig,λ f3 a5=>?_⟩
   have b6:=L.keep a5;refine ⟨rfl,_,rfl,BX (by simp) ?_⟩
   refine ⟨_,rfl,_,rfl,C,_,_,_,rfl,rfl,SqL.of b6.nm,Bb (j:=3) (e1 (by decide)),_,_,rfl,rfl,Cp (by omega),?_⟩
   rw [Rc (u:=Y1 "show") (by decide+kernel)]
   refine ⟨o,dx,d,[q,lb],_,e0,n,_,rfl,b6.ds,.inr ⟨called p (3:Nat),rfl,b5,c9,rfl⟩,λ f1 d8 c6 a0=>?_⟩
   refine ⟨(by show 1<=X2;decide),λ d9 a1=>?_⟩
   have a2:=Al a1 (.lst [.str (Y1 "unknown")]);refine ⟨_,_,.lst (SqL.of (a2 _ _ a0)) (.cons (.str _) .nil),.lst (SqL.of Aj) (.cons (.str _) .nil),(by decide+kernel),(by decide+kernel),_,rfl,BX (by decide+kernel) ?_⟩
   exact ⟨_,rfl,((M.trans G).trans a5).trans (c6.trans a2)⟩
  ·rintro y z ⟨B,rfl,M⟩
   exact k z
theorem lu {a:Addr}(d:TopFn K mg "law" Hu)(b:mg "law"=some (.ref a)):∃fd,Fun K "law" "law" Hu a fd/\(∀(s:X1) (u:Value),qq s fd ⟨[u],[]⟩ [("_law_script",u)])/\fd.scope.names.lookup ("_law_script":Y2)=some Qv.local:=by
 obtain ⟨f,fd,d,hm⟩:=d.ex;cases b.symm.trans hm
 obtain ⟨h,i,kV,e,j,k,cdv,ct,g,rfl,l,c⟩:=id d.ex;exact ⟨_,d,λ s u=>.of_eq rfl,rfl⟩
end
end K70
namespace K70
open PySem L2 Lib
theorem walk {l:PySem.W.OpenLaw}{q:Yg}{b:List Str}{i:(Str->Option Value)->Heap->Prop}{c:World->Heap->Prop}{d:DefRec}{K:ub->FrG}(hn:l.most=some 63)(e:d.params.defaults=[])
  (j:∀(w:World) (h:Heap),c w h->(K w.params).In h)
  (o:∀(w:World) (mg:Str->Option Value) (g:Addr) (h:Heap),(K w.params).In h->h.Ns ZY mg->mg d.name=some (.ref g)->
   ∃fd:JN,((∀(s:X1) (u:Value),qq s fd ⟨[u],[]⟩ [("_law_script",u)])/\fd.scope.names.lookup ("_law_script":Y2)=some Qv.local)/\∀base:Heap,(K w.params).In base->base.Ns ZY mg->FnOk l.prog w (K w.params) mg base (Cz l.prog w) 20 g fd ["_law_script"] (spLaw (K w.params))):
  PySem.W.WalkO q b i c l.row.toRowW d [] (λ f vs=>PySem.call f vs):=
 L2.walk_of (n:=63) (k:=20) (x:="_law_script") (CX:=λ w=>Cz l.prog w) (sp:=λ w=>spLaw (K w.params)) hn (by decide) e ⟨rfl,by decide,by decide⟩ j o (λ _ _ a ns hl _ m=>⟨a,ns,rfl,m,hl,λ _=>rfl⟩) λ _ _ _ _ _ p=>by
  obtain ⟨_,_,_,_,_,_,_,_,_,_,_,_,q⟩:=p;exact q
end K70
namespace PySem.W.Fast
def tw14680531071692979153:=()
def tw1198569910406865512:=()
def tw51102150763950894:=()
def tw1209643708985844017:=()
def tw7898367357185357938:=()
def tw1676834781257163295:=()
def tw16987463330683211669:=()
def tw17779952288995604387:=()
def tw15144669512021773361:=()
def tw16423757326301040414:=()
def tw5438869849773904361:=()
def tw12862574606425086683:=()
def tw8799046580387030907:=()
def tw9810955261492647134:=()
def tw14836613218262850787:=()
def tw12301406039681747766:=()
def tw7602694338430961757:=()
def tw9082596869846440553:=()
def tw9257219637424365893:=()
def tw4328597821120930665:=()
def tw10792136176103441208:=()
def tw1418857188839451113:=()
def tw17775984556554168432:=()
def tw15477890611014004294:=()
def tw14496407724417241747:=()
def tw4600835788430907807:=()
def tw3455958591312548343:=()
def tw2148704378225144741:=()
def tw5200614218945491502:=()
def tw88471288984197131:=()
def tw7913220494801779321:=()
def tw12262200862006196557:=()
def tw6444184082042110077:=()
def tw12570589196213562237:=()
def tw10979076610141658460:=()
def tw18077810405599583813:=()
def tw10836689474815085667:=()
def tw11173484752637168218:=()
def tw13407143958869153459:=()
def tw4016572850303280334:=()
def tw14623544487257697771:=()
def tw13054052211619735568:=()
def tw303582109780587937:=()
def tw11865637178045019373:=()
def tw4822875107415196271:=()
def tw6769994723774489336:=()
def tw7206472841330557190:=()
def tw16147335031556041765:=()
def tw6670760658084121968:=()
def tw11716194979842032274:=()
def tw14067312300079816139:=()
def tw3570718285149567903:=()
def tw14311439293507409443:=()
def tw4003367131697101075:=()
def tw5309801195823986290:=()
def tw14178271782135207367:=()
def tw10944465951307830297:=()
def tw3808679567157875174:=()
def tw11204836725431154078:=()
def tw8568198800131769525:=()
def tw16261664772240085599:=()
def tw7871153515211320064:=()
def tw8995901504262219358:=()
def tw952535605192033823:=()
def tw15281606475265377245:=()
def tw6439281677186075332:=()
def tw453841009203339547:=()
def tw18066734696028394857:=()
def tw17133284517135792990:=()
def tw1350781306954676105:=()
def tw15419660597421384331:=()
def tw525615592465492683:=()
def tw14439243543850215108:=()
def tw7952461613258012911:=()
def tw3412618379046387041:=()
def tw7958809311879940182:=()
def tw5438668823580262761:=()
def tw291543559643758002:=()
def tw4387043302762058229:=()
def tw14362608185340537130:=()
def tw7453495230429789671:=()
def tw15669471184934133103:=()
def tw5809920512262011327:=()
def tw1547829875665085045:=()
def tw12521750004730574893:=()
def tw13462716830571682842:=()
def tw3172582507107177353:=()
def tw16998913935839051568:=()
def tw11296064365980857559:=()
def tw8334100527192344550:=()
def tw17447528688806913711:=()
def tw6851146787259715154:=()
def tw8459828139150621802:=()
def tw2301560474142471154:=()
def tw5741795266362161377:=()
def tw4830845988500578764:=()
def tw6042165966159977322:=()
def tw18083652376472835619:=()
def tw7826151941540685592:=()
def tw6618556979197390068:=()
def tw13154884498037497023:=()
def tw10691344501584613182:=()
def tw17420222390836182224:=()
def tw9813228032312810826:=()
def tw4814196376608996254:=()
def tw16891206833362262194:=()
def tw2647923876864445434:=()
def tw7617017687584295571:=()
def tw15186411390278344984:=()
def tw18291989415687098601:=()
def tw17108128209089904868:=()
def tw7840340944077841476:=()
def tw11385345140803602345:=()
def tw10809302816135339638:=()
def tw670490114665743598:=()
def tw17894918587691910360:=()
def tw5739139988137245497:=()
def tw12336241053333532564:=()
def tw249095942620633618:=()
def tw3886641968749975931:=()
def tw5666289396531595094:=()
def tw13740864782434788520:=()
def tw9111853971542558729:=()
def tw3123102674988728768:=()
def tw1936889576857785215:=()
def tw5681631857385248405:=()
def tw17196368753622967450:=()
def tw16935010642025804732:=()
def tw1399943111151384669:=()
def tw11629593006457331880:=()
def tw10408533948468173595:=()
def tw4383855717799940995:=()
def tw8281297534613293958:=()
def tw3015584537843696555:=()
def tw6267726500374007822:=()
def tw3908086887934943196:=()
def tw14176923311098936502:=()
def tw15209235867335168850:=()
def tw13091346318403344588:=()
def tw232669663892422754:=()
def tw7742693525967399115:=()
def tw3282822242812036409:=()
def tw1088065868022279285:=()
def tw10460557788873788840:=()
def tw7198518459044576059:=()
def tw9984180543641581031:=()
def tw1258745069722782730:=()
def tw2468658131580972818:=()
def tw951492757813828508:=()
def tw10027543851542573855:=()
def tw6788381150045857947:=()
def tw3454191534890849270:=()
def tw3754905907503717448:=()
def tw11836665870975187008:=()
def tw8117325651085319467:=()
def tw2441368342520829502:=()
def tw990587782642222784:=()
def tw18001832249148801123:=()
def tw13984639341647143291:=()
def tw4261271322117498065:=()
def tw1907660631119106788:=()
def tw6808034099697537353:=()
def tw2514620326276152060:=()
def tw15919085846215389932:=()
def tw14429184186449372598:=()
def tw12008984962486315229:=()
def tw13929350513503026208:=()
def tw17341503460748266218:=()
def tw11545367609754277755:=()
def tw15516392270838012388:=()
def tw17371499969927933424:=()
def tw13077316158272383983:=()
def tw2911648978383576461:=()
def tw15745708591224175575:=()
def tw13021658429093390733:=()
def tw11492781303504906744:=()
def tw9458042836121042611:=()
def tw11042569328971370441:=()
def tw5394427779073980218:=()
def tw18004044520320508683:=()
def tw209463085669553361:=()
def tw3827811546329345475:=()
def tw10184773809210842784:=()
def tw5608060075814648018:=()
def tw6844917879027448106:=()
def tw8810350992122684212:=()
def tw10873820171370237797:=()
def tw17764075916094140397:=()
def tw5984618313832949705:=()
def tw8210591706685196266:=()
def tw5854599407315551344:=()
def tw2944394047082692026:=()
def tw12481663811360515998:=()
def tw7541950800579217305:=()
def tw8446415388582112036:=()
def tw3276633510019475301:=()
def tw4965657063996342138:=()
def tw913101141305975049:=()
def tw4082401806805910377:=()
def tw17953623960266088562:=()
def tw15956963341853202143:=()
def tw10081161212790593652:=()
def tw14102035121981533567:=()
def tw15725535526752607396:=()
def tw8117867832174011414:=()
def tw11366973886586740788:=()
def tw14259648955076286570:=()
def tw3754448553905496905:=()
def tw14375913857114015247:=()
def tw13885366215822662523:=()
def tw13543814261021029921:=()
def tw9899384484460521251:=()
def tw14029299075222450917:=()
def tw10421266136813672919:=()
def tw1803473759052225200:=()
def tw4505241503337805138:=()
def tw16850840968138319450:=()
def tw6277846089279035123:=()
def tw5706291699055647695:=()
def tw17462803062483155923:=()
def tw16934775284083619689:=()
def tw6882062457410853331:=()
def tw9185097881256464907:=()
def tw9103386501715666719:=()
def tw462572580496846836:=()
def tw18118357186427243509:=()
def tw15923947004070700858:=()
def tw3561502556310780343:=()
def tw4930006710758762162:=()
def tw8899061696471134234:=()
def tw9258252997731065244:=()
def tw16752533648393620085:=()
def tw1830309616741797269:=()
def tw15071107149542257185:=()
def tw16880502828025310519:=()
def tw790226376280722967:=()
def tw5446274515593637600:=()
def tw15549951788710261877:=()
def tw6354826373284624252:=()
def tw6145316103971314792:=()
def tw17862698343445426432:=()
def tw10904479777983376707:=()
def tw1122665683595912535:=()
def tw16544750080049826230:=()
def tw1943193103095356089:=()
def tw5150623462063870804:=()
def tw16947299255490322097:=()
def tw11944183443270075212:=()
def tw4280408286832369961:=()
def tw16910178415457092875:=()
def tw2166370066290740506:=()
def tw10715339013356634872:=()
def tw9216824593090611119:=()
def tw776958258837094597:=()
def tw12985536301030207296:=()
def tw17703262835409450551:=()
def tw14503108861040419808:=()
def tw14063860234932826547:=()
def tw826615860627360630:=()
def tw10577524873127299930:=()
def tw9898193565910012258:=()
def tw7413370364407747977:=()
def tw14895783623302695458:=()
def tw13343189142507153814:=()
def tw3749453783269174972:=()
def tw1605589534426080447:=()
def tw13299671476637918276:=()
def tw11908726725086283134:=()
def tw6650701745514706115:=()
def tw17400008857662570704:=()
def tw15212020690635410979:=()
def tw7148556752938380723:=()
def tw18054510917761628508:=()
def tw17204518747258869590:=()
def tw9441679406247831811:=()
def tw8778338261023341385:=()
def tw2649462510888283873:=()
def tw8830065710323405257:=()
def tw8515076300888924651:=()
def tw13669336673934515583:=()
def tw11411448435713159723:=()
def tw12910286425563472632:=()
def tw9992201843941487491:=()
def tw17860694455891093112:=()
def tw2439968724755518183:=()
def tw9291804241742085915:=()
def tw10931762503388440510:=()
def tw15825631542358648804:=()
def tw199369450247903029:=()
def tw12016078744829103517:=()
def tw15972719565566036853:=()
def tw14160549118124647980:=()
def tw3114446975763069674:=()
def tw17667348875230988736:=()
def tw7426272208607237672:=()
def tw13665486722714886376:=()
def tw13115176165582066268:=()
def tw13731427825191790813:=()
def tw710725332176404157:=()
def tw9050487900511670434:=()
def tw8158836426447989593:=()
def tw14316625127206754479:=()
def tw15171495688121023665:=()
def tw17082616272626428404:=()
def tw13154965813244313933:=()
def tw5025304176182099374:=()
def tw206241934380238357:=()
def tw6599345267693803025:=()
def tw11213372741402571271:=()
def tw17647224336635281995:=()
def tw699954216806748992:=()
def tw17886854139160829882:=()
def tw15791127303077303918:=()
def tw8214631451966602793:=()
def tw12670804458879773487:=()
def tw8512652276714296010:=()
def tw10952056159340673708:=()
def tw18253970145564681880:=()
def tw11041919019270295446:=()
def tw11611714549256579005:=()
def tw2381191183553225061:=()
def tw9376569207863249062:=()
def tw6935235013853227580:=()
def tw4174396611705963671:=()
def tw7973253627095632789:=()
def tw3176429607140397906:=()
def tw16460172069501559551:=()
def tw15280313060385800206:=()
def tw10872590531647769680:=()
def tw13665497151880396241:=()
def tw8017866419695175577:=()
def tw3289381919534622432:=()
def tw18107582612159487020:=()
def tw13358859898363746053:=()
def tw17718614488563612125:=()
def tw8186788135669866167:=()
def tw8662067223231636087:=()
def tw8479897282206952662:=()
def tw15985852238343712618:=()
def tw9389081806540609619:=()
def tw9910525527771604572:=()
def tw15282730565523877731:=()
def tw16797853065410344293:=()
def tw17933209358585449556:=()
def tw12654384042480667029:=()
def tw1490220004851358803:=()
def tw6557318483355465021:=()
def tw195233858256505914:=()
def tw17817283309739133529:=()
def tw17317786336809807482:=()
def tw16036392552190718077:=()
def tw13407466010886731755:=()
def tw11004899812186001539:=()
def tw15120890180486993844:=()
def tw2066707762426374395:=()
def tw16689616631029198890:=()
def tw9892694176963758171:=()
def tw5049832454449715820:=()
def tw14676685909536246436:=()
def tw6151946505136387918:=()
def tw17828220276587563322:=()
def tw15891871277715280058:=()
def tw16298235400029239903:=()
def tw6962555798805687672:=()
def tw6582703005405497768:=()
def tw11290055459760927672:=()
def tw5728423369432566432:=()
def tw5796618601207030564:=()
def tw2162502248787795408:=()
def tw9621022807156765662:=()
def tw3073389646333159737:=()
def tw6781808606136487146:=()
def tw7672789098947255988:=()
def tw18079315682534684285:=()
def tw13508722363105217220:=()
def tw425336260292781351:=()
def tw928030827827992180:=()
def tw2116019222526462703:=()
def tw16987408496100915332:=()
def tw17549825958364764090:=()
def tw10975752128618820411:=()
def tw11743874524911194168:=()
def tw5079872793284184741:=()
def tw8297993429920640612:=()
def tw801531990934278784:=()
def tw5884004481552696532:=()
def tw15039215693895586033:=()
def tw10918849715443175262:=()
def tw14407434537089037717:=()
def tw11914069746999300206:=()
def tw14843923603332712863:=()
def tw6201322363628380670:=()
def tw11290573927543459315:=()
def tw5923845868515464455:=()
def tw14898320437496037988:=()
def tw5091664835153967486:=()
def tw4116491400840183927:=()
def tw16627435178241400933:=()
def tw1656522546262774472:=()
def tw16472685798513538795:=()
def tw11425316732024658841:=()
def tw1347186070843410168:=()
def tw8814092795701865010:=()
def tw2204562703442617002:=()
def tw16532624478867517986:=()
def tw8675701635653193483:=()
def tw7964961007889772176:=()
def tw6099946529222920618:=()
def tw11875835388903858905:=()
def tw3427429261697499968:=()
def tw6943398598239563397:=()
def tw16248696045675794906:=()
def tw7623749044567039903:=()
def tw7015260281105416846:=()
def tw11572178071534793051:=()
def tw10505924588638170361:=()
def tw9854427919556702096:=()
def tw15009359109243141686:=()
def tw4381677468289184116:=()
def tw1676656091672385335:=()
def tw9084372452363391036:=()
def tw5461004470106349471:=()
def tw2104206898435130102:=()
def tw1859908201800505938:=()
def tw11957214892621057924:=()
def tw17146258962944336612:=()
def tw10606104811158271317:=()
def tw4147083202446520341:=()
def tw3338084893945515489:=()
def tw2138717065924682612:=()
def tw16831317494142669007:=()
def tw15298421158567526211:=()
def tw663691748802045687:=()
def tw1680116708479717428:=()
def tw8913107635748060291:=()
def tw14814080237403172023:=()
def tw10886303748777086824:=()
def tw7470288702704836444:=()
def tw7204949842909277559:=()
def tw7098104383235804:=()
def tw6374602154755917527:=()
def tw1901098914140337878:=()
def tw16315692858786875159:=()
def tw12540753059779882794:=()
def tw11537162036768424813:=()
def tw9105502167129077743:=()
def tw9926902516524238595:=()
def tw4818901069557517181:=()
def tw4333445235033006081:=()
def tw3993212686774906451:=()
def tw3520046652674247783:=()
def tw15018114570763988009:=()
def tw135131683010171583:=()
def tw13435770037000658323:=()
def tw13229234679426650396:=()
def tw12961589822233792598:=()
def tw11556914669648794571:=()
def tw1061970969518860887:=()
def tw9098420741754256325:=()
def tw1861884222680640257:=()
def tw13227108191231757518:=()
def tw7596510454587794235:=()
def tw57353148725056009:=()
def tw5287424478742178250:=()
def tw5206189797293068727:=()
def tw228157337338747304:=()
def tw16908538517556302057:=()
def tw154194261763609450:=()
def tw1469839467272091252:=()
def tw11565280415048656447:=()
def tw8906911154189093499:=()
def tw12305944920530043897:=()
def tw11962341838679541358:=()
def tw7181457524742104315:=()
def tw12189034210040542682:=()
def tw6137428486536609179:=()
def tw4463199906863746462:=()
def tw1619478997613208385:=()
def tw15283345327497908632:=()
def tw10481327767496346570:=()
def tw8741086784913100523:=()
def tw302820302017069080:=()
def tw18420711213227771874:=()
def tw17017154754223271978:=()
def tw13109742494590012221:=()
def tw12901952662891415222:=()
def tw1252754055165059439:=()
def tw12089515115535061563:=()
def tw9501092987577315178:=()
def tw9055228502945084345:=()
def tw651815700525275130:=()
def tw2805777663084779481:=()
def tw17463820750486443036:=()
def tw1639861288260690264:=()
def tw13196806709243081015:=()
def tw13045480965797751013:=()
def tw1304009896006120115:=()
def tw11017251384227574877:=()
def tw9079531150216888029:=()
def tw7233231058968320196:=()
def tw18074652921400105647:=()
def tw1290688328148731132:=()
def tw8739788795726959007:=()
def tw6806369965725663574:=()
def tw4335751852717784395:=()
def tw3132317699955259705:=()
def tw197948010412675885:=()
def tw14559650591494265293:=()
def tw9767782214157658324:=()
def tw12232061284740322711:=()
def tw11889484280215129272:=()
def tw10178767280877873357:=()
def tw15999903293648070531:=()
def tw8837832411524626999:=()
def tw9554329722564146470:=()
def tw11479398409577928904:=()
def tw1109690040986599973:=()
def tw15662408331953508308:=()
def tw9521922754298745738:=()
def tw17408671092131435223:=()
def tw120519746962639140:=()
def tw6103351209280475036:=()
def tw5220427510210992878:=()
def tw11845845132818766614:=()
def tw16464748622180136034:=()
def tw7395126119993930669:=()
def tw16892369366362805629:=()
def tw18098868844110461183:=()
def tw13384216899597586663:=()
def tw5793103025158253830:=()
def tw14601089277135531798:=()
def tw3132413729878684125:=()
def tw1110619528452845801:=()
def tw12800730138188297945:=()
def tw15050161803690888065:=()
def tw12375737073684129004:=()
def tw10459763973044275641:=()
def tw7962300866596861524:=()
def tw8579830478919232888:=()
def tw8858069416485190983:=()
def tw7507843776959103562:=()
def tw12598322555533864778:=()
def tw17533652223546749923:=()
def tw8026642367205850813:=()
def tw15398935634727972830:=()
def tw9529043445407031490:=()
def tw499947149277873726:=()
def tw7438179330616198377:=()
def tw16655902367875286880:=()
def tw14877760275250641620:=()
def tw442341910613301440:=()
def tw11995560900690869311:=()
def tw879960210112402430:=()
def tw14085436544574144450:=()
def tw10904426126787011678:=()
def tw12622972678641005163:=()
def tw11904256363465661129:=()
def tw11106957158037811045:=()
def tw1655249184628514076:=()
def tw599700052361805817:=()
def tw9623563544327439563:=()
def tw5256996896105343196:=()
def tw13540143762826370801:=()
def tw6847892430315007281:=()
def tw5263611306281801070:=()
def tw5532890069991724028:=()
def tw2037034442215904667:=()
def tw15935171527368307593:=()
def tw13380999912762356162:=()
def tw9642953468452654575:=()
def tw7146677497832666052:=()
def tw15999705503277836102:=()
def tw12388465101741863125:=()
def tw1711539428691033122:=()
def tw9481147433899214227:=()
def tw8823205288510756152:=()
def tw7549825214222556690:=()
def tw15977708526553163994:=()
def tw13549151816461314329:=()
def tw10105956087618898682:=()
def tw2397795666364689569:=()
def tw13298397361337316474:=()
def tw12304513759051148556:=()
def tw7997856869063637499:=()
def tw17051440940523195085:=()
def tw2054048491948018725:=()
def tw1893238348105032685:=()
def tw15311099541648329623:=()
def tw11082973415147860597:=()
def tw9814415533782934436:=()
def tw9653089638644078946:=()
def tw7674270496029039595:=()
def tw7406387305608925019:=()
def tw9635835367953243003:=()
def tw9145058504160690394:=()
def tw8656051114474451596:=()
def tw8493778969974447586:=()
def tw732013653762123877:=()
def tw5301139855144142498:=()
def tw3306565633529305681:=()
def tw2656013597263070228:=()
def tw18219411147982132711:=()
def tw17847997995689962765:=()
def tw15554324713102989268:=()
def tw1360431924693348261:=()
def tw11098869860089597586:=()
def tw10817550241863182782:=()
def tw13105025840466788687:=()
def tw12542256190417834690:=()
def tw62436881298729611:=()
def tw18362644465789585701:=()
def tw17781769565280132332:=()
def tw16709904811241663449:=()
def tw11104992666256029670:=()
def tw7001372802553805803:=()
def tw65626093356877610:=()
def tw3710726457753318434:=()
def tw1956883156988251173:=()
def tw11741320655414067004:=()
def tw7473615290346972457:=()
def tw5638084140126189767:=()
def tw12830857845204940854:=()
def tw10989469669827840467:=()
def tw7983516466334125833:=()
def tw8751833336009999925:=()
def tw513556276435966583:=()
def tw18386119649899618656:=()
def tw15438385434381489348:=()
def tw13374691393995269704:=()
def tw12962421231360758985:=()
def tw12559163954265855808:=()
def tw6182397829599450445:=()
def tw6057711517849858900:=()
def tw5156025573539193379:=()
def tw4662421376631647025:=()
def tw2763696662447610841:=()
def tw16203682793474889627:=()
def tw11776741658434948663:=()
def tw10797690008643597321:=()
def tw1052921304249718055:=()
def tw6049867626662348108:=()
def tw4654957338018402888:=()
def tw16615877604238019043:=()
def tw5123889699079669578:=()
def tw18392543450557431077:=()
def tw15217802155227099362:=()
def tw808136219738685801:=()
def tw15461796323802193907:=()
def tw13464655782689565098:=()
def tw13131616572031291551:=()
def tw4515732480631268034:=()
def tw480681674878971046:=()
def tw7840278025571046834:=()
def tw17153761190023637256:=()
def tw12794475365439768632:=()
def tw11896584089136945154:=()
def tw7732572928419634219:=()
def tw7139411480962889157:=()
def tw6454550703812583970:=()
def tw5613518708566342627:=()
def tw506086176124060641:=()
def tw2732233100895778165:=()
def tw15616893290034122644:=()
def tw15088591948927833023:=()
def tw13363075521683617240:=()
def tw12186436218775111348:=()
def tw35069692349897862:=()
def tw7318855617001775656:=()
def tw17195848709056274093:=()
def tw4026342475935204789:=()
def tw3053480361197339596:=()
def tw7916550645814805639:=()
def tw9405801164652977135:=()
def tw9325571615651505653:=()
def tw8767748290709699349:=()
def tw8602480614862093799:=()
def tw6151589225203178558:=()
def tw5209212477545526287:=()
def tw3708292227575817910:=()
def tw1848763559504728603:=()
def tw17861884589869078351:=()
def tw15876848530631448237:=()
def tw15708115778242799780:=()
def tw1378242812496164455:=()
def tw13270807379683957341:=()
def tw1254914189115188054:=()
def tw11634346821986761646:=()
def tw10974738513775091874:=()
def tw7472417659908714098:=()
def tw7342025719482407484:=()
def tw6312068362560844867:=()
def tw587950769668519818:=()
def tw5721962355268725748:=()
def tw4504056780433406058:=()
def tw325576081835780358:=()
def tw18377167963070588661:=()
def tw17997311850911584419:=()
def tw17759901697610513784:=()
def tw17595719765860260127:=()
def tw1511409286334771627:=()
def tw11854157101027671408:=()
def tw11617259774600090345:=()
def tw11437559204079208204:=()
def tw10784086211655107629:=()
def tw2999491162692410545:=()
def tw6204746446264680421:=()
def tw5546417485964705578:=()
def tw10418233423431352768:=()
def tw7529102722940645195:=()
def tw4679441944017917231:=()
def tw2895912842922900916:=()
def tw2895135811298811369:=()
def tw2627845985294244562:=()
def tw1924351316063717194:=()
def tw12665753064607974092:=()
def tw8774885700994519073:=()
def tw2637265230290201186:=()
def tw15588758017218923419:=()
def tw9372420882613526284:=()
def tw5547411831361912608:=()
def tw3772791531024966692:=()
def tw2880995160745805386:=()
def tw2502709373369301991:=()
def tw17943161166326547729:=()
def tw17081043598540188434:=()
def tw16560759359310928572:=()
def tw16536877313331837191:=()
def tw14894696532616996213:=()
def tw13397544947158696744:=()
def tw12214289578729682368:=()
def tw9022130154585005100:=()
def tw8641424277881185569:=()
def tw6319912550341556041:=()
def tw4345973087422530861:=()
def tw401085282463781824:=()
def tw2778991991486443759:=()
def tw2765660865931315333:=()
def tw18284049522952319398:=()
def tw16779242253629955437:=()
def tw15714966166645693211:=()
def tw15252131598056861074:=()
def tw15163891602631563211:=()
def tw14938849337146259839:=()
def tw14460482362165373720:=()
def tw14085028533718127263:=()
def tw11732388529006240252:=()
def tw9981999375038253186:=()
def tw9979126564287082874:=()
def tw9960923948227052794:=()
def tw9950877286608569624:=()
def tw9905999056749694843:=()
def tw9898569753622092775:=()
def tw9879936828023641571:=()
def tw9830074838966534357:=()
def tw9808100383279273219:=()
def tw9787579857957493652:=()
def tw971776486957425298:=()
def tw9686399689304207840:=()
def tw9635986472118305504:=()
def tw9568913611241125488:=()
def tw9524757427077111309:=()
def tw9452030999327347173:=()
def tw9388751525328168746:=()
def tw9384968961756787233:=()
def tw9278850666002392076:=()
def tw9199900680976150030:=()
def tw9162979555074965041:=()
def tw9131914455069903823:=()
def tw8952710826230948876:=()
def tw8896222784752217858:=()
def tw8743701813656309265:=()
def tw8732813191298101465:=()
def tw863899253428833474:=()
def tw863531038274681391:=()
def tw8622744261978135078:=()
def tw8523192493551926098:=()
def tw8499332094777970789:=()
def tw8446940763615540742:=()
def tw8425044038155796739:=()
def tw8381471947019953310:=()
def tw8367007214235925300:=()
def tw8356541229195026443:=()
def tw8197123591007707465:=()
def tw8193194362951970007:=()
def tw817820137200137824:=()
def tw8166827530727119500:=()
def tw8150902247999118153:=()
def tw8094944917645105802:=()
def tw8035017115878539940:=()
def tw7977385597732788911:=()
def tw7876739789799197997:=()
def tw7803776363903822485:=()
def tw7736135004487880847:=()
def tw7654926522566567504:=()
def tw752185300418656364:=()
def tw7431244667456410377:=()
def tw7416405216206458285:=()
def tw7294217043450241487:=()
def tw7260775487149544764:=()
def tw7230035197918599966:=()
def tw7183521024026452286:=()
def tw7137510685852894693:=()
def tw7127961707758313494:=()
def tw7091739455933574268:=()
def tw7073911863180865807:=()
def tw6797607913660193722:=()
def tw6757162021090064550:=()
def tw6722035035230996659:=()
def tw6662848314360845204:=()
def tw6529014545789119054:=()
def tw6447509795119893529:=()
def tw6437380343196661542:=()
def tw640207064750432808:=()
def tw6337360546831783235:=()
def tw6335180989060560111:=()
def tw6193138627096438660:=()
def tw615390444879443093:=()
def tw605161489219492072:=()
def tw6001869668712466686:=()
def tw5992237976425235598:=()
def tw5938425031045751180:=()
def tw5834192344786741826:=()
def tw5761544657975013222:=()
def tw5699231466898939681:=()
def tw5685098087066470534:=()
def tw5626554977413779418:=()
def tw5487011717401357807:=()
def tw5484308168671411156:=()
def tw5353336563672764408:=()
def tw5293939701216933455:=()
def tw5267284392542127253:=()
def tw5207074702107593504:=()
def tw5205484832628950379:=()
def tw5203546504649149612:=()
def tw4963610359553023183:=()
def tw4951082860107099301:=()
def tw469158314986004009:=()
def tw4580076436525935194:=()
def tw4573759117703489210:=()
def tw4467300510248135376:=()
def tw4443339285961453366:=()
def tw4214408815540200168:=()
def tw4184187550152886838:=()
def tw4182733287158695037:=()
def tw4082957265171579059:=()
def tw3888581022157374790:=()
def tw3854491401983717878:=()
def tw3749725122368622258:=()
def tw3735329841671075580:=()
def tw3727062450352119293:=()
def tw3418829663800382781:=()
def tw3358067857895364884:=()
def tw3215141511878848393:=()
def tw3133181314511482541:=()
def tw2950845105594896953:=()
def tw2914308251525265848:=()
def tw288075896223085856:=()
def tw2796996440500175567:=()
def tw2778250065619254489:=()
def tw2688927194013458206:=()
def tw2668132829971155079:=()
def tw2534712964750712130:=()
def tw2499773735449274886:=()
def tw2406079268019064703:=()
def tw2366680421773115625:=()
def tw2324485199467710121:=()
def tw2322787320178775588:=()
def tw2258401037147095834:=()
def tw2187721044414230783:=()
def tw2048850307517673856:=()
def tw2048329996891198422:=()
def tw1914975821220892785:=()
def tw18321726420944392882:=()
def tw1821488366816709237:=()
def tw18156378558804778506:=()
def tw1793769903051058833:=()
def tw17826195438657351042:=()
def tw17795019634899616345:=()
def tw177770094879274745:=()
def tw17754862522136561405:=()
def tw17693206996114009401:=()
def tw17676485297587601723:=()
def tw17639586303566031496:=()
def tw17592824313018747902:=()
def tw1754741711808506223:=()
def tw17503665530107561951:=()
def tw17429367815108985407:=()
def tw17423091269096448567:=()
def tw17351976571789138832:=()
def tw17307657367465663958:=()
def tw17260500316497778855:=()
def tw17204914187494412628:=()
def tw17154182004423338298:=()
def tw1710835429273650075:=()
def tw17084759384681582710:=()
def tw17021157860639966616:=()
def tw16985110390640625302:=()
def tw16947506725272080308:=()
def tw16930409708922569984:=()
def tw16910145143156572916:=()
def tw16898132218527188821:=()
def tw16792278762460033450:=()
def tw16763395935715480252:=()
def tw16746295691633086668:=()
def tw16579965490501884520:=()
def tw16546462590274343554:=()
def tw16453207615249142105:=()
def tw16352427213208076969:=()
def tw16111025437368606703:=()
def tw15960147269297682635:=()
def tw15955169064000418782:=()
def tw15926947224520557408:=()
def tw15825431004028119738:=()
def tw15809964555723415157:=()
def tw15773810398471991430:=()
def tw15770613345371613330:=()
def tw15739797270544839488:=()
def tw15620550761430312001:=()
def tw15421639684898485674:=()
def tw15370515507376120800:=()
def tw15330379805428438996:=()
def tw15325126952881885847:=()
def tw15259109402466508538:=()
def tw15210039688089494413:=()
def tw15075719635638312222:=()
def tw15063158086084110772:=()
def tw15015516352404723505:=()
def tw14923412117988513820:=()
def tw14885441911057649729:=()
def tw14867475487514880216:=()
def tw14844252902699550007:=()
def tw14802082865413221155:=()
def tw14780648020290479904:=()
def tw14531073801851577598:=()
def tw14435761167671873579:=()
def tw14347288554607138692:=()
def tw14226103053616382169:=()
def tw14214501921232275541:=()
def tw14161547374159219891:=()
def tw14096025831897261597:=()
def tw14039963012196187515:=()
def tw14033391537154390442:=()
def tw14027507644089284948:=()
def tw13924553187941361364:=()
def tw13902488236758036467:=()
def tw13899594762560620101:=()
def tw13890900943183284708:=()
def tw13768658717708836629:=()
def tw13744243335293535457:=()
def tw13651158873746240144:=()
def tw13650277984161504215:=()
def tw13546486424963488225:=()
def tw13468086097904398235:=()
def tw13404763443570812121:=()
def tw13217094924664152327:=()
def tw1312530322963734226:=()
def tw12949007624504220937:=()
def tw12925917866134890369:=()
def tw12804860509614602013:=()
def tw12787454043865766046:=()
def tw1273686317992625862:=()
def tw12725003432658307712:=()
def tw12672591903312639536:=()
def tw12639850940399525419:=()
def tw12559458775033651788:=()
def tw12383310657230241310:=()
def tw12359975765390182005:=()
def tw12253330354046298796:=()
def tw12198406806953263165:=()
def tw1216610053710537652:=()
def tw12079505933256632066:=()
def tw11951717365077700237:=()
def tw11940515340429556025:=()
def tw11793801752209326545:=()
def tw11779447304301848533:=()
def tw11748613040218853372:=()
def tw11739361979081001411:=()
def tw11707895421244481513:=()
def tw1169241124700866894:=()
def tw11612039095323442718:=()
def tw11526712764949206649:=()
def tw11462640364071783627:=()
def tw11433795694944667887:=()
def tw11295605289005584211:=()
def tw11260063061346388936:=()
def tw11191031847774585485:=()
def tw11144655830665553725:=()
def tw11060415934090275542:=()
def tw11008123919479465887:=()
def tw10969468282668624081:=()
def tw10835879251275478555:=()
def tw10826199125404855611:=()
def tw10590071440193111389:=()
def tw10445284074256845131:=()
def tw10417482518540063013:=()
def tw1040565879585306072:=()
def tw10401783278509684142:=()
def tw10329430517335761268:=()
def tw10310982853361185728:=()
def tw10291031015437989722:=()
def tw10215462239855204293:=()
def tw10154596706740715489:=()
def tw10143804971561743404:=()
def tw10107915505883901401:=()
def tw10025150618055673409:=()
end PySem.W.Fast
open PySem PySem.W PyProof.Rows
set_option maxRecDepth 100000 in
set_option maxHeartbeats 0 in
theorem PySem.Challenge.cw_grindbench_k70_rows_that_are_none_holds : PySem.Challenge.rw_grindbench_k70_rows_that_are_none.Holds := by
 w_on;o_law;k_head;(case hw=>w_witness2)
 k_fill
 refine K70.walk (l:=PySem.Challenge.rw_grindbench_k70_rows_that_are_none) rfl rfl (λ w h Y=>PySem.W.kIn_of Y) ?F
 case F=>
  intro w mg fa h KX G hmg;have RP:L2.TopFn (L2.KOf KX) mg "is_whole" K70.Rr:=by dsimp only [L2.KOf];refine' L2.Ar KX G ?a ?l ?c ?k;case a|l|c|k=>k_is
  have Qz:L2.TopFn (L2.KOf KX) mg "common_divisor" K70.Pj:=by dsimp only [L2.KOf];refine' L2.Ar KX G ?a ?l ?c ?k;case a|l|c|k=>k_is
  have M5:L2.TopFn (L2.KOf KX) mg "is_ratio" K70.R7:=by dsimp only [L2.KOf];refine' L2.Ar KX G ?a ?l ?c ?k;case a|l|c|k=>k_is
  have Z5:L2.TopFn (L2.KOf KX) mg "ratio_of" K70.Zz:=by dsimp only [L2.KOf];refine' L2.Ar KX G ?a ?l ?c ?k;case a|l|c|k=>k_is
  have Y8:L2.TopFn (L2.KOf KX) mg "sum_of" K70.Zf:=by dsimp only [L2.KOf];refine' L2.Ar KX G ?a ?l ?c ?k;case a|l|c|k=>k_is
  have W9:L2.TopFn (L2.KOf KX) mg "less_by" K70.Up:=by dsimp only [L2.KOf];refine' L2.Ar KX G ?a ?l ?c ?k;case a|l|c|k=>k_is
  have Uo:L2.TopFn (L2.KOf KX) mg "product_of" K70.YJ:=by dsimp only [L2.KOf];refine' L2.Ar KX G ?a ?l ?c ?k;case a|l|c|k=>k_is
  have aJ:L2.TopFn (L2.KOf KX) mg "quotient_of" K70.Y4:=by dsimp only [L2.KOf];refine' L2.Ar KX G ?a ?l ?c ?k;case a|l|c|k=>k_is
  have QW:L2.TopFn (L2.KOf KX) mg "is_less" K70.Sy:=by dsimp only [L2.KOf];refine' L2.Ar KX G ?a ?l ?c ?k;case a|l|c|k=>k_is
  have SQ:L2.TopFn (L2.KOf KX) mg "is_piece" K70.Iz:=by dsimp only [L2.KOf];refine' L2.Ar KX G ?a ?l ?c ?k;case a|l|c|k=>k_is
  have VB:L2.TopFn (L2.KOf KX) mg "piece_of" K70.Vi:=by dsimp only [L2.KOf];refine' L2.Ar KX G ?a ?l ?c ?k;case a|l|c|k=>k_is
  have O8:L2.TopFn (L2.KOf KX) mg "look_at" K70.Qa:=by dsimp only [L2.KOf];refine' L2.Ar KX G ?a ?l ?c ?k;case a|l|c|k=>k_is
  have Za:L2.TopFn (L2.KOf KX) mg "is_table" K70.Ui:=by dsimp only [L2.KOf];refine' L2.Ar KX G ?a ?l ?c ?k;case a|l|c|k=>k_is
  have Z6:L2.TopFn (L2.KOf KX) mg "look_at_table" K70.W0:=by dsimp only [L2.KOf];refine' L2.Ar KX G ?a ?l ?c ?k;case a|l|c|k=>k_is
  have Vh:L2.TopFn (L2.KOf KX) mg "table_of_rays" K70.Ys:=by dsimp only [L2.KOf];refine' L2.Ar KX G ?a ?l ?c ?k;case a|l|c|k=>k_is
  have YW:L2.TopFn (L2.KOf KX) mg "table_of" K70.Yk:=by dsimp only [L2.KOf];refine' L2.Ar KX G ?a ?l ?c ?k;case a|l|c|k=>k_is
  have Yn:L2.TopFn (L2.KOf KX) mg "made_by" K70.aB:=by dsimp only [L2.KOf];refine' L2.Ar KX G ?a ?l ?c ?k;case a|l|c|k=>k_is
  have ZF:L2.TopFn (L2.KOf KX) mg "joined" K70.ZG:=by dsimp only [L2.KOf];refine' L2.Ar KX G ?a ?l ?c ?k;case a|l|c|k=>k_is
  have WQ:L2.TopFn (L2.KOf KX) mg "less" K70.aa:=by dsimp only [L2.KOf];refine' L2.Ar KX G ?a ?l ?c ?k;case a|l|c|k=>k_is
  have W4:L2.TopFn (L2.KOf KX) mg "part_short_of_one" K70.W8:=by dsimp only [L2.KOf];refine' L2.Ar KX G ?a ?l ?c ?k;case a|l|c|k=>k_is
  have W2:L2.TopFn (L2.KOf KX) mg "glass_gap_glass" K70.Wi:=by dsimp only [L2.KOf];refine' L2.Ar KX G ?a ?l ?c ?k;case a|l|c|k=>k_is
  have Yi:L2.TopFn (L2.KOf KX) mg "gap_glass_gap" K70.Wf:=by dsimp only [L2.KOf];refine' L2.Ar KX G ?a ?l ?c ?k;case a|l|c|k=>k_is
  have Uk:L2.TopFn (L2.KOf KX) mg "taken_apart" K70.X7:=by dsimp only [L2.KOf];refine' L2.Ar KX G ?a ?l ?c ?k;case a|l|c|k=>k_is
  have U5:L2.TopFn (L2.KOf KX) mg "is_stretch" K70.WK:=by dsimp only [L2.KOf];refine' L2.Ar KX G ?a ?l ?c ?k;case a|l|c|k=>k_is
  have Z8:L2.TopFn (L2.KOf KX) mg "look_at_stretch" K70.aq:=by dsimp only [L2.KOf];refine' L2.Ar KX G ?a ?l ?c ?k;case a|l|c|k=>k_is
  have aA:L2.TopFn (L2.KOf KX) mg "is_box" K70.Vs:=by dsimp only [L2.KOf];refine' L2.Ar KX G ?a ?l ?c ?k;case a|l|c|k=>k_is
  have Wm:L2.TopFn (L2.KOf KX) mg "look_at_box" K70.Xq:=by dsimp only [L2.KOf];refine' L2.Ar KX G ?a ?l ?c ?k;case a|l|c|k=>k_is
  have Wo:L2.TopFn (L2.KOf KX) mg "limits_of" K70.U7:=by dsimp only [L2.KOf];refine' L2.Ar KX G ?a ?l ?c ?k;case a|l|c|k=>k_is
  have Uw:L2.TopFn (L2.KOf KX) mg "is_before" K70.ZL:=by dsimp only [L2.KOf];refine' L2.Ar KX G ?a ?l ?c ?k;case a|l|c|k=>k_is
  have Wg:L2.TopFn (L2.KOf KX) mg "corners_of" K70.Ti:=by dsimp only [L2.KOf];refine' L2.Ar KX G ?a ?l ?c ?k;case a|l|c|k=>k_is
  have au:L2.TopFn (L2.KOf KX) mg "edges_of" K70.XJ:=by dsimp only [L2.KOf];refine' L2.Ar KX G ?a ?l ?c ?k;case a|l|c|k=>k_is
  have Xl:L2.TopFn (L2.KOf KX) mg "room_at" K70.ZC:=by dsimp only [L2.KOf];refine' L2.Ar KX G ?a ?l ?c ?k;case a|l|c|k=>k_is
  have Zo:L2.TopFn (L2.KOf KX) mg "crossing_of" K70.Vf:=by dsimp only [L2.KOf];refine' L2.Ar KX G ?a ?l ?c ?k;case a|l|c|k=>k_is
  have VH:L2.TopFn (L2.KOf KX) mg "cut_by" K70.Vl:=by dsimp only [L2.KOf];refine' L2.Ar KX G ?a ?l ?c ?k;case a|l|c|k=>k_is
  have Ux:L2.TopFn (L2.KOf KX) mg "from_the_least" K70.Yw:=by dsimp only [L2.KOf];refine' L2.Ar KX G ?a ?l ?c ?k;case a|l|c|k=>k_is
  have Wr:L2.TopFn (L2.KOf KX) mg "field_of" K70.Tj:=by dsimp only [L2.KOf];refine' L2.Ar KX G ?a ?l ?c ?k;case a|l|c|k=>k_is
  have R8:L2.TopFn (L2.KOf KX) mg "show_ratio" K70.QD:=by dsimp only [L2.KOf];refine' L2.Ar KX G ?a ?l ?c ?k;case a|l|c|k=>k_is
  have MT:L2.TopFnA (L2.KOf KX) mg "read_part_figures" "read_part" K70.RB:=by dsimp only [L2.KOf];refine' L2.Jg KX G ?a ?l ?c ?k;case a|l|c|k=>k_is
  have Ja:L2.TopFn (L2.KOf KX) mg "read_ratio" K70.Fy:=by dsimp only [L2.KOf];refine' L2.Ar KX G ?a ?l ?c ?k;case a|l|c|k=>k_is
  have bA:L2.TopFn (L2.KOf KX) mg "spread_of" K70.Z0:=by dsimp only [L2.KOf];refine' L2.Ar KX G ?a ?l ?c ?k;case a|l|c|k=>k_is
  have We:L2.TopFn (L2.KOf KX) mg "image_of" K70.Wh:=by dsimp only [L2.KOf];refine' L2.Ar KX G ?a ?l ?c ?k;case a|l|c|k=>k_is
  have U0:L2.TopFn (L2.KOf KX) mg "growth_of" K70.Yx:=by dsimp only [L2.KOf];refine' L2.Ar KX G ?a ?l ?c ?k;case a|l|c|k=>k_is
  have Uh:L2.TopFn (L2.KOf KX) mg "in_order" K70.Yl:=by dsimp only [L2.KOf];refine' L2.Ar KX G ?a ?l ?c ?k;case a|l|c|k=>k_is
  have Z9:L2.TopFn (L2.KOf KX) mg "lesser_of" K70.Yo:=by dsimp only [L2.KOf];refine' L2.Ar KX G ?a ?l ?c ?k;case a|l|c|k=>k_is
  have Wq:L2.TopFn (L2.KOf KX) mg "greater_of" K70.X6:=by dsimp only [L2.KOf];refine' L2.Ar KX G ?a ?l ?c ?k;case a|l|c|k=>k_is
  have aX:L2.TopFn (L2.KOf KX) mg "slants_by" K70.W7:=by dsimp only [L2.KOf];refine' L2.Ar KX G ?a ?l ?c ?k;case a|l|c|k=>k_is
  have Xn:L2.TopFn (L2.KOf KX) mg "slants_of" K70.YH:=by dsimp only [L2.KOf];refine' L2.Ar KX G ?a ?l ?c ?k;case a|l|c|k=>k_is
  have Vz:L2.TopFn (L2.KOf KX) mg "height_at" K70.Vg:=by dsimp only [L2.KOf];refine' L2.Ar KX G ?a ?l ?c ?k;case a|l|c|k=>k_is
  have Tq:L2.TopFn (L2.KOf KX) mg "spots_of" K70.Z4:=by dsimp only [L2.KOf];refine' L2.Ar KX G ?a ?l ?c ?k;case a|l|c|k=>k_is
  have Xa:L2.TopFn (L2.KOf KX) mg "blur_of" K70.aj:=by dsimp only [L2.KOf];refine' L2.Ar KX G ?a ?l ?c ?k;case a|l|c|k=>k_is
  have Ou:L2.TopFn (L2.KOf KX) mg "is_name" K70.Rf:=by dsimp only [L2.KOf];refine' L2.Ar KX G ?a ?l ?c ?k;case a|l|c|k=>k_is
  have bC:L2.TopFn (L2.KOf KX) mg "walk_of" K70.Y7:=by dsimp only [L2.KOf];refine' L2.Ar KX G ?a ?l ?c ?k;case a|l|c|k=>k_is
  have XM:L2.TopFn (L2.KOf KX) mg "rounds_of" K70.Xp:=by dsimp only [L2.KOf];refine' L2.Ar KX G ?a ?l ?c ?k;case a|l|c|k=>k_is
  have Vm:L2.TopFn (L2.KOf KX) mg "sharp_places" K70.Tn:=by dsimp only [L2.KOf];refine' L2.Ar KX G ?a ?l ?c ?k;case a|l|c|k=>k_is
  have O3:L2.TopFn (L2.KOf KX) mg "words_of" K70.RX:=by dsimp only [L2.KOf];refine' L2.Ar KX G ?a ?l ?c ?k;case a|l|c|k=>k_is
  have OD:L2.TopFnA (L2.KOf KX) mg "read_number_texts" "read_number" K70.Ri:=by dsimp only [L2.KOf];refine' L2.Jg KX G ?a ?l ?c ?k;case a|l|c|k=>k_is
  have WW:L2.TopFn (L2.KOf KX) mg "read_times" K70.YF:=by dsimp only [L2.KOf];refine' L2.Ar KX G ?a ?l ?c ?k;case a|l|c|k=>k_is
  have Ph:L2.TopFn (L2.KOf KX) mg "read_round" K70.T9:=by dsimp only [L2.KOf];refine' L2.Ar KX G ?a ?l ?c ?k;case a|l|c|k=>k_is
  have RK:L2.TopFnA (L2.KOf KX) mg "read_part_texts" "read_part" K70.Nf:=by dsimp only [L2.KOf];refine' L2.Jg KX G ?a ?l ?c ?k;case a|l|c|k=>k_is
  have Rg:L2.TopFn (L2.KOf KX) mg "read_parts" K70.Qm:=by dsimp only [L2.KOf];refine' L2.Ar KX G ?a ?l ?c ?k;case a|l|c|k=>k_is
  have Jv:L2.TopFn (L2.KOf KX) mg "count_of" K70.Ni:=by dsimp only [L2.KOf];refine' L2.Ar KX G ?a ?l ?c ?k;case a|l|c|k=>k_is
  have Lj:L2.TopFn (L2.KOf KX) mg "told_out" K70.Ox:=by dsimp only [L2.KOf];refine' L2.Ar KX G ?a ?l ?c ?k;case a|l|c|k=>k_is
  have Q3:L2.TopFn (L2.KOf KX) mg "read_bench" K70.Qi:=by dsimp only [L2.KOf];refine' L2.Ar KX G ?a ?l ?c ?k;case a|l|c|k=>k_is
  have Nz:L2.TopFn (L2.KOf KX) mg "show_piece" K70.R0:=by dsimp only [L2.KOf];refine' L2.Ar KX G ?a ?l ?c ?k;case a|l|c|k=>k_is
  have Nq:L2.TopFn (L2.KOf KX) mg "show_bench" K70.Su:=by dsimp only [L2.KOf];refine' L2.Ar KX G ?a ?l ?c ?k;case a|l|c|k=>k_is
  have Pb:L2.TopFn (L2.KOf KX) mg "turned_bench" K70.Td:=by dsimp only [L2.KOf];refine' L2.Ar KX G ?a ?l ?c ?k;case a|l|c|k=>k_is
  have Wv:L2.TopFn (L2.KOf KX) mg "shown" K70.ao:=by dsimp only [L2.KOf];refine' L2.Ar KX G ?a ?l ?c ?k;case a|l|c|k=>k_is
  have Oq:L2.TopFn (L2.KOf KX) mg "show_answer" K70.NQ:=by dsimp only [L2.KOf];refine' L2.Ar KX G ?a ?l ?c ?k;case a|l|c|k=>k_is
  have Yr:L2.TopFn (L2.KOf KX) mg "walk_answer" K70.W3:=by dsimp only [L2.KOf];refine' L2.Ar KX G ?a ?l ?c ?k;case a|l|c|k=>k_is
  have Wn:L2.TopFn (L2.KOf KX) mg "table_answer" K70.YD:=by dsimp only [L2.KOf];refine' L2.Ar KX G ?a ?l ?c ?k;case a|l|c|k=>k_is
  have U9:L2.TopFn (L2.KOf KX) mg "apart_answer" K70.Xe:=by dsimp only [L2.KOf];refine' L2.Ar KX G ?a ?l ?c ?k;case a|l|c|k=>k_is
  have Zy:L2.TopFn (L2.KOf KX) mg "image_answer" K70.Ut:=by dsimp only [L2.KOf];refine' L2.Ar KX G ?a ?l ?c ?k;case a|l|c|k=>k_is
  have V3:L2.TopFn (L2.KOf KX) mg "field_answer" K70.ZD:=by dsimp only [L2.KOf];refine' L2.Ar KX G ?a ?l ?c ?k;case a|l|c|k=>k_is
  have Ws:L2.TopFn (L2.KOf KX) mg "sharp_answer" K70.Wx:=by dsimp only [L2.KOf];refine' L2.Ar KX G ?a ?l ?c ?k;case a|l|c|k=>k_is
  have Ul:L2.TopFn (L2.KOf KX) mg "rounds_answer" K70.UL:=by dsimp only [L2.KOf];refine' L2.Ar KX G ?a ?l ?c ?k;case a|l|c|k=>k_is
  have Gj:L2.TopFn (L2.KOf KX) mg "look_at_name" K70.Ov:=by dsimp only [L2.KOf];refine' L2.Ar KX G ?a ?l ?c ?k;case a|l|c|k=>k_is
  have Gs:L2.TopFnA (L2.KOf KX) mg "read_number_desk" "read_number" K70.RC:=by dsimp only [L2.KOf];refine' L2.Jg KX G ?a ?l ?c ?k;case a|l|c|k=>k_is
  have LK:L2.TopFn (L2.KOf KX) mg "read_row" K70.Ss:=by dsimp only [L2.KOf];refine' L2.Ar KX G ?a ?l ?c ?k;case a|l|c|k=>k_is
  have Tg:L2.TopFn (L2.KOf KX) mg "_law_cell_at" K70.Rq:=by dsimp only [L2.KOf];refine' L2.Ar KX G ?a ?l ?c ?k;case a|l|c|k=>k_is
  have O1:L2.TopFn (L2.KOf KX) mg "_law_drawn" K70.T8:=by dsimp only [L2.KOf];refine' L2.Ar KX G ?a ?l ?c ?k;case a|l|c|k=>k_is
  have Sg:L2.TopFn (L2.KOf KX) mg "_law_draw" K70.RM:=by dsimp only [L2.KOf];refine' L2.Ar KX G ?a ?l ?c ?k;case a|l|c|k=>k_is
  have Qg:L2.TopFn (L2.KOf KX) mg "_law_low" K70.PB:=by dsimp only [L2.KOf];refine' L2.Ar KX G ?a ?l ?c ?k;case a|l|c|k=>k_is
  have PN:L2.TopFn (L2.KOf KX) mg "_law_under" K70.T5:=by dsimp only [L2.KOf];refine' L2.Ar KX G ?a ?l ?c ?k;case a|l|c|k=>k_is
  have Ow:L2.TopFn (L2.KOf KX) mg "_law_part" K70.Ho:=by dsimp only [L2.KOf];refine' L2.Ar KX G ?a ?l ?c ?k;case a|l|c|k=>k_is
  have NK:L2.TopFn (L2.KOf KX) mg "_law_piece" K70.Rm:=by dsimp only [L2.KOf];refine' L2.Ar KX G ?a ?l ?c ?k;case a|l|c|k=>k_is
  have Nt:L2.TopFn (L2.KOf KX) mg "_law_plus" K70.Q6:=by dsimp only [L2.KOf];refine' L2.Ar KX G ?a ?l ?c ?k;case a|l|c|k=>k_is
  have O4:L2.TopFn (L2.KOf KX) mg "_law_less" K70.Qq:=by dsimp only [L2.KOf];refine' L2.Ar KX G ?a ?l ?c ?k;case a|l|c|k=>k_is
  have Pk:L2.TopFn (L2.KOf KX) mg "_law_written" K70.T4:=by dsimp only [L2.KOf];refine' L2.Ar KX G ?a ?l ?c ?k;case a|l|c|k=>k_is
  have Oa:L2.TopFn (L2.KOf KX) mg "_law_shown" K70.NT:=by dsimp only [L2.KOf];refine' L2.Ar KX G ?a ?l ?c ?k;case a|l|c|k=>k_is
  have QT:L2.TopFn (L2.KOf KX) mg "_law_piece_text" K70.Ny:=by dsimp only [L2.KOf];refine' L2.Ar KX G ?a ?l ?c ?k;case a|l|c|k=>k_is
  have Q5:L2.TopFn (L2.KOf KX) mg "_law_text" K70.Tf:=by dsimp only [L2.KOf];refine' L2.Ar KX G ?a ?l ?c ?k;case a|l|c|k=>k_is
  have QC:L2.TopFn (L2.KOf KX) mg "_law_called" K70.SX:=by dsimp only [L2.KOf];refine' L2.Ar KX G ?a ?l ?c ?k;case a|l|c|k=>k_is
  have O2:L2.TopFn (L2.KOf KX) mg "_law_benches" K70.QH:=by dsimp only [L2.KOf];refine' L2.Ar KX G ?a ?l ?c ?k;case a|l|c|k=>k_is
  have RG:L2.TopFn (L2.KOf KX) mg "_law_laid" K70.K3:=by dsimp only [L2.KOf];refine' L2.Ar KX G ?a ?l ?c ?k;case a|l|c|k=>k_is
  have Nk:L2.TopFn (L2.KOf KX) mg "_law_class" K70.Rw:=by dsimp only [L2.KOf];refine' L2.Ar KX G ?a ?l ?c ?k;case a|l|c|k=>k_is
  have R9:L2.TopFn (L2.KOf KX) mg "_law_names" K70.Sw:=by dsimp only [L2.KOf];refine' L2.Ar KX G ?a ?l ?c ?k;case a|l|c|k=>k_is
  have TF:L2.TopFn (L2.KOf KX) mg "_law_words" K70.Oh:=by dsimp only [L2.KOf];refine' L2.Ar KX G ?a ?l ?c ?k;case a|l|c|k=>k_is
  have Sd:L2.TopFn (L2.KOf KX) mg "_law_names_bad" K70.Kq:=by dsimp only [L2.KOf];refine' L2.Ar KX G ?a ?l ?c ?k;case a|l|c|k=>k_is
  have QG:L2.TopFn (L2.KOf KX) mg "_law_numbers_bad" K70.Ko:=by dsimp only [L2.KOf];refine' L2.Ar KX G ?a ?l ?c ?k;case a|l|c|k=>k_is
  have Py:L2.TopFn (L2.KOf KX) mg "_law_row" K70.Qc:=by dsimp only [L2.KOf];refine' L2.Ar KX G ?a ?l ?c ?k;case a|l|c|k=>k_is
  have tQ:L2.TopFn (L2.KOf KX) mg "law" K70.Hu:=by dsimp only [L2.KOf];refine' L2.Ar KX G ?a ?l ?c ?k;case a|l|c|k=>k_is
  have uI:mg "ValueError"=none:=by refine' PySem.W.mg_none_of KX G ?a;case a=>k_is
  have jU:mg "abs"=none:=by refine' PySem.W.mg_none_of KX G ?a;case a=>k_is
  have jG:mg "all"=none:=by refine' PySem.W.mg_none_of KX G ?a;case a=>k_is
  have iu:mg "bool"=none:=by refine' PySem.W.mg_none_of KX G ?a;case a=>k_is
  have fZ:mg "enumerate"=none:=by refine' PySem.W.mg_none_of KX G ?a;case a=>k_is
  have uD:mg "int"=none:=by refine' PySem.W.mg_none_of KX G ?a;case a=>k_is
  have rE:mg "isinstance"=none:=by refine' PySem.W.mg_none_of KX G ?a;case a=>k_is
  have iU:mg "len"=none:=by refine' PySem.W.mg_none_of KX G ?a;case a=>k_is
  have jB:mg "list"=none:=by refine' PySem.W.mg_none_of KX G ?a;case a=>k_is
  have lM:mg "range"=none:=by refine' PySem.W.mg_none_of KX G ?a;case a=>k_is
  have bH:mg "reversed"=none:=by refine' PySem.W.mg_none_of KX G ?a;case a=>k_is
  have oM:mg "str"=none:=by refine' PySem.W.mg_none_of KX G ?a;case a=>k_is
  have cV:mg "tuple"=none:=by refine' PySem.W.mg_none_of KX G ?a;case a=>k_is
  have mX:mg "zip"=none:=by refine' PySem.W.mg_none_of KX G ?a;case a=>k_is
  have X0:∃ad,K70.Exc (L2.KOf KX) mg ad/\w.params=ad.pr:=by
   dsimp only [L2.KOf]
   refine' ⟨_,K70.dj w.params KX G ?za0 ?za1 ?za2 ?za3 ?za4 ?za5 ?za6 ?za7 ?za8 ?za9 ?zb0 ?zb1 ?zb2 ?zb3 ?zb4 ?zb5 ?zb6 ?zb7 ?zb8 ?zb9 ?zc0 ?zc1 ?zc2 ?zc3 ?zc4 ?zc5 ?zc6 ?zc7 ?zc8 ?zc9 ?zd0 ?zd1 ?zd2 ?zd3 ?zd4 ?zd5 ?zd6 ?zd7 ?zd8 ?zd9 ?ze0 ?ze1 ?ze2 ?ze3 ?ze4 ?ze5 ?ze6 ?ze7 ?ze8 ?ze9 ?zf0 ?zf1 ?zf2 ?zf3 ?zf4 ?zf5 ?zf6 ?zf7 ?zf8 ?zf9 ?zg0 ?zg1 ?zg2 ?zg3 ?zg4 ?zg5 ?zg6 ?zg7 ?zg8 ?zg9 ?zh0 ?zh1 ?zh2 ?zh3 ?zh4 ?zh5 ?zh6 ?zh7 ?zh8 ?zh9 ?zi0 ?zi1 ?zi2 ?zi3 ?zi4 ?zi5 ?zi6 ?zi7 ?zi8 ?zi9 ?zj0 ?zj1 ?zj2 ?zj3 ?zj4 ?zj5 ?zj6 ?zj7 ?zj8 ?zj9 ?zk0 ?zk1 ?zk2 ?zk3 ?zk4 ?zk5 ?zk6 ?zk7 ?zk8 ?zk9 ?zl0 ?zl1 ?zl2 ?zl3 ?zl4 ?zl5 ?zl6 ?zl7 ?zl8 ?zl9 ?zm0 ?zm1 ?zm2 ?zm3 ?zm4 ?zm5 ?zm6 ?zm7 ?zm8 ?zm9 ?zn0 ?zn1 ?zn2 ?zn3 ?zn4 ?zn5 ?zn6 ?zn7 ?zn8 ?zn9 ?zo0 ?zo1 ?zo2 ?zo3 ?zo4 ?zo5 ?zo6 ?zo7 ?zo8 ?zo9 ?zp0 ?zp1 ?zp2 ?zp3 ?zp4 ?zp5 ?zp6 ?zp7 ?zp8 ?zp9 ?zq0 ?zq1 ?zq2 ?zq3 ?zq4 ?zq5 ?zq6 ?zq7 ?zq8 ?zq9 ?zr0 ?zr1 ?zr2 ?zr3 ?zr4 ?zr5 ?zr6 ?zr7 ?zr8 ?zr9 ?zs0 ?zs1 ?zs2 ?zs3 ?zs4 ?zs5 ?zs6 ?zs7 ?zs8 ?zs9 ?zt0 ?zt1 ?zt2 ?zt3 ?zt4 ?zt5 ?zt6 ?zt7 ?zt8 ?zt9 ?zu0 ?zu1 ?zu2 ?zu3 ?zu4 ?zu5 ?zu6 ?zu7 ?zu8 ?zu9 ?zv0 ?zv1 ?zv2 ?zv3 ?zv4 ?zv5 ?zv6 ?zv7 ?zv8 ?zv9 ?zw0 ?zw1 ?zw2 ?zw3 ?zw4 ?zw5 ?zw6 ?zw7 ?zw8 ?zw9 ?zx0 ?zx1 ?zx2 ?zx3 ?zx4 ?zx5 ?zx6 ?zx7 ?zx8 ?zx9 ?zy0 ?zy1 ?zy2 ?zy3 ?zy4 ?zy5 ?zy6 ?zy7 ?zy8 ?zy9 ?zz0 ?zz1 ?zz2 ?zz3 ?zz4 ?zz5 ?zz6 ?zz7 ?zz8 ?zz9 ?zA0,rfl⟩
   case za0|za1|za2|za3|za4|za5|za6|za7|za8|za9|zb0|zb1|zb2|zb3|zb4|zb5|zb6=>k_is
   case zb7=>decide
   case zb8=>k_is
   case zb9=>decide
   case zc0=>k_is
   case zc1=>decide
   case zc2|zc3=>k_is
   case zc4=>decide
   case zc5|zc6=>k_is
   case zc7=>decide
   case zc8=>k_is
   case zc9=>decide
   case zd0=>k_is
   case zd1=>decide
   case zd2=>k_is
   case zd3=>decide
   case zd4|zd5|zd6=>k_is
   case zd7=>decide
   case zd8|zd9=>k_is
   case ze0=>decide
   case ze1=>k_is
   case ze2=>decide
   case ze3|ze4|ze5|ze6=>k_exc
   case ze7|ze8|ze9=>kts_exm
   case zf0|zf1|zf2|zf3|zf4|zf5|zf6|zf7|zf8|zf9|zg0|zg1|zg2|zg3|zg4|zg5|zg6|zg7|zg8|zg9=>kit_is
   case zh0|zh1|zh2|zh3|zh4|zh5|zh6|zh7|zh8|zh9|zi0|zi1|zi2|zi3|zi4|zi5|zi6|zi7|zi8|zi9|zj0|zj1|zj2|zj3|zj4|zj5|zj6|zj7|zj8|zj9|zk0|zk1|zk2|zk3|zk4|zk5|zk6|zk7|zk8|zk9|zl0|zl1|zl2|zl3|zl4|zl5|zl6|zl7|zl8|zl9|zm0|zm1|zm2|zm3|zm4|zm5|zm6|zm7|zm8|zm9|zn0|zn1|zn2|zn3|zn4|zn5|zn6|zn7|zn8|zn9|zo0|zo1|zo2|zo3|zo4|zo5|zo6|zo7|zo8|zo9|zp0|zp1|zp2|zp3|zp4|zp5|zp6|zp7|zp8|zp9|zq0|zq1|zq2|zq3|zq4|zq5|zq6|zq7|zq8|zq9|zr0|zr1|zr2|zr3|zr4|zr5|zr6|zr7|zr8|zr9|zs0|zs1|zs2|zs3|zs4|zs5|zs6|zs7|zs8|zs9|zt0|zt1|zt2|zt3|zt4|zt5|zt6|zt7|zt8|zt9|zu0|zu1|zu2|zu3|zu4|zu5|zu6|zu7|zu8|zu9|zv0|zv1|zv2|zv3|zv4|zv5|zv6|zv7|zv8|zv9|zw0=>k_is
   case zw1|zw2|zw3|zw4|zw5|zw6|zw7|zw8|zw9|zx0=>rfl
   case zx1=>decide
   case zx2|zx3|zx4|zx5|zx6|zx7|zx8|zx9|zy0|zy1|zy2|zy3|zy4|zy5|zy6|zy7|zy8|zy9|zz0|zz1=>k_is
   case zz2|zz3|zz4|zz5|zz6|zz7|zz8|zz9=>rfl
   case zA0=>decide
  obtain ⟨ad,X0,hw⟩:=X0;obtain ⟨fd,FL,bL⟩:=K70.lu tQ hmg;exact ⟨fd,bL,λ base _ _=>L2.FnB.ok (K70.tZ ⟨X0,uI,jU,jG,iu,fZ,uD,rE,iU,jB,lM,bH,oM,cV,mX,RP,Qz,M5,Z5,Y8,W9,Uo,aJ,QW,SQ,VB,O8,Za,Z6,Vh,YW,Yn,ZF,WQ,W4,W2,Yi,Uk,U5,Z8,aA,Wm,Wo,Uw,Wg,au,Xl,Zo,VH,Ux,Wr,R8,MT,Ja,bA,We,U0,Uh,Z9,Wq,aX,Xn,Vz,Tq,Xa,Ou,bC,XM,Vm,O3,OD,WW,Ph,RK,Rg,Jv,Lj,Q3,Nz,Nq,Pb,Wv,Oq,Yr,Wn,U9,Zy,V3,Ws,Ul,Gj,Gs,LK,Tg,O1,Sg,Qg,PN,Ow,NK,Nt,O4,Pk,Oa,QT,Q5,QC,O2,RG,Nk,R9,TF,Sd,QG,Py⟩ hw (L2.qj (by rfl)) FL)⟩
#print axioms PySem.Challenge.cw_grindbench_k70_rows_that_are_none_holds
