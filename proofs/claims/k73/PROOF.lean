import PyProof.Rows.All
import KE.KIntText
import KE.KFromBytes
import KE.KIsAll
import KE.KItem
import KE.KRevIter
import OpenK.KLine
import OpenK.KWalk
import Wide.FinOn
import PyProof.EqAt
import PyProof.EqKinds
import PyProof.TupleCall
import Lean
import PySem.Challenge.RW_grindbench_k73_whole_walks_and_tables
set_option Elab.async false
set_option linter.all false
set_option maxRecDepth 100000
set_option maxHeartbeats 1000000
abbrev FrG:=PySem.W.Frag
open Array renaming eq_empty_of_size_eq_zero→zF,getElem?_eq_getElem→qV,getElem?_toList→FX,length_toList→WE,mem_toList_iff→Nn
open Bool renaming and_eq_true→Qv,and_eq_true_iff→zb,eq_iff_iff→xL,false_and→wo,false_eq_true→yl,false_ne_true→Zo,not_eq_true'→wP
open False renaming elim→UH
open ForInStep renaming yield→JU
open Int renaming emod_lt_of_pos→WZ,emod_nonneg→UF,lt_trichotomy→GB,mul_ne_zero→yA,natAbs_mul→QE,natAbs_natCast→XW,natAbs_neg→wM,natCast_emod→Fh,sign_eq_neg_one_of_neg→qy,sign_eq_one_of_pos→FD,toNat_natCast→yT,zero_sub→wE
open List renaming Nodup→Uz,all_cons→GO,all_eq_true→GX,all_map→MG,any_cons→xD,append_assoc→YA,append_cancel_left→Fc,append_eq_nil_iff→FH,append_nil→WJ,cons_append→Qy,dropLast_concat→NC,drop_eq_getElem_cons→xw,drop_zero→NA,eq_nil_or_concat→Nc,filterMap_cons→zv,filterMap_cons_none→zn,filterMap_cons_some→UY,filterMap_map→wa,filter_append→wc,filter_cons_of_neg→GZ,filter_cons_of_pos→GY,find?_cons→yB,flatten_cons→JJ,forIn_cons→QW,getD_eq_getElem?_getD→qw,getElem?_append_left→UR,getElem?_append_right→xh,getElem?_drop→qD,getElem?_eq_getElem→YO,getElem?_eq_none→FY,getElem?_eq_none_iff→qS,getElem?_eq_some_iff→XT,getElem?_map→Ya,getElem?_set_ne→Nl,getElem?_set_self→Fs,getLast?_concat→uS,getLast?_eq_getElem?→qL,getLast?_map→GC,getLast?_reverse→Na,length→Jh,length_append→X9,length_cons→X4,length_drop→zI,length_filter_le→QP,length_map→Y3,length_nil→YR,length_replicate→yQ,length_reverse→xz,length_set→jv,length_take→XE,lookup→wh,map_append→ZH,map_congr_left→zC,map_cons→YU,map_eq_cons_iff→ja,map_eq_nil_iff→xy,map_map→xr,map_nil→xp,mem_append→XO,mem_append_left→yY,mem_append_right→YP,mem_cons→W4,mem_cons_of_mem→ZT,mem_cons_self→ZD,mem_filter→js,mem_map→WO,mem_of_getElem?→ZN,mem_of_getLast?→ND,mem_singleton→U0,nil_append→JO,nodup_cons→yy,not_mem_nil→YV,of_mem_zip→FR,range→WC,range_succ_eq_map→FB,replicate→Xt,replicate_succ→zw,replicate_succ'→NG,reverse_cons→JI,size_toArray→ZI,sum_cons→xE,take_add_one→XV,take_length→WA,take_of_length_le→UP,take_zero→Nz,toList_toArray→zz
open List.Pairwise renaming nil→ME
open List.cons renaming inj→WR
open Nat renaming add_comm→qc,add_le_add_right→JA,add_mul→wn,digitChar→Mc,gcd→GA,gcd_comm→MH,le_add_left→YI,le_of_eq→My,le_of_lt→XP,le_refl→Zj,le_succ→wm,le_trans→U1,lt_irrefl→Qr,lt_of_le_of_lt→wb,lt_of_lt_of_le→X1,lt_succ_self→xo,lt_trans→Qb,min_eq_left→jO,mod_lt→Mo,mul_le_mul→NF,mul_le_mul_right→Yh,ne_of_gt→WS,ne_of_lt→XG,pow_le_pow_right→Jp,pow_pos→Nw,pow_succ→ML,sub_self→MM,succ_le_succ→zS,succ_mul→FA,toDigits→FC,toDigits_of_lt_base→Fa,zero_le→Ul
open Ne renaming symm→QO
open Option renaming isSome_iff_exists→GN,isSome_none→Ml,map_eq_some_iff→wS,map_some→jI
open Option.some renaming inj→XY
open Prod renaming ext→xB
open PyProof.Rows renaming AllBare→wT,Subscript_→FK,assignInOrder_cons→qF,callWith_type1→Us,envOfC→ua,joinOk_of_weight→UD,signs→QI,slot_tuple_getitem→zt,subscriptTail→GT
open PySem renaming Around→XU,BindsTo→NR,Builtin→WN,DictEntry→uk,FuncData→UE,GenState→qE,Keyword→NU,NameKind→QN,Operator→NH,Paired→xA,Params→GU,PassesOwn→WV,Program→ZY,PyData→ZB,Shared→X2,Str→Y2,Within→Fn,assign→FI,assignEach→zo,assignInOrder→GS,attributeBase→xJ,backTo→yq,backToKw→NL,behindInMarks→xI,binaryOp→zh,bindArgs→jo,bootBuiltins→WT,call_meets→xk,callerA→NV,cellsFrom→QA,codeAny→uu,codeAny_mono→qh,codeAny_with_toks→GL,compEnvC→NN,compareOp→UN,foldedSetIterable→ze,getItem→GI,intText?→Jn,keywordEach→jp,letOwnedTupleGo→xS,mainGlobals→Zi,mem_of_lookup→Um,newEnv→NJ,numbered_texts→NM,recursionLimit→NI,relabel→ub,sizeLine→Y7,sliceBounds→UA,slicePick→NS,sliceRange→we,slot_list_getitem→GM,starEach→Xa,strValues→ul,subscripted→GH,swapsWith→ql,sysModules→JY,tupleKind→NO,tupleKind_room_in1→qG,typeIs_str→yv,valueAt→FM,wpAny_Call_Name_kw→UK,wpAny_bind→W1,wpAny_execs_cons→Fk,wpAny_execs_nil→jR,wpAny_getItem_str_slice→ya,wpAny_holding→UZ,wpAny_loadName_local→jd,wpAny_mono→UI,wpAny_newObj_type→zd,wpAny_passesOwn→QY,wpAny_pure→Yf,wpAny_pyIter_list→GG,wpAny_specialOf→jS,wpAny_standAt→ut,wpAny_truthy_bool→UQ,wpAny_with_toks→Qa
open PySem.Around renaming under→MB
open PySem.Builtin.Int renaming intBits→NY
open PySem.Builtin.List renaming listExtendWith→qf,listSameRef→GP,listTooLong→zl
open PySem.Builtin.Slice renaming sliceAdjust→xv,sliceApplied→qq,slicePlaces→QS
open PySem.Builtin.Str renaming occurrences→Wc,partsBetween→xt,strKind→zD,strSliceIndices→Qo,strSub→wf
open PySem.Builtin.Tuple renaming tupleExact→zk
open PySem.Calls renaming Constant_str→xZ,Name_function_global→xa,callWith_builtin→wt,evalArgs_plain→uI,loadGlobal_global→GW,spliced_cons→yi,spliced_nil→wq
open PySem.Code renaming isFrame→MD
open PySem.F renaming args_str_split_2→qv,entry_str_split→Gx,plainAttrs_list→WB,plainAttrs_str→ZU,slot_dict_get→Nh,slot_dict_getitem→Gc,slot_list_append→WH,slot_str_join→US,slot_str_split→XI,type_list_append→WI,type_str_join→UU,type_str_split→XZ
open PySem.Heap renaming SameBut→yb,get?_none_of_le→Nj,get?_push_of_some→Za,get?_push_size→XB,get?_update_other→wr,get?_update_self→FS,lt_size→ZO,size_push→Jb
open PySem.Heap.IsList renaming push→MO
open PySem.Heap.IsSliceOf renaming new→Mn
open PySem.Heap.SameBut renaming refl→MI
open PySem.NameKind renaming free→up
open PySem.NumText renaming AllDigits→NW
open PySem.Obj renaming mapSeq→xb
open PySem.Paired renaming length→Ma
open PySem.PassesOwn renaming never→Xs
open PySem.PyData renaming canLayAll0→wv,eqv→xc,eqvAll→Mb
open PySem.SeqAt renaming EqAt→WW,canLay_of_shaped→yn,shaped→wx
open PySem.SeqAt.EqAt renaming int_str→Md,str_int→Me
open PySem.Str renaming append→Mh,empty→jA,join→ZE,mk→UB,ofString→Y1
open PySem.StrLaws renaming glued_eq_join→Nd,join_length_le→FG,occBody→FO,occ_length_le→FT
open PySem.Txt renaming endswith→FF,join→wB,mul→GE,replace→uL,slice→Wp,split→Xo,startswith→qr
open PySem.Value renaming bool→Mg,float→MQ,int→qk,none→uj,ref→WG,str→GV,type→qn
open PySem.W renaming callWith_K→yk,callWith_K0→NX,cellsFrom_some→Fu,codeIn→YY,emptyDict→UC,findIn→Zu,fnOf→YN,hasDictIn→UO,instObj→JL,isFn→Wj,keepIn→YE,kia_one→WU,kitx_dict→MA,kitx_list→Go,kitx_tuple→Mi,lookIn→qo,makesIn→QU,methodCall_KW→FV,methodObj→Gh,mg_of→U2,nsIn→ZA,plainGet→UM,plainGet_of→qa,plainOver→JE,takerIn→FP
open Rat renaming divInt→XA,divInt_add_divInt→FU,divInt_mul_divInt→ui,divInt_mul_right→xi,intCast_add→jC,intCast_mul→Uf,mul_div_cancel→qB,neg_den→Nt,neg_num→No,num_divInt_den→qA,one_mul→uT,zero_mul→FE
open Sum renaming inl→Fm,inr→xl
open True renaming intro→zi
local macro_rules | `(tactic| walk_at "s")=>`(tactic| exact ⟨rfl,rfl,rfl,by decide+kernel,rfl,by decide+kernel,by decide+kernel⟩)
local macro_rules | `(tactic| walk_at "o")=>`(tactic| first | exact Or.inl rfl | exact Or.inr rfl)
namespace L2
open PySem PySem.Spec PyProof.Rows
abbrev Key:=Sum Int Str
def keyIs:Key->Value->Bool
 | .inl k,v=>Value.isInt k v
 | .inr x,v=>Value.isStrOf x v
def keyH (w:World):Key->Int
 | .inl k=>hashInt k
 | .inr x=>hashStr w x
theorem GK:∀{k:Key} {v:Value},keyIs k v=true->(∃i t,k=Fm i/\v=qk i t)\/(∃x t,k=xl x/\v=GV x t)
 | .inl i,v,a=>by
  obtain ⟨t,e⟩:=Value.isInt_shape (k:=i) (v:=v) a;exact .inl ⟨i,t,rfl,e⟩
 | .inr x,v,a=>by
  obtain ⟨t,e⟩:=Value.isStrOf_shape (x:=x) (v:=v) a;exact .inr ⟨x,t,rfl,e⟩
theorem nU (i:Int)(t:Tok):keyIs (.inl i) (.int i t)=true:=by simp [keyIs,Value.isInt]
theorem zV (x:Str)(t:Tok):keyIs (.inr x) (.str x t)=true:=by simp [keyIs,Value.isStrOf]
theorem iZ (a b:Int):decide ((Fm a:Key)=Fm b)=(a == b):=by
 by_cases e:a=b
 ·subst e;simp
 ·have c:¬ (Fm a:Key)=Fm b:=λ q=>e (Fm.inj q)
  rw [decide_eq_false c];exact (beq_eq_false_iff_ne.mpr e).symm
theorem oJ (a b:Str):decide ((xl a:Key)=xl b)=decide (a=b):=by
 by_cases e:a=b
 ·subst e;simp
 ·have c:¬ (xl a:Key)=xl b:=λ q=>e (xl.inj q)
  rw [decide_eq_false c,decide_eq_false e]
theorem w6 (a:Int)(b:Str):decide ((Fm a:Key)=xl b)=false:=decide_eq_false (λ q=>nomatch q)
theorem rR (a:Str)(b:Int):decide ((xl a:Key)=Fm b)=false:=decide_eq_false (λ q=>nomatch q)
def mixKind (prog:ZY)(w:World):PySem.KeyKind prog w Key where
 is:=keyIs
 hash:=keyH w
 inj:=λ v a b f d=>by
  rcases GK f with ⟨i,t,rfl,rfl⟩ | ⟨x,t,rfl,rfl⟩
  ·rcases GK d with ⟨j,u,rfl,e⟩ | ⟨y,u,rfl,e⟩
   ·injection e with e1 _;rw [e1]
   ·exact nomatch e
  ·rcases GK d with ⟨j,u,rfl,e⟩ | ⟨y,u,rfl,e⟩
   ·exact nomatch e
   ·injection e with e1 _;rw [e1]
 byValue:=λ k v c=>by
  rcases GK c with ⟨i,t,rfl,rfl⟩ | ⟨x,t,rfl,rfl⟩<;>rfl
 pyHash:=λ hv c=>by
  rcases GK hv with ⟨i,t,rfl,rfl⟩ | ⟨x,t,rfl,rfl⟩
  ·exact wpAny_pyHash_int c
  ·exact wpAny_pyHash_str c
 eqBool:=λ g hv c=>by
  rcases GK g with ⟨i,t,rfl,rfl⟩ | ⟨x,t,rfl,rfl⟩
  ·rcases GK hv with ⟨j,u,rfl,rfl⟩ | ⟨y,u,rfl,rfl⟩
   ·rw [iZ] at c;exact wpAny_eqBool_int c
   ·rw [w6] at c;exact Md i t y u _ _ _ _ c
  ·rcases GK hv with ⟨j,u,rfl,rfl⟩ | ⟨y,u,rfl,rfl⟩
   ·rw [rR] at c;exact Me x t j u _ _ _ _ c
   ·rw [oJ] at c;exact wpAny_eqBool_str c
 «strs»:=λ k x t v c=>by
  rcases GK c with ⟨i,u,rfl,e⟩ | ⟨y,u,rfl,e⟩
  ·exact nomatch e
  ·injection e with e1 _
   subst e1;cases v<;>rfl
theorem jM (prog:ZY)(w:World)(i:Int)(t:Tok):(mixKind prog w).is (.inl i) (.int i t)=true:=nU i t
theorem Yx (prog:ZY)(w:World)(x:Str)(t:Tok):(mixKind prog w).is (.inr x) (.str x t)=true:=zV x t
abbrev NZ:={t:Tok // t≠0}
inductive V where
 | non | bl (b:Bool) | int (i:Int) | str (x:Str) | byt (b:Array UInt8) | flt (b:UInt64) | ref (a:Addr) | ty (n:String)
 deriving DecidableEq
def RelV:V->Value->Prop
 | .non,u=>u=uj
 | .bl b,u=>u=Mg b
 | .int i,u=>∃t,u=qk i t
 | .str x,u=>∃t:NZ,u=GV x t.1
 | .byt b,u=>∃t,u=Value.bytes b t
 | .flt b,u=>∃t,u=MQ b t
 | .ref a,u=>u=WG a
 | .ty n,u=>u=qn n
abbrev Vals:List V->List Value->Prop:=xA RelV
theorem Vals.length {xs:List V}{us:List Value}(r:Vals xs us):xs.length=us.length:=Ma r
theorem Vals.get:∀{xs:List V} {us:List Value} {i:Nat} {x:V},Vals xs us->xs[i]?=some x->∃u,us[i]?=some u/\RelV x u
 | _,_,_,_,.nil,e=>by simp at e
 | _,_,0,_,.cons r _,e=>by simp at e;subst e;exact ⟨_,rfl,r⟩
 | _,_,i+1,x,.cons _ t,e=>by
  obtain ⟨u,a,b⟩:=Vals.get (i:=i) (x:=x) t (by simpa using e)
  exact ⟨u,by simpa using a,b⟩
theorem Vals.set {x:V}{u:Value}(r:RelV x u):∀{xs:List V} {us:List Value} (i:Nat),Vals xs us->Vals (xs.set i x) (us.set i u)
 | _,_,_,.nil=>.nil
 | _,_,0,.cons _ t=>.cons r t
 | _,_,i+1,.cons q t=>.cons q (Vals.set r i t)
theorem Vals.append:∀{xs a:List V} {us b:List Value},Vals xs us->Vals a b->Vals (xs++a) (us++b)
 | _,_,_,_,.nil,s=>s
 | _,_,_,_,.cons r t,s=>.cons r (Vals.append t s)
theorem Vals.take:∀{xs:List V} {us:List Value} (n:Nat),Vals xs us->Vals (xs.take n) (us.take n)
 | _,_,0,_=>.nil
 | _,_,_+1,.nil=>.nil
 | _,_,n+1,.cons r t=>.cons r (Vals.take n t)
theorem Vals.drop:∀{xs:List V} {us:List Value} (n:Nat),Vals xs us->Vals (xs.drop n) (us.drop n)
 | _,_,0,r=>r
 | _,_,_+1,.nil=>.nil
 | _,_,n+1,.cons _ t=>Vals.drop n t
def RelO:Option V->Option Value->Prop
 | some v,some u=>RelV v u
 | none,none=>True
 | _,_=>False
def KV {a:Type}:List (a×V)->List (a×Value)->Prop:=xA λ (p:a×V) (q:a×Value)=>p.1=q.1/\RelV p.2 q.2
def kV:Key->V
 | .inl i=>.int i
 | .inr x=>.str x
inductive HO where
 | lst (xs:List V)
 | tup (xs:List V)
 | dK (kvs:List (Key×V)) | dT (kvs:List (List Key×V))
 | set (S:Int->Bool) (n:Nat)
 | ins (C dx:Addr) (fs:List (Str×V))
 | own (x:Addr)
 | xd (fs:List (Str×V))
 | met (f x:Addr)
 | rng (lo hi:Int)
 | frz (o:Obj) (u:HO)
 | tbl (ps:Array Value)
 | ext (φ:Heap->Prop)
abbrev Hp:=Addr->Option HO
def upd (H:Hp)(a:Addr)(o:HO):Hp:=λ b=>if b=a then some o else H b
theorem Al {H:Hp}{a:Addr}{o:HO}:upd H a o a=some o:=by unfold upd;rw [if_pos rfl]
theorem BK {H:Hp}{a b:Addr}{o:HO}(c:b≠a):upd H a o b=H b:=by unfold upd;rw [if_neg c]
theorem Hc {H:Hp}{a:Addr}{o u:HO}:upd (upd H a o) a u=upd H a u:=by
 funext b;unfold upd;split<;>rfl
theorem AH6 {H:Hp}{a b:Addr}{o u:HO}(c:H a=some o)(h':H b=some u)(d:o≠u):a≠b:=by
 intro e;subst e;rw [c] at h';exact d (XY h')
theorem Bq {H:Hp}{a b:Addr}{o:HO}(c:H a=some o)(h':H b=none):a≠b:=by
 intro e;subst e;rw [c] at h';cases h'
section
variable (P:ZY)(w:World)
def ObjOk (H:Hp)(c:Heap)(a:Addr):HO->Prop
 | .lst xs=>xs.length<=Y7/\∃(its:List Value) (n:Nat),Vals xs its/\c.get? a=some { cls:=.type "list",data:=.seq its.toArray n }
 | .tup xs=>xs.length<=Y7/\∃its:List Value,Vals xs its/\IsTup c a its.toArray
 | .dK b=>b.length<=Y7/\(a == JY)=false/\∃vs,KV b vs/\c.DictOf (mixKind P w) a vs
 | .dT b=>b.length<=Y7/\(a == JY)=false/\∃xs:List (List Key×Addr×Value),
   xA (λ (p:List Key×V) (q:List Key×Addr×Value)=>p.1=q.1/\H q.2.1=some (.tup (p.1.map kV))/\RelV p.2 q.2.2) b xs/\
   ∃o es j,c.get? a=some o/\o.ExactDict/\o.data=.dict es j/\es.toList=xs.map (entryOfKey (NO (mixKind P w)))/\(xs.map (·.1)).Nodup
 | .set l n=>c.SetOf (intKind P w) a l n
 | .ins C e fs=>H e=some (.own a)/\fs.length<=1000/\e≠a/\c.get? a=some (JL C e)/\
   ∃d,c.Ns1 e d/\(∀f,RelO (fs.lookup f) (d f))/\Fn d (fs.map (·.1))
 | .own _=>∃o,c.get? a=some o
 | .xd fs=>∃d,c.Ns1 a d/\∀f,RelO (fs.lookup f) (d f)
 | .rng lo k=>∃t u v,c.get? a=some { cls:=.type "range",data:=.fields #[.int lo t,.int k u,.int 1 v] }
 | .frz o u=>c.get? a=some o/\ObjOk H c a u
 | .tbl ps=>c.get? a=some { cls:=.none,data:=.fields ps }
 | .met f x=>c.get? a=some (Gh (.ref f) (.ref x))
 | .ext g=>g c/\(∃o,c.get? a=some o)/\∀h i:Heap,g h->(∀o,h.get? a=some o->i.get? a=some o)->g i
def HOk (H:Hp)(b:Heap):Prop:=∀a o,H a=some o->ObjOk P w H b a o
end
section
variable {P:ZY}{w:World}{H H':Hp}{h h':Heap}{a:Addr}{o:HO}
theorem ObjOk.lt (x:ObjOk P w H h a o):a < h.objs.size:=by
 cases o with
 | lst xs=>obtain ⟨_,_,_,_,e⟩:=x;exact ZO e
 | tup xs=>obtain ⟨_,_,_,p⟩:=x;exact p.lt
 | dK b=>obtain ⟨_,_,_,_,o,_,_,e,_⟩:=x;exact ZO e
 | dT b=>obtain ⟨_,_,_,_,o,_,_,e,_⟩:=x;exact ZO e
 | set j n=>obtain ⟨o,_,_,_,e,_⟩:=x;exact ZO e
 | ins C c fs=>obtain ⟨_,_,_,e,_⟩:=x;exact ZO e
 | own y=>obtain ⟨_,e⟩:=x;exact ZO e
 | xd fs=>obtain ⟨_,⟨_,_,_,e,_⟩,_⟩:=x;exact ZO e
 | rng lo d=>obtain ⟨_,_,_,e⟩:=x;exact ZO e
 | frz g u=>obtain ⟨e,_⟩:=x;exact ZO e
 | tbl ps=>exact ZO (show h.get? a=some _ from x)
 | met f y=>exact ZO (show h.get? a=some _ from x)
 | ext i=>obtain ⟨_,⟨_,e⟩,_⟩:=x;exact ZO e
theorem xA.mapP {e g:Type}{i j:e->g->Prop}:∀{c:List e} {d:List g},xA i c d->(∀a b,i a b->j a b)->xA j c d
 | _,_,.nil,_=>.nil
 | _,_,.cons r t,f=>.cons (f _ _ r) (xA.mapP t f)
theorem ObjOk.stay (x:ObjOk P w H h a o)(k:∀b u,(b=a\/H b=some (.own a))->h.get? b=some u->h'.get? b=some u)
  (z:∀b,H b=some (.own a)->H' b=some (.own a)) (ht:∀b xs,H b=some (.tup xs)->H' b=some (.tup xs)):ObjOk P w H' h' a o:=by
 induction o with
 | lst xs=>obtain ⟨j,its,n,r,e⟩:=x;exact ⟨j,its,n,r,k _ _ (.inl rfl) e⟩
 | tup xs=>obtain ⟨j,its,r,g,e,c⟩:=x;exact ⟨j,its,r,g,k _ _ (.inl rfl) e,c⟩
 | dK s=>obtain ⟨j,y,vs,r,g,es,i,e,c⟩:=x;exact ⟨j,y,vs,r,g,es,i,k _ _ (.inl rfl) e,c⟩
 | dT s=>
  obtain ⟨j,y,xs,r,g,es,i,e,c⟩:=x;exact ⟨j,y,xs,xA.mapP r λ p q j=>⟨j.1,ht _ _ j.2.1,j.2.2⟩,g,es,i,k _ _ (.inl rfl) e,c⟩
 | set F n=>obtain ⟨g,es,i,t,e,c⟩:=x;exact ⟨g,es,i,t,k _ _ (.inl rfl) e,c⟩
 | ins C B fs=>
  obtain ⟨d,j,ne,e,l,⟨m,es,i,e2,c⟩,r⟩:=x;exact ⟨z _ d,j,ne,k _ _ (.inl rfl) e,l,⟨m,es,i,k _ _ (.inr d) e2,c⟩,r⟩
 | own y=>obtain ⟨g,e⟩:=x;exact ⟨g,k _ _ (.inl rfl) e⟩
 | xd fs=>obtain ⟨l,⟨m,es,i,e,c⟩,r⟩:=x;exact ⟨l,⟨m,es,i,k _ _ (.inl rfl) e,c⟩,r⟩
 | rng lo D=>obtain ⟨t,u,v,e⟩:=x;exact ⟨t,u,v,k _ _ (.inl rfl) e⟩
 | frz g u A=>obtain ⟨e,q⟩:=x;exact ⟨k _ _ (.inl rfl) e,A q⟩
 | tbl ps=>
  have e:h.get? a=some { cls:=.none,data:=.fields ps }:=x;show h'.get? a=some { cls:=.none,data:=.fields ps };exact k a _ (.inl rfl) e
 | met f y=>
  have e:h.get? a=some (Gh (.ref f) (.ref y)):=x;show h'.get? a=some (Gh (.ref f) (.ref y));exact k a _ (.inl rfl) e
 | ext E=>obtain ⟨p,⟨o,e⟩,st⟩:=x;exact ⟨st _ _ p λ o q=>k _ _ (.inl rfl) q,⟨o,k _ _ (.inl rfl) e⟩,st⟩
theorem HOk.lt (x:HOk P w H h)(e:H a=some o):a < h.objs.size:=(x a o e).lt
theorem HOk.fresh (x:HOk P w H h)(e:h.objs.size<=a):H a=none:=by
 cases q:H a with
 | none=>rfl
 | some u=>exact absurd (X1 (x.lt q) e) (Qr _)
theorem HOk.kept (x:HOk P w H h)(k:∀b u,h.get? b=some u->h'.get? b=some u):HOk P w H h':=λ a o e=>
 (x a o e).stay (λ b u _ q=>k b u q) (λ _ q=>q) λ _ _ q=>q
theorem HOk.laid (x:HOk P w H h)(k:∀b u,h.get? b=some u->h'.get? b=some u)(i:h.objs.size<=a)(d:ObjOk P w (upd H a o) h' a o):HOk P w (upd H a o) h':=λ b u e=>by
 have f:=x.fresh i;by_cases g:b=a
 ·subst g;rw [Al] at e;cases e;exact d
 ·rw [BK g] at e;exact (x b u e).stay (λ c v _ q=>k c v q) (λ c q=>by rw [BK (Bq q f)];exact q) λ c xs q=>by rw [BK (Bq q f)];exact q
end
def Rd (H:Hp)(a:Addr)(u:HO):Prop:=H a=some u\/∃o,H a=some (.frz o u)
theorem Rd.ok {P:ZY}{w:World}{H:Hp}{b:Heap}{a:Addr}{u:HO}(r:Rd H a u)(x:HOk P w H b):ObjOk P w H b a u:=by
 rcases r with r | ⟨o,r⟩
 ·exact x a u r
 ·obtain ⟨_,q⟩:=x a _ r;exact q
def Mut:Option HO->Prop
 | some (.lst _)=>True
 | some (.dK _)=>True
 | some (.dT _)=>True
 | some (.set _ _)=>True
 | some (.ins _ _ _)=>True
 | some (.ext _)=>True
 | _=>False
section
variable {P:ZY}{w:World}{H:Hp}{h h':Heap}{x e:Addr}{o':HO}
theorem HOk.write (ok:HOk P w H h)(g:Mut (H x))(m:e=x\/H e=some (.own x))(k:∀b u,b≠e->h.get? b=some u->h'.get? b=some u)(n:∃u,h'.get? e=some u)
  (o:ObjOk P w (upd H x o') h' x o'):HOk P w (upd H x o') h':=λ b u q=>by
 have f:∀c y,H c=some (.own y)->c≠x:=λ c y r d=>by subst d;rw [r] at g;exact g
 have l:∀c xs,H c=some (.tup xs)->c≠x:=λ c xs r d=>by subst d;rw [r] at g;exact g
 by_cases i:b=x
 ·subst i;rw [Al] at q;cases q;exact o
 ·rw [BK i] at q;by_cases a:b=e
  ·have p:H b=some (.own x):=by
    rcases m with d | d
    ·exact absurd (a.trans d) i
    ·rw [a];exact d
   rw [q] at p;cases p;obtain ⟨v,hv⟩:=n;exact ⟨v,by rw [a];exact hv⟩
  ·refine (ok b u q).stay (λ c v j r=>k c v ?_ r) (λ c r=>by rw [BK (f c b r)];exact r) λ c xs r=>by rw [BK (l c xs r)];exact r
   rcases j with rfl | j
   ·exact a
   ·rintro rfl
    rcases m with d | d
    ·exact f c b j d
    ·rw [j] at d;cases d;exact i rfl
end
structure Un (fs ex:List Addr)(H H':Hp)(h h':Heap):Prop where
 keep:∀b o,h.get? b=some o->H b=none->b∉fs->b∉ex->h'.get? b=some o
 slot:∀b o,h.get? b=some o->H b=none->b∈fs->b∉ex->∃sl,h'.get? b=some { o with slots:=sl }
 free:∀b o,h.get? b=some o->H b=none->b∉ex->H' b=none
 there:∀b o,h.get? b=some o->b∉ex->∃o',h'.get? b=some o'
 tups:∀b xs,H b=some (.tup xs)->H' b=some (.tup xs)
 frzs:∀b o u,H b=some (.frz o u)->H' b=some (.frz o u)
 tbls:∀b ps,H b=some (.tbl ps)->∃more,H' b=some (.tbl (ps++more))
section
variable {fs fs' ex ex':List Addr}{H H1 H2:Hp}{h h1 h2 h':Heap}{a x e:Addr}{o:HO}
theorem Un.any (u:Un fs ex H H1 h h1){b:Addr}{c:Obj}(q:h.get? b=some c)(n:H b=none)(d:b∉ex):∃g,h1.get? b=some { c with slots:=g }:=by
 by_cases f:b∈fs
 ·exact u.slot b c q n f d
 ·exact ⟨c.slots,u.keep b c q n f d⟩
theorem Un.kept (k:∀b u,h.get? b=some u->h'.get? b=some u):Un fs ex H H h h':=
 ⟨λ b c q _ _ _=>k b c q,λ b c q _ _ _=>⟨c.slots,k b c q⟩,λ _ _ _ n _=>n,λ b c q _=>⟨c,k b c q⟩,λ _ _ q=>q,λ _ _ _ q=>q,λ _ ps q=>⟨#[],by rw [q];simp⟩⟩
theorem Un.refl:Un fs ex H H h h:=Un.kept λ _ _ q=>q
theorem Un.laid (k:∀b u,h.get? b=some u->h'.get? b=some u)(d:h.objs.size<=a)(c:H a=none):Un fs ex H (upd H a o) h h' where
 keep:=λ b u q _ _ _=>k b u q
 slot:=λ b u q _ _ _=>⟨u.slots,k b u q⟩
 free:=λ b u q n _=>by rw [BK (XG (X1 (ZO q) d))];exact n
 there:=λ b u q _=>⟨u,k b u q⟩
 tups:=λ b xs q=>by rw [BK (Bq q c)];exact q
 frzs:=λ b u xs q=>by rw [BK (Bq q c)];exact q
 tbls:=λ b ps q=>⟨#[],by rw [BK (Bq q c),q];simp⟩
theorem Un.write (d:Mut (H x))(m:e=x\/H e=some (.own x))(k:∀b u,b≠e->h.get? b=some u->h'.get? b=some u)(i:∃u,h'.get? e=some u):Un fs ex H (upd H x o) h h':=by
 have j:∀b,H b=none->b≠x:=λ b n c=>by subst c;rw [n] at d;exact d
 have l:∀b,H b=none->b≠e:=λ b n c=>by
  subst c;rcases m with r | r
  ·exact j b n r
  ·rw [n] at r;cases r
 have g:∀b u,H b=some u->¬ Mut (some u)->b≠x:=λ b u q nm c=>by subst c;rw [q] at d;exact nm d
 refine ⟨λ b u q n _ _=>k b u (l b n) q,λ b u q n _ _=>⟨u.slots,k b u (l b n) q⟩,λ b u q n _=>by rw [BK (j b n)];exact n,λ b u q _=>?_,
  λ b xs q=>by rw [BK (g b _ q λ c=>c)];exact q,λ b u xs q=>by rw [BK (g b _ q λ c=>c)];exact q,λ b ps q=>⟨#[],by rw [BK (g b _ q λ c=>c),q];simp⟩⟩
 by_cases f:b=e
 ·subst f;exact i
 ·exact ⟨u,k b u f q⟩
end
def trk (b:Heap)(H:Hp):List Addr:=(WC b.objs.size).filter λ a=>(H a).isSome
def hidT (a:Heap)(H:Hp):Heap:=PySem.W.hideAll a (trk a H)
theorem zq (a:Heap)(H:Hp):(hidT a H).objs.size=a.objs.size:=PySem.W.hideAll_size _ _
theorem tQ {c:Heap}{H:Hp}{b:Addr}{o:Obj}(e:c.get? b=some o)(n:H b=none):(hidT c H).get? b=some o:=
 PySem.W.hideAll_get _ e λ a=>by
  have q:(H b).isSome=true:=(js.mp a).2;rw [n] at q;simp at q
theorem vz {a:Heap}{H:Hp}{b:Addr}{o:Obj}(e:(hidT a H).get? b=some o):a.get? b=some o/\H b=none:=by
 have c:a.get? b=some o:=PySem.W.of_hideAll (trk a H) e;refine ⟨c,?_⟩;cases q:H b with
 | none=>rfl
 | some x=>
  have d:b∈trk a H:=js.mpr ⟨List.mem_range.mpr (ZO c),by simp [q]⟩
  have f:(hidT a H).get? b=none:=PySem.W.hideAll_none (trk a H) d;rw [f] at e;cases e
structure Mod (K:FrG)(mg:Str->Option Value)(base:Heap):Prop where
 kin:K.In base
 glob:base.Ns Zi mg
 blt:∃mb,base.Ns builtinsNs mb/\∀x:Str,x≠"__name__"->mb x=WT x
 nolimit:base.NoLimit
structure Cx where
 prog:ZY
 w:World
 K:FrG
 mg:Str->Option Value
 base:Heap
 A:XU
 N:List Str
 s₀:X2
 H₀:Hp
 env:Env
 outer:List Env
 stack:List Env
 ex:List Addr
 fn:Str->Bool
 calm:Bool
 pn:List (Addr×Obj)
 xe:Value->X2->Prop
def frs (l:List Env):List Addr:=l.filterMap (·.frame)
abbrev Cx.fs (X:Cx):List Addr:=frs X.outer
def Vis (a:Scope)(x:Str):Prop:=a.names.lookup x=some .local\/a.names.lookup x=some .cell\/a.names.lookup x=some .free
def Loc (a:Scope)(x:Str):Prop:=a.names.lookup x=some .local\/a.names.lookup x=some .cell
def Look (env:Env)(a:Heap)(m:Str->Option Value)(x:Str)(u:Value):Prop:=
 (env.kindOf x=some .local/\m x=some u)\/((env.kindOf x=some .cell\/env.kindOf x=some .free)/\∃c,env.cells.lookup x=some c/\a.IsCell c (some u))
structure Cx.Ok (X:Cx):Prop where
 mod:Mod X.K X.mg X.base
 kind:X.env.scope.kind=.function
 glob:X.env.globals=Zi
 blt:X.env.builtins=builtinsNs
 above:X.s₀.heap.objs.size<=X.env.locals
 inj:∀x y c,X.env.cells.lookup x=some c->X.env.cells.lookup y=some c->x=y
 has:∀x,(X.env.kindOf x=some .cell\/X.env.kindOf x=some .free)->∃c,X.env.cells.lookup x=some c
 cab:∀x c,X.fn x=true->X.env.cells.lookup x=some c->X.s₀.heap.objs.size<=c
 hd:X.calm=true->X.A.handled=none
 frames:X.A.frames=some X.stack
 stk:X.stack=X.outer\/(X.stack=X.env::X.outer/\X.env.frame=some X.env.locals)
 exf:∀b∈X.ex,b≠X.env.locals/\∀x c,X.env.cells.lookup x=some c->c≠b
 bs:∀b o,X.base.get? b=some o->X.s₀.heap.get? b=some o/\X.H₀ b=none
 bsz:X.base.objs.size<=X.s₀.heap.objs.size
 noex:∀b o,X.base.get? b=some o->b∉X.ex
 exfs:∀b∈X.ex,b∉X.fs
 funs:X.s₀.heap.FunFrames X.base X.outer
 frf:∀b∈X.fs,X.H₀ b=none
structure Inv (X:Cx)(pins:List (Addr×Obj))(σ:List (Option V))(H:Hp)(s:X2):Prop where
 ok:X.Ok
 os:s.os=X.s₀.os
 bare:wT s.gens
 base:Un X.fs X.ex X.H₀ H X.s₀.heap s.heap
 loc:∃m,s.heap.Ns X.env.locals m/\∀(i:Nat) (x:Str) (v:V),X.N[i]?=some x->σ[i]?=some (some v)->Vis X.env.scope x->∃u,RelV v u/\Look X.env s.heap m x u
 cell:∀x c,X.env.cells.lookup x=some c->∃v,s.heap.IsCell c v
 free:H X.env.locals=none
 freeC:∀x c,X.env.cells.lookup x=some c->H c=none
 pin:∀p∈X.pn++pins,s.heap.get? p.1=some p.2/\H p.1=none/\p.1≠X.env.locals/\p.1∉X.fs/\∀v,p.2.data≠.cell v
 hok:HOk X.prog X.w H s.heap
 len:σ.length=X.N.length
 tk:1<=s.toks
section
variable {X:Cx}{pins:List (Addr×Obj)}{σ:List (Option V)}{H H':Hp}{s:X2}{h':Heap}
theorem Cx.Ok.nofr (ok:X.Ok){b:Addr}{o:Obj}(e:X.base.get? b=some o):b∉X.fs:=λ a=>by
 have:=(ok.funs.mem a).1;rw [e] at this;cases this
theorem Inv.bs (a:Inv X pins σ H s):∀b o,X.base.get? b=some o->s.heap.get? b=some o/\H b=none:=λ b o e=>
 ⟨a.base.keep b o (a.ok.bs b o e).1 (a.ok.bs b o e).2 (a.ok.nofr e) (a.ok.noex b o e),a.base.free b o (a.ok.bs b o e).1 (a.ok.bs b o e).2 (a.ok.noex b o e)⟩
theorem Inv.bk (a:Inv X pins σ H s):∀b o,X.base.get? b=some o->s.heap.get? b=some o:=λ b o e=>(a.bs b o e).1
theorem Inv.mod (a:Inv X pins σ H s):Mod X.K X.mg X.base:=a.ok.mod
theorem Inv.kIn (a:Inv X pins σ H s):X.K.In s.heap:=a.ok.mod.kin.keeps a.bk
theorem Inv.lt (b:Inv X pins σ H s):X.env.locals < s.heap.objs.size:=let ⟨_,a,_⟩:=b.loc;a.lt
theorem Inv.sz (a:Inv X pins σ H s):X.s₀.heap.objs.size<=s.heap.objs.size:=U1 a.ok.above (XP a.lt)
theorem Inv.nofs (d:Inv X pins σ H s){a:Addr}(e:s.heap.objs.size<=a):a∉X.fs:=λ b=>by
 obtain ⟨_,o,c,_⟩:=d.ok.funs.mem b;exact absurd (X1 (ZO c) (U1 d.sz e)) (Qr _)
theorem Inv.cne (f:Inv X pins σ H s):∀x c,X.env.cells.lookup x=some c->c≠X.env.locals:=λ x c e g=>by
 obtain ⟨v,o,a,hd⟩:=f.cell x c e;obtain ⟨m,⟨h,es,i,b,d,_⟩,_⟩:=f.loc;rw [g,b] at a;cases a;rw [d] at hd;cases hd
theorem Inv.funs (f:Inv X pins σ H s):s.heap.FunFrames X.base X.outer:=by
 have all:∀(l:List Env),(∀b∈frs l,b∈X.fs)->X.s₀.heap.FunFrames X.base l->s.heap.FunFrames X.base l:=by
  intro l
  induction l with
  | nil=>intro _ _;trivial
  | cons env r g=>
   intro d hl;obtain ⟨h,⟨L,o,hf,i,j,hd⟩,k⟩:=hl;have a:L∈X.fs:=d L (by unfold frs;rw [zv,hf];exact ZD)
   obtain ⟨m,e⟩:=f.base.slot L o j (f.ok.frf L a) a λ n=>f.ok.exfs L n a
   exact ⟨h,⟨L,_,hf,i,e,hd⟩,g (λ b c=>d b (by unfold frs;rw [zv,hf];exact ZT _ c)) k⟩
 exact all X.outer (λ _ c=>c) f.ok.funs
theorem Inv.stack (a:Inv X pins σ H s):s.heap.FunFrames X.base X.stack:=by
 rcases a.ok.stk with e | ⟨e,hf⟩
 ·rw [e];exact a.funs
 ·rw [e];obtain ⟨m,b,_⟩:=a.loc;refine .cons (by rw [a.ok.kind];decide) hf b ?_ a.funs
  exact Nj (U1 a.ok.bsz a.ok.above)
theorem Inv.stkSub (c:Inv X pins σ H s):∀b∈frs X.stack,b∈X.env.locals::X.fs:=λ b a=>by
 rcases c.ok.stk with e | ⟨e,hf⟩
 ·rw [e] at a;exact ZT _ a
 ·rw [e] at a;unfold frs at a;rw [zv,hf] at a;exact a
theorem Inv.stkFree (c:Inv X pins σ H s):∀b∈frs X.stack,H b=none:=λ b a=>by
 rcases W4.mp (c.stkSub b a) with e | a
 ·rw [e];exact c.free
 ·obtain ⟨_,o,d,_⟩:=c.ok.funs.mem a;exact c.base.free b o d (c.ok.frf b a) λ f=>c.ok.exfs b f a
theorem Inv.step {g':Array qE}{t':Nat}{d':Drawn}{ch:List Addr}(f:Inv X pins σ H s)
  (g:∀b∈ch,(b∈X.ex\/X.s₀.heap.objs.size<=b)/\b≠X.env.locals/\(∀x c,X.env.cells.lookup x=some c->c≠b)/\∀p∈X.pn++pins,p.1≠b)
  (keep:∀b o,b≠X.env.locals->b∉X.fs->b∉ch->s.heap.get? b=some o->H b=none->h'.get? b=some o)
  (slot:∀b o,b≠X.env.locals->b∈X.fs->b∉ch->s.heap.get? b=some o->H b=none->∃D,h'.get? b=some { o with slots:=D }) (free:∀b o,b∉ch->s.heap.get? b=some o->H b=none->H' b=none)
  (there:∀b o,b∉ch->s.heap.get? b=some o->∃B,h'.get? b=some B)
  (tups:∀b xs,H b=some (.tup xs)->H' b=some (.tup xs)) (frzs:∀b o u,H b=some (.frz o u)->H' b=some (.frz o u)) (tbls:∀b ps,H b=some (.tbl ps)->∃more,H' b=some (.tbl (ps++more)))
  (ns:∀m,s.heap.Ns X.env.locals m->h'.Ns X.env.locals m) (hok:HOk X.prog X.w H' h') (J:wT g') (ht:1<=t':=by first | assumption | exact Inv.tk (by assumption) | exact YI _ _ | omega):
  Inv X pins σ H' { s with heap:=h',gens:=g',drawn:=d',toks:=t' }:=by
 have C:∀b o,X.s₀.heap.get? b=some o->b≠X.env.locals:=λ b o e=>XG (X1 (ZO e) f.ok.above)
 have y:∀b o,X.s₀.heap.get? b=some o->b∉X.ex->b∉ch:=λ b o e a j=>by
  rcases (g b j).1 with t | t
  ·exact a t
  ·exact absurd (X1 (ZO e) t) (Qr _)
 have z:∀x c,X.env.cells.lookup x=some c->∀v,s.heap.IsCell c v->h'.IsCell c v:=λ x c e v ⟨o,A,hd⟩=>by
  have h:c∉ch:=λ t=>(g c t).2.2.1 x c e rfl
  by_cases E:c∈X.fs
  ·obtain ⟨D,q⟩:=slot c o (f.cne x c e) E h A (f.freeC x c e);exact ⟨_,q,hd⟩
  ·exact ⟨o,keep c o (f.cne x c e) E h A (f.freeC x c e),hd⟩
 refine ⟨f.ok,f.os,J,⟨λ b o e n j a=>?_,λ b o e n j a=>?_,λ b o e n a=>?_,λ b o e a=>?_,λ b xs e=>tups b xs (f.base.tups b xs e),λ b o xs e=>frzs b o xs (f.base.frzs b o xs e),λ b ps e=>?_⟩,?_,λ x c e=>?_,?_,λ x c e=>?_,λ p F=>?_,hok,f.len,ht⟩
 ·exact keep b o (C b o e) j (y b o e a) (f.base.keep b o e n j a) (f.base.free b o e n a)
 ·obtain ⟨D,e1⟩:=f.base.slot b o e n j a;obtain ⟨G,e2⟩:=slot b _ (C b o e) j (y b o e a) e1 (f.base.free b o e n a);exact ⟨G,e2⟩
 ·obtain ⟨B,e1⟩:=f.base.there b o e a;exact free b B (y b o e a) e1 (f.base.free b o e n a)
 ·obtain ⟨B,e1⟩:=f.base.there b o e a;exact there b B (y b o e a) e1
 ·obtain ⟨K,e1⟩:=f.base.tbls b ps e;obtain ⟨L,e2⟩:=tbls b _ e1;exact ⟨K++L,by rw [e2,Array.append_assoc]⟩
 ·obtain ⟨m,M,hl⟩:=f.loc;refine ⟨m,ns m M,λ i x v e1 e2 N=>?_⟩
  obtain ⟨u,r,l⟩:=hl i x v e1 e2 N;refine ⟨u,r,?_⟩;rcases l with l | ⟨k,c,e,t⟩
  ·exact .inl l
  ·exact .inr ⟨k,c,e,z x c e _ t⟩
 ·obtain ⟨v,t⟩:=f.cell x c e;exact ⟨v,z x c e v t⟩
 ·obtain ⟨m,⟨o,_,_,A,_⟩,_⟩:=f.loc;exact free _ o (λ t=>(g _ t).2.1 rfl) A f.free
 ·obtain ⟨v,o,A,hd⟩:=f.cell x c e;exact free c o (λ t=>(g c t).2.2.1 x c e rfl) A (f.freeC x c e)
 ·obtain ⟨e,n,ne,I,d⟩:=f.pin p F;have h:p.1∉ch:=λ t=>(g p.1 t).2.2.2 p F rfl
  exact ⟨keep p.1 p.2 ne I h e n,free p.1 p.2 h e n,ne,I,d⟩
theorem Inv.un {t':Nat}(h:Inv X pins σ H s)(u:Un X.fs [] H H' s.heap h')(hok:HOk X.prog X.w H' h')(ht:1<=t':=by first | assumption | exact Inv.tk (by assumption) | exact YI _ _ | omega):Inv X pins σ H' { s with heap:=h',toks:=t' }:=by
 obtain ⟨m,⟨o,es,l,d,r⟩,_⟩:=id h.loc;obtain ⟨p,i⟩:=u.any d h.free (by simp)
 exact h.step (g':=s.gens) (d':=s.drawn) (ch:=[]) (λ _ q=>nomatch q) (λ b o _ c _ e n=>u.keep b o e n c (by simp)) (λ b o _ c _ e n=>u.slot b o e n c (by simp)) (λ b o _ e n=>u.free b o e n (by simp)) (λ b o _ e=>u.there b o e (by simp)) u.tups u.frzs u.tbls (λ t j=>by
  obtain ⟨v,f,g,a,k⟩:=j;rw [d] at a;cases a;exact ⟨_,f,g,i,k⟩) hok h.bare
theorem Inv.call {g':Array qE}{t':Nat}{d':Drawn}{ch:List Addr}(k:Inv X pins σ H s)(u:Un (frs X.stack) ch H H' s.heap h')(hok:HOk X.prog X.w H' h')(l:wT g')
  (d:∀b∈ch,(b∈X.ex\/X.s₀.heap.objs.size<=b)/\b≠X.env.locals/\(∀x c,X.env.cells.lookup x=some c->c≠b)/\∀p∈X.pn++pins,p.1≠b) (ht:1<=t':=by first | assumption | exact Inv.tk (by assumption) | exact YI _ _ | omega):
  Inv X pins σ H' { s with heap:=h',gens:=g',drawn:=d',toks:=t' }:=by
 obtain ⟨m,⟨o,es,z,h,r⟩,_⟩:=id k.loc;obtain ⟨A,g⟩:=u.any h k.free λ q=>(d _ q).2.1 rfl
 exact k.step (ch:=ch) d (λ b o g t a e n=>u.keep b o e n (λ q=>(W4.mp (k.stkSub b q)).elim g t) a) (λ b o _ _ a e n=>u.any e n a) (λ b o a e n=>u.free b o e n a) (λ b o a e=>u.there b o e a) u.tups u.frzs u.tbls (λ B v=>by
  obtain ⟨C,i,j,f,y⟩:=v;rw [h] at f;cases f;exact ⟨_,i,j,g,y⟩) hok l
theorem Inv.turned {t':Nat}{it:Addr}(h:Inv X pins σ H s)(k:∀b o,b≠it->s.heap.get? b=some o->h'.get? b=some o)(i:H it=none)(g:it≠X.env.locals)
  (j:it∈X.ex\/X.s₀.heap.objs.size<=it) (l:∀x c,X.env.cells.lookup x=some c->c≠it) (t:∀p∈X.pn++pins,p.1≠it) (ht:1<=t':=by first | assumption | exact Inv.tk (by assumption) | exact YI _ _ | omega):Inv X pins σ H { s with heap:=h',toks:=t' }:=by
 have f:∀b u,H b=some u->b≠it:=λ b u e d=>by rw [d,i] at e;cases e
 refine h.step (g':=s.gens) (d':=s.drawn) (ch:=[it]) (λ b w=>?_) (λ b o _ _ a e _=>k b o (λ d=>a (by simp [d])) e) (λ b o _ _ a e _=>⟨o.slots,k b o (λ d=>a (by simp [d])) e⟩) (λ _ _ _ _ n=>n)
  (λ b o a e=>⟨o,k b o (λ d=>a (by simp [d])) e⟩) (λ _ _ e=>e) (λ _ _ _ e=>e) (λ b ps e=>⟨#[],by rw [e];simp⟩) (λ m y=>?_) (λ b u e=>?_) h.bare
 ·have e:b=it:=by simpa using w
  subst e;exact ⟨j,g,l,t⟩
 ·obtain ⟨o,es,z,A,r⟩:=y;exact ⟨o,es,z,k _ o (QO g) A,r⟩
 ·refine (h.hok b u e).stay (λ c v a q=>k c v ?_ q) (λ _ q=>q) λ _ _ q=>q
  rcases a with d | d
  ·rw [d];exact f b u e
  ·exact f c _ d
theorem Inv.tok (a:Inv X pins σ H s)(t:Nat)(ht:1<=t:=by first | assumption | exact Inv.tk (by assumption) | exact YI _ _ | omega):Inv X pins σ H { s with toks:=t }:=a.un (h':=s.heap) (t':=t) Un.refl a.hok
theorem Inv.kept {t':Nat}(a:Inv X pins σ H s)(k:∀b u,s.heap.get? b=some u->h'.get? b=some u)(ht:1<=t':=by first | assumption | exact Inv.tk (by assumption) | exact YI _ _ | omega):Inv X pins σ H { s with heap:=h',toks:=t' }:=a.un (Un.kept k) (a.hok.kept k)
theorem Inv.laid {a:Addr}{o:HO}{t':Nat}(e:Inv X pins σ H s)(k:∀b u,s.heap.get? b=some u->h'.get? b=some u)(c:s.heap.objs.size<=a)(d:ObjOk X.prog X.w (upd H a o) h' a o)(ht:1<=t':=by first | assumption | exact Inv.tk (by assumption) | exact YI _ _ | omega):
  Inv X pins σ (upd H a o) { s with heap:=h',toks:=t' }:=e.un (Un.laid k c (e.hok.fresh c)) (e.hok.laid k c d)
theorem Inv.write {x e:Addr}{o:HO}{t':Nat}(g:Inv X pins σ H s)(c:Mut (H x))(d:e=x\/H e=some (.own x))(k:∀b u,b≠e->s.heap.get? b=some u->h'.get? b=some u)(a:∃u,h'.get? e=some u)
  (f:ObjOk X.prog X.w (upd H x o) h' x o) (ht:1<=t':=by first | assumption | exact Inv.tk (by assumption) | exact YI _ _ | omega):Inv X pins σ (upd H x o) { s with heap:=h',toks:=t' }:=g.un (Un.write c d k a) (g.hok.write c d k a f)
theorem Inv.pins_of {a:List (Addr×Obj)}(b:Inv X pins σ H s)(d:∀p∈a,s.heap.get? p.1=some p.2/\H p.1=none/\p.1≠X.env.locals/\p.1∉X.fs/\∀v,p.2.data≠.cell v):Inv X a σ H s:=
 ⟨b.ok,b.os,b.bare,b.base,b.loc,b.cell,b.free,b.freeC,λ p c=>(XO.mp c).elim (λ e=>b.pin p (yY _ e)) (d p),b.hok,b.len,b.tk⟩
theorem gZ {N:List Str}(c:N.Nodup){i j:Nat}{x:Str}(a:N[i]?=some x)(b:N[j]?=some x):i=j:=by
 obtain ⟨d,e1⟩:=XT.mp a;obtain ⟨e,e2⟩:=XT.mp b;exact (List.getElem_inj c).mp (e1.trans e2.symm)
theorem uG {b6:Model}{A:XU}{E:Value->X2->Prop}{i:Nat}{x:Str}{v:V}{u:Value}{Q:Unit->X2->Prop}(f:Inv X pins σ H s)(a4:X.N.Nodup)(F:X.N[i]?=some x)(l:Loc X.env.scope x)(r:RelV v u)
  (b5:∀s',Inv X pins (σ.set i (some v)) H s'->(∃a,yb a s.heap s'.heap/\(a=X.env.locals\/X.env.cells.lookup x=some a))->Q () s') (hf:X.fn x=true\/X.env.scope.names.lookup x=some .local:=by first | exact .inl rfl | exact .inr rfl | assumption):wpAny b6 A (storeName X.env x u) Q E s:=by
 obtain ⟨m,R,hl⟩:=id f.loc;have S:(X.env.scope.kind == .class || (X.env.scope.kind == .module && X.env.locals != X.env.globals))=false:=by rw [f.ok.kind];rfl
 have G:i < σ.length:=by rw [f.len];exact (XT.mp F).1
 have cne:=f.cne;have t:∀{a:Addr} {h':Heap},(∃o,s.heap.get? a=some o/\H a=none)->yb a s.heap h'->HOk X.prog X.w H h':=λ {a h'} a8 g b a9 e=>by
  obtain ⟨_,_,D⟩:=a8;refine (f.hok b a9 e).stay (λ c K h q=>(g.2 c ?_).trans q) (λ _ q=>q) λ _ _ q=>q
  rintro rfl
  rcases h with rfl | h
  ·rw [D] at e;cases e
  ·rw [D] at h;cases h
 rcases l with z | z
 ·refine wpAny_storeName_local z R (λ h' a5 g=>?_) S
  obtain ⟨b0,_,_,a6,_⟩:=id R;refine b5 _ ⟨f.ok,f.os,f.bare,⟨λ b o e n B l=>?_,λ b o e n B l=>?_,f.base.free,λ b o e l=>?_,f.base.tups,f.base.frzs,f.base.tbls⟩,⟨_,a5,λ j y T e1 e2 U=>?_⟩,λ y c e=>?_,f.free,f.freeC,λ p W=>?_,t ⟨b0,a6,f.free⟩ g,by simpa using f.len,YI _ _⟩ ⟨_,g,.inl rfl⟩
  ·exact (g.2 b (XG (X1 (ZO e) f.ok.above))).trans (f.base.keep b o e n B l)
  ·obtain ⟨Y,e1⟩:=f.base.slot b o e n B l;exact ⟨Y,(g.2 b (XG (X1 (ZO e) f.ok.above))).trans e1⟩
  ·obtain ⟨Z,e1⟩:=f.base.there b o e l;exact ⟨Z,(g.2 b (XG (X1 (ZO e) f.ok.above))).trans e1⟩
  ·by_cases C:j=i
   ·subst C;rw [F] at e1;cases e1;rw [Fs G] at e2;cases e2
    exact ⟨u,r,.inl ⟨z,by simp⟩⟩
   ·rw [Nl (QO C)] at e2;obtain ⟨a0,a1,q⟩:=hl j y T e1 e2 U;refine ⟨a0,a1,?_⟩;rcases q with ⟨k,e⟩ | ⟨k,c,e,J⟩
    ·refine .inl ⟨k,?_⟩;have:y≠x:=λ e=>C (gZ a4 e1 (e▸F))
     simp [this,e]
    ·exact .inr ⟨k,c,e,J.sameBut g (cne y c e)⟩
  ·obtain ⟨K,J⟩:=f.cell y c e;exact ⟨K,J.sameBut g (cne y c e)⟩
  ·obtain ⟨e,n,ne,a2,d⟩:=f.pin p W;exact ⟨(g.2 p.1 ne).trans e,n,ne,a2,d⟩
 ·have I:X.fn x=true:=by
   rcases hf with J | J
   ·exact J
   ·rw [J] at z;cases z
  obtain ⟨c,h⟩:=f.ok.has x (.inl z);obtain ⟨K,J⟩:=f.cell x c h;refine wpAny_storeName_cell f.ok.kind z h J (λ h' M g=>?_)
  obtain ⟨a7,O,a3⟩:=id J;refine b5 { s with heap:=h' } ⟨f.ok,f.os,f.bare,⟨λ b o e n B l=>?_,λ b o e n B l=>?_,f.base.free,λ b o e l=>?_,f.base.tups,f.base.frzs,f.base.tbls⟩,⟨m,R.sameBut g (QO (cne x c h)),λ j y T e1 e2 U=>?_⟩,λ y L e=>?_,f.free,f.freeC,λ p W=>?_,t ⟨a7,O,f.freeC x c h⟩ g,by simpa using f.len,f.tk⟩ ⟨c,g,.inr h⟩
  ·exact (g.2 b (XG (X1 (ZO e) (f.ok.cab x c I h)))).trans (f.base.keep b o e n B l)
  ·obtain ⟨Y,e1⟩:=f.base.slot b o e n B l;exact ⟨Y,(g.2 b (XG (X1 (ZO e) (f.ok.cab x c I h)))).trans e1⟩
  ·obtain ⟨Z,e1⟩:=f.base.there b o e l;exact ⟨Z,(g.2 b (XG (X1 (ZO e) (f.ok.cab x c I h)))).trans e1⟩
  ·by_cases C:j=i
   ·subst C;rw [F] at e1;cases e1;rw [Fs G] at e2;cases e2
    exact ⟨u,r,.inr ⟨.inl z,c,h,M⟩⟩
   ·rw [Nl (QO C)] at e2;obtain ⟨a0,a1,q⟩:=hl j y T e1 e2 U;refine ⟨a0,a1,?_⟩;rcases q with q | ⟨k,L,e,b1⟩
    ·exact .inl q
    ·refine .inr ⟨k,L,e,b1.sameBut g ?_⟩;rintro rfl
     exact C (gZ a4 e1 (f.ok.inj _ _ _ e h▸F))
  ·by_cases P:L=c
   ·subst P;exact ⟨_,M⟩
   ·obtain ⟨b2,b3⟩:=f.cell y L e;exact ⟨b2,b3.sameBut g P⟩
  ·obtain ⟨e,n,ne,a2,d⟩:=f.pin p W;refine ⟨(g.2 p.1 ?_).trans e,n,ne,a2,d⟩;intro q;rw [q,O] at e;have b4:a7=p.2:=XY e;exact d K (by rw [<- b4];exact a3)
theorem JG {e:Model}{A:XU}{E:Value->X2->Prop}{i:Nat}{x:Str}{v:V}{u:Value}{Q:Unit->X2->Prop}(f:Inv X pins σ H s)(a:X.N.Nodup)(b:X.N[i]?=some x)(c:Loc X.env.scope x)(r:RelV v u)
  (g:∀s',Inv X pins (σ.set i (some v)) H s'->Q () s') (hf:X.fn x=true\/X.env.scope.names.lookup x=some .local:=by first | exact .inl rfl | exact .inr rfl | assumption):wpAny e A (storeName X.env x u) Q E s:=
 uG f a b c r (λ s' d _=>g s' d) hf
theorem Inv.call' {s':X2}{ch:List Addr}(h:Inv X pins σ H s)(d:s'.os=s.os)(u:Un (frs X.stack) ch H H' s.heap s'.heap)(hok:HOk X.prog X.w H' s'.heap)(f:wT s'.gens)
  (a:∀b∈ch,(b∈X.ex\/X.s₀.heap.objs.size<=b)/\b≠X.env.locals/\(∀x c,X.env.cells.lookup x=some c->c≠b)/\∀p∈X.pn++pins,p.1≠b) (ht:1<=s'.toks:=by first | assumption | exact Inv.tk (by assumption) | exact YI _ _ | omega):Inv X pins σ H' s':=by
 obtain ⟨h',g',d',t',g⟩:=s';have e:g=s.os:=d;subst e;exact h.call (g':=g') (t':=t') (d':=d') u hok f a
end
abbrev XK:=Value->Option Addr->Hp->Prop
abbrev St:=List (Option V)
abbrev VK:=V->Hp->Prop
abbrev TE:=St->Hp->VK->Prop
abbrev TT:=St->Hp->(Bool->Hp->Prop)->Prop
abbrev TA:=St->Hp->(List V->Hp->Prop)->Prop
structure Ends where
 nx:St->Hp->Prop
 rt:VK
 bk:St->Hp->Prop:=λ _ _=>False
 ct:St->Hp->Prop:=λ _ _=>False
abbrev TS:=Ends->St->Hp->Prop
def EP (X:Cx)(a:List (Addr×Obj))(c:St)(Q:VK)(u:Value)(s':X2):Prop:=∃v b,Inv X a c b s'/\RelV v u/\Q v b
def TP (X:Cx)(a:List (Addr×Obj))(d:St)(Q:Bool->Hp->Prop)(b:Bool)(s':X2):Prop:=∃c,Inv X a d c s'/\Q b c
def AP (X:Cx)(a:List (Addr×Obj))(c:St)(Q:List V->Hp->Prop)(us:List Value)(s':X2):Prop:=∃vs b,Inv X a c b s'/\Vals vs us/\Q vs b
def SP (X:Cx)(c:List (Addr×Obj))(d:Ends)(f:Flow)(s':X2):Prop:=
 match f with
 | .next=>∃a b,Inv X c a b s'/\d.nx a b
 | .brk=>∃a b,Inv X c a b s'/\d.bk a b
 | .cont=>∃a b,Inv X c a b s'/\d.ct a b
 | .ret u=>∃v a b,Inv X c a b s'/\RelV v u/\d.rt v b
def PE (X:Cx)(e:Expr)(t:TE):Prop:=
 ∀(a:List (Addr×Obj)) (s:X2) (b:St) (H:Hp) (Q:VK),Inv X a b H s->t b H Q->wpAny (model X.prog X.w) X.A (eval e X.env) (EP X a b Q) X.xe s
def PT (X:Cx)(e:Expr)(t:TT):Prop:=
 ∀(a:List (Addr×Obj)) (s:X2) (b:St) (H:Hp) (Q:Bool->Hp->Prop),Inv X a b H s->t b H Q->wpAny (model X.prog X.w) X.A (isTrue e X.env (eval e X.env)) (TP X a b Q) X.xe s
def PW (X:Cx)(e:Expr)(t:TT):Prop:=
 ∀(b:Sem Value) (a:List (Addr×Obj)) (s:X2) (c:St) (H:Hp) (Q:Bool->Hp->Prop),Inv X a c H s->t c H Q->wpAny (model X.prog X.w) X.A (isTrue e X.env b) (TP X a c Q) X.xe s
theorem PW.pt {X:Cx}{e:Expr}{t:TT}(a:PW X e t):PT X e t:=a _
def PA (X:Cx)(es:List Expr)(t:TA):Prop:=
 ∀(pos:Pos) (a:List (Addr×Obj)) (s:X2) (b:St) (H:Hp) (Q:List V->Hp->Prop),Inv X a b H s->t b H Q->wpAny (model X.prog X.w) X.A (spliced (yq pos (Xa es X.env))) (AP X a b Q) X.xe s
def PS (X:Cx)(st:Stmt)(t:TS):Prop:=
 ∀(a:List (Addr×Obj)) (s:X2) (b:St) (H:Hp) (c:Ends),Inv X a b H s->t c b H->wpAny (model X.prog X.w) X.A (exec st X.env) (SP X a c) X.xe s
def PSs (X:Cx)(st:List Stmt)(t:TS):Prop:=
 ∀(a:List (Addr×Obj)) (s:X2) (b:St) (H:Hp) (c:Ends),Inv X a b H s->t c b H->wpAny (model X.prog X.w) X.A (execs st X.env) (SP X a c) X.xe s
theorem thn {b:Type}{t:Sem b}{Q c:b->X2->Prop}{e:Model}{A:XU}{E:Value->X2->Prop}{s:X2}(f:wpAny e A t Q E s)(d:∀a s,Q a s->c a s):wpAny e A t c E s:=UI f d λ _ _ x=>x
section
variable {X:Cx}
def tVar (i:Nat):TE:=λ a H Q=>∃v,a[i]?=some (some v)/\Q v H
def tC (v:V):TE:=λ _ H Q=>Q v H
theorem qZ {i:Nat}{x:Str}{pos:Pos}(j:X.N[i]?=some x)(hv:Vis X.env.scope x)(hd:(x == ("__debug__":Str))=false:=by decide)(f:(x == ("__classdict__":Str))=false:=by decide):PE X (.Name x pos) (tVar i):=by
 intro d s k H Q g n;obtain ⟨v,e,n⟩:=n;obtain ⟨m,o,hl⟩:=g.loc;obtain ⟨u,r,l⟩:=hl i x v j e hv;have b:EP X d k Q u s:=⟨v,H,g,r,n⟩;rcases l with ⟨a,p⟩ | ⟨a,c,h,hcell⟩
 ·exact wpAny_Name (jd g.ok.kind a o p b) hd
 ·rcases a with a | a
  ·exact wpAny_Name (wpAny_loadName_cell g.ok.kind a h hcell b) hd
  ·exact wpAny_Name (wpAny_loadName_free g.ok.kind a h hcell b f) hd
theorem Ab {i j pos}:PE X (.Constant (.int i) j pos) (tC (.int i)):=λ _ _ _ H _ a b=>wpAny_Constant_int ⟨.int i,H,a.tok _,⟨_,rfl⟩,b⟩
theorem CQ {b j pos}:PE X (.Constant (.bool b) j pos) (tC (.bl b)):=λ _ _ _ H _ a c=>Constant_bool ⟨.bl b,H,a,rfl,c⟩
theorem DX {j pos}:PE X (.Constant .none j pos) (tC .non):=λ _ _ _ H _ a b=>Constant_none ⟨.non,H,a,rfl,b⟩
theorem BJ {x j pos}:PE X (.Constant (.str x) j pos) (tC (.str x)):=λ _ _ _ H _ a b=>xZ ⟨.str x,H,a.tok _,⟨⟨_,WS a.tk⟩,rfl⟩,b⟩
def Gl (X:Cx)(x:Str):Prop:=X.env.kindOf x=some .globalImplicit
theorem Kp {E:Value->X2->Prop}{a:List (Addr×Obj)}{s:X2}{c:St}{H:Hp}{x:Str}{u:Value}{pos:Pos}{Q:Value->X2->Prop}(b:Inv X a c H s)(d:Gl X x)(e:X.mg x=some u)(f:Q u s)
  (hd:(x == ("__debug__":Str))=false:=by decide):wpAny (model X.prog X.w) X.A (eval (.Name x pos) X.env) Q E s:=
 xa b.ok.kind d (GW (by rw [b.ok.glob];exact b.mod.glob.keeps b.bk) e f) hd
theorem Gk {E:Value->X2->Prop}{a:List (Addr×Obj)}{s:X2}{c:St}{H:Hp}{x:Str}{u:Value}{pos:Pos}{Q:Value->X2->Prop}(b:Inv X a c H s)(d:Gl X x)(e:X.mg x=none)(hv:WT x=some u)(i:Q u s)
  (f:x≠"__name__":=by decide) (hd:(x == ("__debug__":Str))=false:=by decide):wpAny (model X.prog X.w) X.A (eval (.Name x pos) X.env) Q E s:=by
 obtain ⟨j,g,h⟩:=b.mod.blt;exact xa b.ok.kind d (Calls.loadGlobal_builtin (by rw [b.ok.glob];exact b.mod.glob.keeps b.bk) e (by rw [b.ok.blt];exact g.keeps b.bk) ((h x f).trans hv) i) hd
theorem BZ {x:Str}{v:V}{u:Value}{pos:Pos}(a:Gl X x)(b:X.mg x=some u)(r:RelV v u)(hd:(x == ("__debug__":Str))=false:=by decide):PE X (.Name x pos) (tC v):=
 λ _ _ _ H _ c d=>Kp c a b ⟨v,H,c,r,d⟩ hd
theorem Ec {x:Str}{v:V}{u:Value}{pos:Pos}(a:Gl X x)(b:X.mg x=none)(hv:WT x=some u)(r:RelV v u)(c:x≠"__name__":=by decide)(hd:(x == ("__debug__":Str))=false:=by decide):PE X (.Name x pos) (tC v):=
 λ _ _ _ H _ d e=>Gk d a b hv ⟨v,H,d,r,e⟩ c hd
variable {a b:Expr}{ta tb:TE}{pos:Pos}
def PC (X:Cx)(g:CmpOp)(a b:Expr)(t:TE):Prop:=
 ∀(c:List (Addr×Obj)) (s:X2) (d:St) (H:Hp) (Q:VK),Inv X c d H s->t d H Q->
  wpAny (model X.prog X.w) X.A (eval a X.env) (λ v e=>wpAny (model X.prog X.w) X.A (eval b X.env) (λ u f=>wpAny (model X.prog X.w) X.A (UN g v u) (EP X c d Q) X.xe f) X.xe e) X.xe s
def tB (t:TE):TT:=λ d H Q=>t d H λ x e=>∃c,x=.bl c/\Q c e
theorem qU {e:CmpOp}{t:TE}(o:PC X e a b t)(f:xI e b=false:=by first | exact nobehind _ (by decide) (by decide) | rfl):PT X (.Compare a [e] [b] pos) (tB t):=by
 intro g s h H Q p i;refine wpAny_isTrue_Compare1 (thn (o g s h H _ p i) λ v r f=>thn f λ u w j=>thn j λ c y ⟨x,k,l,m,n⟩=>?_) f
 obtain ⟨d,rfl,q⟩:=n;cases m
 exact UQ ⟨k,l,q⟩
theorem Bj {e:Expr}{t:TE}(n:PE X e t)(g:∀c,isTrue e X.env c=(do let v <- c;standAt e.pos;holding [v] (truthy v)):=by intro _;rfl):PT X e (tB t):=by
 intro f s h H Q o i;refine isTrue_plain (thn (n f s h H _ o i) λ v p ⟨x,j,k,l,m⟩=>?_) (g _)
 obtain ⟨d,rfl,q⟩:=m;cases l
 exact UQ ⟨j,k,q⟩
variable {tA tB':TT}{rest:List Expr}
def tAnd (t u:TT):TT:=λ d H Q=>t d H λ c e=>if c=true then u d e Q else Q false e
def tOr (t u:TT):TT:=λ d H Q=>t d H λ c e=>if c=true then Q true e else u d e Q
def tNot (t:TT):TT:=λ d H Q=>t d H λ c e=>Q (!c) e
theorem pw_and1 (f:PT X a tA):PW X (.BoolOp .And [a] pos) tA:=by
 intro h d s g H Q i j;refine isTrue_and (thn (f d s g H Q i j) λ c k e=>?_)
 cases c with
 | true=>exact isTrue_and_nil e
 | false=>exact e
theorem pw_or1 (f:PT X a tA):PW X (.BoolOp .Or [a] pos) tA:=by
 intro h d s g H Q i j;refine isTrue_or (thn (f d s g H Q i j) λ c k e=>?_)
 cases c with
 | false=>exact isTrue_or_nil e
 | true=>exact e
theorem pw_and (i:PT X a tA)(j:PW X (.BoolOp .And (b::rest) pos) tB'):PW X (.BoolOp .And (a::b::rest) pos) (tAnd tA tB'):=by
 intro k d s e H Q m n;refine isTrue_and (thn (i d s e H _ m n) λ c l ⟨f,g,h⟩=>?_)
 cases c with
 | true=>exact j k d l e f Q g h
 | false=>exact ⟨f,g,h⟩
theorem pw_or (i:PT X a tA)(j:PW X (.BoolOp .Or (b::rest) pos) tB'):PW X (.BoolOp .Or (a::b::rest) pos) (tOr tA tB'):=by
 intro k d s e H Q m n;refine isTrue_or (thn (i d s e H _ m n) λ c l ⟨f,g,h⟩=>?_)
 cases c with
 | true=>exact ⟨f,g,h⟩
 | false=>exact j k d l e f Q g h
theorem Bt (e:PT X a tA):PT X (.UnaryOp .Not a pos) (tNot tA):=by
 intro d s f H Q h i;exact isTrue_not (e d s f H (λ c g=>Q (!c) g) h i)
def tAndV (ta tb:TE):TE:=λ d H Q=>ta d H λ x e=>∃c,x=.bl c/\if c=true then tb d e Q else Q (.bl false) e
def tNotV (ta:TE):TE:=λ d H Q=>ta d H λ x e=>∃c,x=.bl c/\Q (.bl (!c)) e
theorem Ik {op}{t:TE}(f:PE X a t):PE X (.BoolOp op [a] pos) t:=λ c s d H Q g e=>BoolOp_one (f c s d H Q g e)
theorem Ib (i:PE X a ta)(j:PE X (.BoolOp .And (b::rest) pos) tb):PE X (.BoolOp .And (a::b::rest) pos) (tAndV ta tb):=by
 intro d s f H Q m n;refine BoolOp_and (thn (i d s f H _ m n) λ v k ⟨x,g,h,l,e⟩=>?_)
 obtain ⟨c,rfl,e⟩:=e;cases l
 refine UQ ?_;cases c with
 | true=>exact j d k f g Q h e
 | false=>exact ⟨.bl false,g,h,rfl,e⟩
theorem NP (f:PE X a ta):PE X (.UnaryOp .Not a pos) (tNotV ta):=by
 intro d s g H Q k l;refine UnaryOp_ (thn (f d s g H _ k l) λ v m ⟨x,h,i,j,e⟩=>?_)
 obtain ⟨c,rfl,e⟩:=e;cases j
 exact not_of (UQ ⟨.bl (!c),h,i,rfl,e⟩)
def tIf (t:TT)(ta tb:TE):TE:=λ d H Q=>t d H λ c e=>if c=true then ta d e Q else tb d e Q
theorem J0 {c:Expr}(k:PT X c tA)(l:PE X a ta)(m:PE X b tb):PE X (.IfExp c a b pos) (tIf tA ta tb):=by
 intro e s f H Q n o;refine wpAny_IfExp (thn (k e s f H _ n o) λ d g ⟨h,i,j⟩=>?_)
 cases d with
 | true=>exact l e g f h Q i j
 | false=>exact m e g f h Q i j
end
def SqL (K:FrG)(H:Hp)(a:Addr)(xs:List V):Prop:=
 Rd H a (.lst xs)\/
  ∃(o:Obj) (its:Array Value) (n:Nat),K.lookup a=some o/\o.cls=.type "list"/\o.dict=none/\o.data=.seq its n/\its.size<=Y7/\Vals xs its.toList
def SqT (K:FrG)(H:Hp)(a:Addr)(xs:List V):Prop:=
 Rd H a (.tup xs)\/
  ∃(o:Obj) (its:Array Value) (n:Nat),K.lookup a=some o/\o.cls=.type "tuple"/\o.data=.seq its n/\its.size<=Y7/\Vals xs its.toList
def absV:Value->Option V
 | .none=>some .non
 | .bool b=>some (.bl b)
 | .int i _=>some (.int i)
 | .str x _=>some (.str x)
 | .bytes b _=>some (.byt b)
 | .float b _=>some (.flt b)
 | .ref a=>some (.ref a)
 | .type n=>some (.ty n)
 | _=>none
theorem RelV.abs {x:V}{u:Value}(r:RelV x u):absV u=some x:=by
 cases x with
 | non=>cases r;rfl
 | bl _=>cases r;rfl
 | int _=>obtain ⟨t,rfl⟩:=r;rfl
 | str _=>obtain ⟨t,rfl⟩:=r;rfl
 | byt _=>obtain ⟨t,rfl⟩:=r;rfl
 | flt _=>obtain ⟨t,rfl⟩:=r;rfl
 | ref _=>cases r;rfl
 | ty _=>cases r;rfl
theorem RelV.inj {x y:V}{u:Value}(r:RelV x u)(q:RelV y u):x=y:=XY (r.abs.symm.trans q.abs)
theorem Vals.inj:∀{xs a:List V} {us:List Value},Vals xs us->Vals a us->xs=a
 | _,_,_,.nil,.nil=>rfl
 | _,_,_,.cons r t,.cons b t'=>by rw [r.inj b,Vals.inj t t']
section
variable {X:Cx}{pins:List (Addr×Obj)}{σ:St}{H:Hp}{s:X2}{a:Addr}{xs ys:List V}
theorem SqL.of {K:FrG}(b:H a=some (.lst xs)):SqL K H a xs:=.inl (.inl b)
theorem SqT.of {K:FrG}(b:H a=some (.tup xs)):SqT K H a xs:=.inl (.inl b)
theorem Inv.list (g:Inv X pins σ H s)(b:SqL X.K H a xs):∃its:List Value,Vals xs its/\PlainL s.heap a its.toArray/\xs.length<=Y7:=by
 rcases b with b | ⟨o,its,n,c,d,hd,f,h,r⟩
 ·obtain ⟨i,its,n,r,e⟩:=b.ok g.hok;exact ⟨its,r,⟨_,n,e,rfl,rfl,rfl⟩,i⟩
 ·refine ⟨its.toList,r,⟨o,n,g.kIn a o c,d,hd,by simpa using f⟩,?_⟩
  have e:=r.length;simp only [WE] at e;omega
theorem Inv.tuple (g:Inv X pins σ H s)(b:SqT X.K H a xs):∃its:List Value,Vals xs its/\IsTup s.heap a its.toArray/\xs.length<=Y7:=by
 rcases b with b | ⟨o,its,n,c,d,f,h,r⟩
 ·obtain ⟨i,its,r,p⟩:=b.ok g.hok;exact ⟨its,r,p,i⟩
 ·refine ⟨its.toList,r,⟨o,g.kIn a o c,d,n,by simpa using f⟩,?_⟩
  have e:=r.length;simp only [WE] at e;omega
theorem Inv.list_inj (g:Inv X pins σ H s)(h:SqL X.K H a xs)(h':SqL X.K H a ys):xs=ys:=by
 obtain ⟨its,r,⟨o,n,e,_,_,d⟩,_⟩:=g.list h;obtain ⟨its',c,⟨i,j,b,_,_,d'⟩,_⟩:=g.list h';rw [e] at b;cases b;rw [d] at d'
 injection d' with f _
 have:its=its':=by simpa using congrArg Array.toList f
 subst this;exact r.inj c
theorem Inv.tuple_inj (g:Inv X pins σ H s)(h:SqT X.K H a xs)(h':SqT X.K H a ys):xs=ys:=by
 obtain ⟨its,r,⟨o,e,_,n,d⟩,_⟩:=g.tuple h;obtain ⟨its',c,⟨i,b,_,j,d'⟩,_⟩:=g.tuple h';rw [e] at b;cases b;rw [d] at d'
 injection d' with f _
 have:its=its':=by simpa using congrArg Array.toList f
 subst this;exact r.inj c
end
abbrev Cx.wish (X:Cx)(E:Value->X2->Prop):Cx:={ X with xe:=E }
abbrev Cx.nox (X:Cx):Cx:=X.wish λ _ _=>False
theorem Cx.Ok.wish {X:Cx}(ok:X.Ok)(E:Value->X2->Prop):(X.wish E).Ok:=
 ⟨ok.mod,ok.kind,ok.glob,ok.blt,ok.above,ok.inj,ok.has,ok.cab,ok.hd,ok.frames,ok.stk,ok.exf,ok.bs,ok.bsz,ok.noex,ok.exfs,ok.funs,ok.frf⟩
theorem Cx.Ok.unwish {X:Cx}{E:Value->X2->Prop}(ok:(X.wish E).Ok):X.Ok:=
 ⟨ok.mod,ok.kind,ok.glob,ok.blt,ok.above,ok.inj,ok.has,ok.cab,ok.hd,ok.frames,ok.stk,ok.exf,ok.bs,ok.bsz,ok.noex,ok.exfs,ok.funs,ok.frf⟩
section
variable {X:Cx}{pins:List (Addr×Obj)}{σ:St}{H:Hp}{s:X2}{E:Value->X2->Prop}
theorem Inv.wish (a:Inv X pins σ H s)(E:Value->X2->Prop):Inv (X.wish E) pins σ H s:=⟨a.ok.wish E,a.os,a.bare,a.base,a.loc,a.cell,a.free,a.freeC,a.pin,a.hok,a.len,a.tk⟩
theorem Inv.unwish (a:Inv (X.wish E) pins σ H s):Inv X pins σ H s:=⟨a.ok.unwish,a.os,a.bare,a.base,a.loc,a.cell,a.free,a.freeC,a.pin,a.hok,a.len,a.tk⟩
theorem SP.unwish {e:Ends}{f:Flow}{s':X2}(d:SP (X.wish E) pins e f s'):SP X pins e f s':=by
 cases f with
 | next=>obtain ⟨a,b,c,q⟩:=d;exact ⟨a,b,c.unwish,q⟩
 | brk=>obtain ⟨a,b,c,q⟩:=d;exact ⟨a,b,c.unwish,q⟩
 | cont=>obtain ⟨a,b,c,q⟩:=d;exact ⟨a,b,c.unwish,q⟩
 | ret u=>obtain ⟨v,a,b,c,r,q⟩:=d;exact ⟨v,a,b,c.unwish,r,q⟩
theorem PSs.nox {st:List Stmt}{t:TS}(b:PSs X.nox st t):PSs X st t:=λ pins s σ H c d a=>
 UI (b pins s σ H c (d.wish _) a) (λ _ _ q=>q.unwish) λ _ _ e=>UH e
end
section
variable {X:Cx}{st:Stmt}{rest:List Stmt}{t u:TS}{e:Expr}{te:TE}{pos:Pos}
def tNext:TS:=λ b a H=>b.nx a H
def tSeq (t u:TS):TS:=λ b a H=>t { b with nx:=u b } a H
theorem Ax:PSs X [] tNext:=λ _ _ a H _ b c=>jR ⟨a,H,b,c⟩
theorem Ae (c:PS X st t)(d:PSs X rest u):PSs X (st::rest) (tSeq t u):=by
 intro a s g H h l m;refine Fk (thn (c a s g H { h with nx:=u h } l m) λ f i q=>?_)
 cases f with
 | next=>
  obtain ⟨b,j,k,q⟩:=q;exact d a i b j h k q
 | ret v=>exact q
 | brk=>exact q
 | cont=>exact q
theorem Af (b:PS X st t):PSs X [st] t:=by
 intro a s c H d g h;refine Fk (thn (b a s c H d g h) λ f i q=>?_)
 cases f with
 | next=>exact jR q
 | ret v=>exact q
 | brk=>exact q
 | cont=>exact q
theorem Inv.quiet {a:List (Addr×Obj)}{b:St}{H:Hp}{s:X2}(c:Inv X a b H s):interactive X.env=false:=by simp [interactive,c.ok.kind]
def tDrop (te:TE):TS:=λ c a H=>te a H λ _ b=>c.nx a b
theorem Cw (c:PE X e te)(d:ql e none pos.line X.env=pure false:=by rfl):PS X (.Expr e pos) (tDrop te):=by
 intro a s b H m i j;exact wpAny_Expr_any (thn (c a s b H _ i j) λ v k ⟨x,f,g,l,h⟩=>⟨b,f,g,h⟩) i.quiet d
def tRet (te:TE):TS:=λ b a H=>te a H b.rt
theorem Am (c:PE X e te):PS X (.Return (some e) pos) (tRet te):=by
 intro a s b H l i j;exact wpAny_Return_some (thn (c a s b H _ i j) λ v k ⟨x,d,f,g,h⟩=>⟨x,b,d,f,g,h⟩)
def tIfS (c:TT)(t u:TS):TS:=λ f a H=>c a H λ b d=>if b=true then t f a d else u f a d
theorem Aw {c:Expr}{a b:List Stmt}{h:TT}(m:PT X c h)(n:PSs X a t)(o:PSs X b u):PS X (.If c a b pos) (tIfS h t u):=by
 intro f s g H p q r;refine wpAny_If (thn (m f s g H _ q r) λ d i ⟨j,k,l⟩=>?_)
 cases d with
 | true=>exact n f i g j p k l
 | false=>exact o f i g j p k l
def tNever:TS:=λ _ _ _=>False
theorem Cj:PS X st tNever:=λ _ _ _ _ _ _ a=>a.elim
end
abbrev TG:=V->St->Hp->(St->Hp->Prop)->Prop
abbrev TGs:=List V->St->Hp->(St->Hp->Prop)->Prop
def PG (X:Cx)(a:Expr)(t:TG):Prop:=
 ∀(b:List (Addr×Obj)) (s:X2) (d:St) (H:Hp) (v:V) (u:Value) (Q:St->Hp->Prop),Inv X b d H s->RelV v u->t v d H Q->
  wpAny (model X.prog X.w) X.A (FI a X.env u) (λ _ s'=>∃c e,Inv X b c e s'/\Q c e) X.xe s
def PGs (X:Cx)(e:List Expr)(t:TGs):Prop:=
 ∀(a:List (Addr×Obj)) (s:X2) (c:St) (H:Hp) (vs:List V) (us:List Value) (Q:St->Hp->Prop),Inv X a c H s->Vals vs us->t vs c H Q->
  wpAny (model X.prog X.w) X.A (GS ((zo e X.env).map (·.2)) us) (λ _ s'=>∃b d,Inv X a b d s'/\Q b d) X.xe s
abbrev TSet:=V->V->V->Hp->(Hp->Prop)->Prop
def PSet (X:Cx)(t:TSet):Prop:=
 ∀(a:List (Addr×Obj)) (s:X2) (b:St) (H:Hp) (o i v:V) (c d u:Value) (Q:Hp->Prop),Inv X a b H s->RelV o c->RelV i d->RelV v u->t o i v H Q->
  wpAny (model X.prog X.w) X.A (setItem c d u) (λ _ s'=>∃e,Inv X a b e s'/\Q e) X.xe s
abbrev TIp:=V->V->Hp->VK->Prop
def PIp (X:Cx)(c:NH)(t:TIp):Prop:=
 ∀(a:List (Addr×Obj)) (s:X2) (b:St) (H:Hp) (x y:V) (v u:Value) (Q:VK),Inv X a b H s->RelV x v->RelV y u->t x y H Q->
  wpAny (model X.prog X.w) X.A (inplaceOp c v u) (EP X a b Q) X.xe s
section
variable {X:Cx}{pos:Pos}
def gName (i:Nat):TG:=λ v a H Q=>Q (a.set i (some v)) H
theorem Bc {i:Nat}{x:Str}(a:X.N.Nodup)(b:X.N[i]?=some x:=by rfl)(c:Loc X.env.scope x:=by first | exact Or.inl rfl | exact Or.inr rfl)(hf:X.fn x=true\/X.env.scope.names.lookup x=some .local:=by first | exact .inl rfl | exact .inr rfl | assumption):PG X (.Name x pos) (gName i):=by
 intro d s f H v u Q g r h;exact wpAny_assign_Name (JG g a b c r (λ s' e=>⟨_,H,e,h⟩) hf)
def gNil:TGs:=λ vs a H Q=>vs=[]/\Q a H
def gCons (t:TG)(u:TGs):TGs:=λ vs b H Q=>∃v r,vs=v::r/\t v b H λ a c=>u r a c Q
theorem Gf:PGs X [] gNil:=by
 intro a s b H vs us Q d r c;obtain ⟨e,c⟩:=c;subst e;cases r
 exact assignInOrder_nil ⟨b,H,d,c⟩
theorem Cy {e:Expr}{es:List Expr}{t:TG}{u:TGs}(c:PG X e t)(d:PGs X es u)
  (f:(zo (e::es) X.env).map (·.2)=FI e X.env::(zo es X.env).map (·.2):=by rfl):PGs X (e::es) (gCons t u):=by
 intro a s g H vs us Q n r h;obtain ⟨v,o,e1,h⟩:=h;subst e1;cases r with
 | cons r i=>
  rw [f];refine qF (thn (c a s g H _ _ _ n r h) λ _ j ⟨b,k,l,m⟩=>?_)
  exact d a j b k _ _ Q l i m
def gTup (K:FrG)(n:Nat)(t:TGs):TG:=λ v b H Q=>∃a xs,v=.ref a/\SqT K H a xs/\xs.length=n/\t xs b H Q
theorem Yc {es:List Expr}{k:Nat}{t:TGs}{n:Nat}(i:X.calm=true)(w:PGs X es t)
  (j:(zo es X.env).length=n:=by rfl) (f:(zo es X.env).findIdx? (·.1)=none:=by rfl):PG X (.Tuple es k pos) (gTup X.K n t):=by
 intro c s g H v u Q l r d;obtain ⟨a,xs,e1,m,hl,d⟩:=d;subst e1;cases r
 obtain ⟨its,h,ht,x⟩:=l.tuple m;refine assign_Tuple_tuple (l.ok.hd i) ht (by simp [j,<- hl,h.length]) f λ h' p=>?_
 have q:Inv X c g H { s with heap:=h' }:=l.kept (t':=s.toks) λ b o e=>p b o (XG (ZO e)) e
 exact w c _ g H xs _ Q q (by simpa using h) d
def gSub (b c:TE)(t:TSet):TG:=λ v a H Q=>b a H λ o d=>c a d λ i e=>t o i v e λ f=>Q a f
theorem Jx {o i:Expr}{e f:TE}{t:TSet}(g:PE X o e)(h:PE X i f)(j:PSet X t)
  (k:∀v,FI (.Subscript o i pos) X.env v=(do
   let b <- holding [v] (eval o X.env)
   let c <- holding [v,b] (eval i X.env)
   standAt pos
   holding [v,b,c] (setItem b c v)
   release [v,b,c] []):=by intro _;rfl):PG X (.Subscript o i pos) (gSub e f t):=by
 intro a s d H v u Q G r I;rw [k];refine W1 (UZ (thn (g a s d H _ G I) λ b l ⟨x,m,n,p,q⟩=>?_))
 refine W1 (UZ (thn (h a l d m _ n q) λ c w ⟨y,z,A,B,C⟩=>?_))
 refine W1 (ut (W1 (UZ (thn (j a w d z x y v b c u _ A p B r C) λ _ J ⟨D,E,F⟩=>?_))))
 exact wpAny_release ⟨d,D,E,F⟩
def tAsg (b:TE)(d:TG):TS:=λ e a H=>b a H λ x c=>d x a c e.nx
theorem Ey {tg e:Expr}{b:TE}{o:TG}(d:PE X e b)(f:PG X tg o)(g:swapsWithSole [tg] e pos.line X.env=pure false:=by rfl)(h:swappedStores [tg] e X.env=pure none:=by rfl)
  (i:(zo [tg] X.env).map (·.2)=[FI tg X.env]:=by rfl):PS X (.Assign [tg] e pos) (tAsg b o):=by
 intro a s c H u p r;refine wpAny_Assign_stores (thn (d a s c H _ p r) λ v j ⟨x,k,l,m,n⟩=>?_) g h
 rw [i];exact thn (f a j c k x v _ l m n) λ _ t q=>q
theorem Ar {i:Nat}{x:Str}{e:Expr}{c:TE}{a:Pos}(d:X.N.Nodup)(f:PE X e c)(g:X.N[i]?=some x:=by rfl)(h:Loc X.env.scope x:=by first | exact Or.inl rfl | exact Or.inr rfl)(j:ql e (some (.Name x a)) pos.line X.env=pure false:=by rfl)(hf:X.fn x=true\/X.env.scope.names.lookup x=some .local:=by first | exact .inl rfl | exact .inr rfl | assumption):
  PS X (.Assign [.Name x a] e pos) (tAsg c (gName i)):=by
 intro b s k H w q r;refine wpAny_Assign_Name (thn (f b s k H _ q r) λ v t ⟨y,l,m,n,o⟩=>?_) j
 exact JG m d g h n (λ u p=>⟨_,l,p,o⟩) hf
def tPar (i j:Nat)(b:TA):TS:=λ d a H=>b a H λ vs c=>∃v w,vs=[v,w]/\d.nx ((a.set i (some v)).set j (some w)) c
theorem ZK {i j:Nat}{x y:Str}{a b:Expr}{m:TA}{h k pt:Pos}{kt k2 pt2}(F:X.calm=true)(n:X.N.Nodup)(G:X.N[i]?=some x)(I:X.N[j]?=some y)(r:i≠j)
  (t:X.env.scope.names.lookup x=some .local) (u:X.env.scope.names.lookup y=some .local) (J:PA X [a,b] m)
  (K:swappedStores [.Tuple [.Name x h,.Name y k] kt pt] (.Tuple [a,b] k2 pt2) X.env=pure (some [x,y]))
  (L:swapsWithSole [.Tuple [.Name x h,.Name y k] kt pt] (.Tuple [a,b] k2 pt2) pos.line X.env=pure false:=by rfl):
  PS X (.Assign [.Tuple [.Name x h,.Name y k] kt pt] (.Tuple [a,b] k2 pt2) pos) (tPar i j m):=by
 intro g s z H a0 V W;rw [exec_Assign_arm];refine W1 (ut ?_);rw [L];refine W1 (Yf ?_);rw [if_neg (by decide)]
 refine W1 (Tuple_ (thn (J _ g s z H _ V W) λ us c ⟨vs,B,M,O,l⟩=>?_))
 obtain ⟨v,w,e1,l⟩:=l;subst e1;obtain ⟨d,f,rfl,P,C⟩:∃d f,us=[d,f]/\RelV v d/\RelV w f:=by
  cases O with
  | cons p q=>
   cases q with
   | cons Q R=>
    cases R
    exact ⟨_,_,rfl,p,Q⟩
 refine zd ?_ (by show 2<=Y7;decide)
 have S:Inv X g z B { c with heap:=c.heap.push { cls:=.type "tuple",data:=.seq [d,f].toArray } }:=M.kept (t':=c.toks) λ b o e=>Za _ e
 rw [K];refine W1 (Yf ?_);show wpAny (model X.prog X.w) X.A (do rule "assign.swapped-stores";let items <- unpackItems (.ref c.heap.objs.size) 2 none;GS [λ v=>bindName X.env y v,λ v=>bindName X.env x v] items.reverse;pure Flow.next) _ _ _
 refine W1 (wpAny_rule (W1 (unpackItems_tuple (items:=#[d,f]) (V.ok.hd F) (IsTup.new c.heap _) λ h' D=>?_)))
 have T:=S.kept (h':=h') (t':=c.toks) λ b o e=>D b o (XG (ZO e)) e
 show wpAny _ _ (GS [λ v=>bindName X.env y v,λ v=>bindName X.env x v] [f,d] >>= λ _=>pure Flow.next) _ _ _
 refine W1 (qF (wpAny_bindName (JG T n I (.inl u) C (λ Y U=>?_) (.inr u))))
 refine qF (wpAny_bindName (JG U n G (.inl t) P (λ Z E=>assignInOrder_nil (Yf ?_)) (.inr t)))
 rw [List.set_comm _ _ (QO r)] at E;exact ⟨_,B,E,l⟩
def tAug (i:Nat)(b:TE)(c:TIp):TS:=λ f a H=>∃x,a[i]?=some (some x)/\b a H λ y d=>c x y d λ g e=>f.nx (a.set i (some g)) e
theorem uN {i:Nat}{x:Str}{e:Expr}{n:TE}{d:NH}{o:TIp}{f:Pos}(B:X.N.Nodup)(p:X.N[i]?=some x)(g:Loc X.env.scope x)(C:PE X e n)(D:PIp X d o)(hf:X.fn x=true\/X.env.scope.names.lookup x=some .local:=by first | exact .inl rfl | exact .inr rfl | assumption):
  PS X (.AugAssign (.Name x f) d e pos) (tAug i n o):=by
 intro b s q H U z E;obtain ⟨v,e1,E⟩:=E;obtain ⟨m,F,hl⟩:=z.loc;have t:Vis X.env.scope x:=by rcases g with k | k;exact .inl k;exact .inr (.inl k)
 obtain ⟨u,r,l⟩:=hl i x v p e1 t;refine wpAny_AugAssign_Name ?_;have go:wpAny (model X.prog X.w) X.A (eval e X.env) (λ w h=>wpAny (model X.prog X.w) X.A (inplaceOp d u w) (λ r j=>wpAny (model X.prog X.w) X.A (storeName X.env x r) (λ _=>SP X b U .next) X.xe j) X.xe h) X.xe s:=by
  refine thn (C b s q H _ z E) λ w G ⟨y,I,J,K,L⟩=>?_
  refine thn (D b G q I v y u w _ J r K L) λ Z V ⟨W,M,O,P,Q⟩=>?_
  exact JG O B p g P (λ Y R=>⟨_,M,R,Q⟩) hf
 rcases l with ⟨a,S⟩ | ⟨a,c,T,hcell⟩
 ·exact jd z.ok.kind a F S go
 ·rcases a with a | a
  ·exact wpAny_loadName_cell z.ok.kind a T hcell go
  ·rcases g with k | k
   ·have:X.env.scope.names.lookup x=some .free:=a;rw [k] at this;cases this
   ·have:X.env.scope.names.lookup x=some .free:=a;rw [k] at this;cases this
def ipI (f:Int->Int->Int):TIp:=λ x y H Q=>∃i j,x=.int i/\y=.int j/\Q (.int (f i j)) H
theorem tV:PIp X .Add (ipI λ i j=>i+j):=by
 intro a s d H x y v u Q e b c f;obtain ⟨i,j,e1,e2,q⟩:=f;subst e1;subst e2;obtain ⟨t,rfl⟩:=b;obtain ⟨t',rfl⟩:=c;exact iadd_int ⟨.int _,H,e.tok _,⟨_,rfl⟩,q⟩
end
section
variable {X:Cx}{pos:Pos}
def tWhile (c:TT)(tb:TS):TS:=λ h a H=>∃i:Nat->St->Hp->Prop,(∃m,i m a H)/\∀m a H,i m a H->
 c a H λ b e=>if b=true then ∃N:St->Hp->Prop,(∀d f,N d f->∃g,g < m/\i g d f)/\tb { h with nx:=N,ct:=N,bk:=h.nx } a e else h.nx a e
theorem Jj {c:Expr}{g:List Stmt}{r:TT}{tb:TS}(t:WV (model X.prog X.w) X.A X.env X.xe)(C:PT X c r)(D:PSs X g tb):PS X (.While c g [] pos) (tWhile r tb):=by
 intro d s E H R M O;obtain ⟨P,⟨F,G⟩,turn⟩:=O;refine wpAny_While (codeAny_whileLoop (λ n s'=>∃k u,Inv X d k u s'/\P n k u) ?_ F ⟨E,H,M,G⟩)
 rintro n I ⟨e,x,J,K⟩
 refine QY t (thn (C d I e x _ J (turn n e x K)) λ b L ⟨y,z,i⟩=>?_)
 cases b with
 | true=>
  obtain ⟨N,B,i⟩:=i;rw [if_pos rfl];refine QY t (thn (D d L e y _ z i) λ f Q j=>?_)
  cases f with
  | next=>
   obtain ⟨a,h,l,m⟩:=j;obtain ⟨o,p,q⟩:=B a h m;exact ⟨o,p,a,h,l,q⟩
  | cont=>
   obtain ⟨a,h,l,m⟩:=j;obtain ⟨o,p,q⟩:=B a h m;exact ⟨o,p,a,h,l,q⟩
  | brk=>exact j
  | ret v=>exact j
 | false=>
  rw [if_neg Zo];exact jR ⟨e,y,z,i⟩
end
structure It where
 go:Nat->Hp->Prop
 yld:Nat->Hp->V->Hp->Prop
 stop:Nat->Hp->Prop
def FpOk (X:Cx)(a:List (Addr×Obj))(H:Hp)(b:Addr):Prop:=
 H b=none/\b≠X.env.locals/\b∉X.fs/\(b∈X.ex\/X.s₀.heap.objs.size<=b)/\(∀x c,X.env.cells.lookup x=some c->c≠b)/\∀p∈X.pn++a,p.1≠b
theorem Inv.fpOk {X:Cx}{a:List (Addr×Obj)}{h:St}{H f:Hp}{s:X2}{b:Addr}(g:Inv X a h H s)(d:s.heap.objs.size<=b)(i:f b=none):FpOk X a f b:=by
 refine ⟨i,WS (X1 g.lt d),g.nofs d,.inr (U1 g.sz d),λ x c e j=>?_,λ p k j=>?_⟩
 ·obtain ⟨v,q⟩:=g.cell x c e;exact absurd (X1 q.lt (by rw [j];exact d)) (Qr _)
 ·exact absurd (X1 (ZO (g.pin p k).1) (by rw [j];exact d)) (Qr _)
structure Turn (P:ZY)(w:World)(K:FrG)(tg:Expr)(J:It)(fp:List Addr)(it:Addr)(tn:Nat->Heap->Prop):Prop where
 mem:it∈fp
 obj:∀i h,tn i h->∀b∈fp,∃o,h.get? b=some o/\∀v,o.data≠.cell v
 keep:∀i h h',tn i h->(∀b∈fp,∀o,h.get? b=some o->h'.get? b=some o)->tn i h'
 item:∀(X:Cx),X.prog=P->X.w=w->X.K=K->X.calm=true->∀(i:Nat) (pins:List (Addr×Obj)) (s:X2) (σ:St) (H:Hp) (E:Value->X2->Prop),Inv X pins σ H s->(∀b∈fp,FpOk X pins H b)->tn i s.heap->J.go i H->
  wpAny (model P w) X.A (pyNext (.ref it)) (λ r s1=>∃u,r=some u/\
   wpAny (model P w) X.A (xS tg (.ref it) u) (λ _ s2=>∃x H',Inv X pins σ H' s2/\RelV x u/\J.yld i H x H'/\tn (i+1) s2.heap/\∀b∈fp,H' b=none) E s1) E s
 done:∀(X:Cx),X.prog=P->X.w=w->X.K=K->X.calm=true->∀(i:Nat) (pins:List (Addr×Obj)) (s:X2) (σ:St) (H:Hp) (E:Value->X2->Prop),Inv X pins σ H s->(∀b∈fp,FpOk X pins H b)->tn i s.heap->J.stop i H->
  wpAny (model P w) X.A (pyNext (.ref it)) (λ r s1=>r=none/\Inv X pins σ H s1) E s
 self:∀(A:XU) (i:Nat) (s:X2) (Q:Value->X2->Prop) (E:Value->X2->Prop),tn i s.heap->Q (.ref it) s->wpAny (model P w) A (pyIter (.ref it)) Q E s
abbrev TI:=St->Hp->(It->Hp->Prop)->Prop
def PIE (X:Cx)(a:List (Addr×Obj))(h:St)(tg:Expr)(j:It->Hp->Prop)(d:Value)(e:X2):Prop:=
 ∃(it:Addr) (f:List Addr) (g:Nat->Heap->Prop) (i:It) (c:Hp),d=.ref it/\Inv X a h c e/\Turn X.prog X.w X.K tg i f it g/\g 0 e.heap/\(∀b∈f,FpOk X a c b)/\j i c
def PI (X:Cx)(tg iter:Expr)(c:TI):Prop:=
 ∀(a:List (Addr×Obj)) (s:X2) (b:St) (H:Hp) (e:It->Hp->Prop),Inv X a b H s->c b H e->
  wpAny (model X.prog X.w) X.A (eval iter X.env) (λ v d=>wpAny (model X.prog X.w) X.A (pyIter v) (PIE X a b tg e) X.xe d) X.xe s
theorem Rm {e:Model}{A:XU}{E:Value->X2->Prop}{s:X2}{tg:Expr}{it:Addr}{u:Value}{o:Obj}{n:String}{vs:Array Value}{Q:Unit->X2->Prop}(b:s.heap.get? it=some o)(c:o.cls=.type n)(hd:o.data=.fields vs)
  (d:["enumerate","zip","dict_itemiterator","dict_reverseitemiterator","odict_iterator","itertools.zip_longest","itertools.pairwise"].contains n=false) (a:Q () s):wpAny e A (xS tg (.ref it) u) Q E s:=by
 unfold xS;cases tg<;>first
  | exact Yf a
  | (cases u<;>first
    | exact Yf a
    | (refine W1 (wpAny_load b ?_);rw [c,hd];show wpAny e A (if (["enumerate","zip","dict_itemiterator","dict_reverseitemiterator","odict_iterator","itertools.zip_longest","itertools.pairwise"].contains n && vs[0]? == some (rawInt _))=true then _ else _) Q E s;rw [if_neg (by intro f;rw [d,wo] at f;cases f)];exact Yf a))
def Itl (K:FrG)(a:Addr):It:=
 ⟨λ i H=>∃xs x,SqL K H a xs/\xs[i]?=some x,λ i H x b=>b=H/\∀xs,SqL K H a xs->xs[i]?=some x,λ i H=>∃xs,SqL K H a xs/\xs.length<=i⟩
def Itt (K:FrG)(a:Addr):It:=
 ⟨λ i H=>∃xs x,SqT K H a xs/\xs[i]?=some x,λ i H x b=>b=H/\∀xs,SqT K H a xs->xs[i]?=some x,λ i H=>∃xs,SqT K H a xs/\xs.length<=i⟩
def Itr (lo:Int)(n:Nat):It:=⟨λ i _=>i < n,λ i H x a=>a=H/\x=.int (lo+i),λ i _=>n<=i⟩
theorem kh {P:ZY}{w:World}{K:FrG}{tg:Expr}(a it:Addr):Turn P w K tg (Itl K a) [it] it (λ i F=>F.IsListIter it a i) where
 mem:=by simp
 obj:=λ i F st b f=>by
  have e:b=it:=by simpa using f
  subst e;obtain ⟨o,e,c,d⟩:=st;exact ⟨o,e,λ v T=>by rw [d] at T;cases T⟩
 keep:=λ i F h' st k=>st.at λ o e=>k it (by simp) o e
 item:=by
  intro X l m n G i g s I H E q hf st r;subst l m n;obtain ⟨xs,x,h,t⟩:=r;obtain ⟨its,y,p,J⟩:=q.list h;obtain ⟨u,L,M⟩:=y.get t;obtain ⟨z,A,N,B,C,D⟩:=hf it (by simp)
  refine wpAny_pyNext_list_item st p.isList (x:=u) (by simpa using L) λ h' j O=>?_
  have Q:Inv X g I H { s with heap:=h' }:=q.turned (t':=s.toks) (λ b o f e=>(O.2 b f).trans e) z A B C D
  obtain ⟨o,e,c,d⟩:=id j;exact ⟨u,rfl,Rm (s:={ s with heap:=h' }) e c d (by decide) ⟨x,H,Q,M,⟨rfl,λ U R=>by rw [q.list_inj R h];exact t⟩,j,λ b f=>(hf b f).1⟩⟩
 done:=by
  intro X l m n G i g s I H E q hf st r;subst l m n;obtain ⟨xs,h,t⟩:=r;obtain ⟨its,y,p,J⟩:=q.list h;obtain ⟨z,A,N,B,C,D⟩:=hf it (by simp)
  have hl:=y.length;exact wpAny_pyNext_list_end (q.ok.hd G) st p.isList (by simp;omega) λ h' S=>⟨rfl,q.turned (t':=s.toks) (λ b o f e=>S b o f e) z A B C D⟩
 self:=λ _ _ _ _ _ st F=>wpAny_pyIter_listiter st F
theorem zQ {P:ZY}{w:World}{K:FrG}{tg:Expr}(a it:Addr):Turn P w K tg (Itt K a) [it] it (λ i F=>F.IsTupleIter it a i) where
 mem:=by simp
 obj:=λ i F st b f=>by
  have e:b=it:=by simpa using f
  subst e;obtain ⟨o,e,c,d⟩:=st;exact ⟨o,e,λ v T=>by rw [d] at T;cases T⟩
 keep:=λ i F h' st k=>st.at λ o e=>k it (by simp) o e
 item:=by
  intro X l m n G i g s I H E q hf st r;subst l m n;obtain ⟨xs,x,h,t⟩:=r;obtain ⟨its,y,p,J⟩:=q.tuple h;obtain ⟨u,L,M⟩:=y.get t;obtain ⟨z,A,N,B,C,D⟩:=hf it (by simp)
  refine wpAny_pyNext_tuple_item st (show s.heap.IsTuple a its.toArray from p) (x:=u) (by simpa using L) λ h' j O=>?_
  have Q:Inv X g I H { s with heap:=h' }:=q.turned (t':=s.toks) (λ b o f e=>(O.2 b f).trans e) z A B C D
  obtain ⟨o,e,c,d⟩:=id j;exact ⟨u,rfl,Rm (s:={ s with heap:=h' }) e c d (by decide) ⟨x,H,Q,M,⟨rfl,λ U R=>by rw [q.tuple_inj R h];exact t⟩,j,λ b f=>(hf b f).1⟩⟩
 done:=by
  intro X l m n G i g s I H E q hf st r;subst l m n;obtain ⟨xs,h,t⟩:=r;obtain ⟨its,y,p,J⟩:=q.tuple h;obtain ⟨z,A,N,B,C,D⟩:=hf it (by simp)
  have hl:=y.length;exact wpAny_pyNext_tuple_end (q.ok.hd G) st (show s.heap.IsTuple a its.toArray from p) (by simp;omega) λ h' S=>⟨rfl,q.turned (t':=s.toks) (λ b o f e=>S b o f e) z A B C D⟩
 self:=λ _ _ _ _ _ st F=>wpAny_pyIter_tupleiter st F
theorem rF {P:ZY}{w:World}{K:FrG}{tg:Expr}(it:Addr)(lo:Int)(n:Nat):Turn P w K tg (Itr lo n) [it] it (λ i y=>IsRangeIter y it (lo+(i:Nat) * 1) ((n:Int) - (i:Nat)) 1) where
 mem:=by simp
 obj:=λ i y st b a=>by
  have e:b=it:=by simpa using a
  subst e;exact ⟨_,st,λ v I=>by
   have A:Data.fields _=Data.cell v:=I;cases A⟩
 keep:=λ i y h' st k=>k it (by simp) _ st
 item:=by
  intro X f g h j i c s z H E x hf st l;subst f g h;obtain ⟨m,p,B,q,r,u⟩:=hf it (by simp)
  have J:=Walks.range (prog:=X.prog) (w:=X.w) (x.ok.hd j) it lo 1 n;refine Qa x.tk (J.item i s _ _ l st λ v h' tk hv d C G=>?_)
  obtain ⟨t,rfl⟩:=hv;have D:Inv X c z H { s with heap:=h',toks:=tk }:=x.turned (λ b o a e=>C b o (by simpa using a) e) m p q r u
  refine ⟨_,rfl,Rm (s:={ s with heap:=h',toks:=tk }) (n:="range_iterator") d rfl rfl (by decide) ⟨.int (lo+i),H,D,⟨t,?_⟩,⟨rfl,rfl⟩,d,λ b a=>(hf b a).1⟩⟩
  rw [Int.mul_one]
 done:=by
  intro X f g h j i c s z H E x hf st l;subst f g h;obtain ⟨m,p,B,q,r,u⟩:=hf it (by simp)
  exact wpAny_pyNext_range_end (x.ok.hd j) st (by have:n<=i:=l;omega) λ h' F=>⟨rfl,x.turned (t':=s.toks) (λ b o a e=>F b o a e) m p q r u⟩
 self:=λ _ _ _ _ _ st y=>wpAny_pyIter_rangeiter st y
section
variable {X:Cx}{tg:Expr}
def iList (K:FrG)(c:TE):TI:=λ d H e=>c d H λ x b=>∃a,x=.ref a/\(∃xs,SqL K b a xs)/\e (Itl K a) b
def iTup (K:FrG)(c:TE):TI:=λ d H e=>c d H λ x b=>∃a,x=.ref a/\(∃xs,SqT K b a xs)/\e (Itt K a) b
theorem DY {l:Expr}{g:TE}(hl:PE X l g):PI X tg l (iList X.K g):=by
 intro f s h H y r t;refine thn (hl f s h H _ r t) λ v c ⟨x,i,d,j,k⟩=>?_
 obtain ⟨a,e,⟨xs,m⟩,q⟩:=k;subst e;cases j
 obtain ⟨its,u,p,w⟩:=d.list m;refine GG p.isList ?_;refine ⟨c.heap.objs.size,[c.heap.objs.size],_,_,i,rfl,d.kept (t':=c.toks) λ b o e=>Za _ e,kh a _,⟨_,XB _ rfl,rfl,rfl⟩,λ b n=>?_,q⟩
 have e:b=c.heap.objs.size:=by simpa using n
 subst e;exact d.fpOk (Zj _) (d.hok.fresh (Zj _))
theorem JV {l:Expr}{g:TE}(hl:PE X l g):PI X tg l (iTup X.K g):=by
 intro f s h H y r t;refine thn (hl f s h H _ r t) λ v c ⟨x,i,d,j,k⟩=>?_
 obtain ⟨a,e,⟨xs,m⟩,q⟩:=k;subst e;cases j
 obtain ⟨its,u,p,w⟩:=d.tuple m;refine wpAny_pyIter_tuple (show c.heap.IsTuple a its.toArray from p) ?_
 refine ⟨c.heap.objs.size,[c.heap.objs.size],_,_,i,rfl,d.kept (t':=c.toks) λ b o e=>Za _ e,zQ a _,⟨_,XB _ rfl,rfl,rfl⟩,λ b n=>?_,q⟩
 have e:b=c.heap.objs.size:=by simpa using n
 subst e;exact d.fpOk (Zj _) (d.hok.fresh (Zj _))
theorem eO {c:List (Addr×Obj)}{d:St}{H:Hp}{s:X2}{l:It->Hp->Prop}{E:Value->X2->Prop}{lo a:Int}{t u v:Tok}{tk:Nat}(n:Inv X c d H s)(g:-(2 ^ 62)<=lo)(h:lo < 2 ^ 62)(i:-(2 ^ 62)<=a)(j:a < 2 ^ 62)(m:1<=tk)
  (q:l (Itr lo (a - lo).toNat) H):wpAny (model X.prog X.w) X.A (pyIter (.ref s.heap.objs.size)) (PIE X c d tg l) E { s with heap:=s.heap.push { cls:=.type "range",data:=.fields #[.int lo t,.int a u,.int 1 v] },toks:=tk }:=by
 refine wpAny_pyIter_range (IsRange.new ..) (small_one g h i j) ?_;have f:Inv X c d H { s with heap:=s.heap.push { cls:=.type "range",data:=.fields #[.int lo t,.int a u,.int 1 v] },toks:=tk }:=n.kept λ b o e=>Za _ e
 refine ⟨(s.heap.push { cls:=.type "range",data:=.fields #[.int lo t,.int a u,.int 1 v] }).objs.size,[(s.heap.push { cls:=.type "range",data:=.fields #[.int lo t,.int a u,.int 1 v] }).objs.size],_,_,H,rfl,
  f.kept (t':=tk) λ b o e=>Za _ e,rF _ lo (a - lo).toNat,?_,λ b k=>?_,q⟩
 ·have e1:lo+((0:Nat):Int) * 1=lo:=by simp
  have e2:(((a - lo).toNat:Nat):Int) - ((0:Nat):Int)=WN.Range.rangeSize lo a 1:=by rw [rangeSize_one];split<;>omega
  show IsRangeIter _ _ (lo+((0:Nat):Int) * 1) ((((a - lo).toNat:Nat):Int) - ((0:Nat):Int)) 1;rw [e1,e2];exact XB _ rfl
 ·have e:b=(s.heap.push { cls:=.type "range",data:=.fields #[.int lo t,.int a u,.int 1 v] }).objs.size:=by simpa using k
  subst e;exact f.fpOk (Zj _) (f.hok.fresh (Zj _))
def iRng1 (a:TA):TI:=λ b H d=>a b H λ vs c=>∃j:Int,vs=[.int j]/\-(2 ^ 62)<=j/\j < 2 ^ 62/\d (Itr 0 j.toNat) c
def iRng2 (a:TA):TI:=λ b H d=>a b H λ vs c=>∃i j:Int,vs=[.int i,.int j]/\(-(2 ^ 62)<=i/\i < 2 ^ 62/\-(2 ^ 62)<=j/\j < 2 ^ 62)/\d (Itr i (j - i).toNat) c
theorem IW {a:Expr}{d:TA}{p pos:Pos}(g:Gl X "range")(h:X.mg "range"=none)(i:PA X [a] d)(k:Xa [a] X.env=[(false,eval a X.env)]:=by rfl):PI X tg (.Call (.Name "range" p) [a] [] pos) (iRng1 d):=by
 intro b s l H y u v;refine Call_ (Gk u g h boot_range (Us (thn (i pos b s l H _ u v) λ us w ⟨vs,x,f,m,c⟩=>?_) k rfl))
 obtain ⟨j,e,c,n,q⟩:=c;subst e;cases m with
 | cons r o=>
  cases o
  obtain ⟨t,rfl⟩:=r;exact call_range_1 (eO f (by omega) (by omega) c n (by first | exact YI _ _ | exact f.tk | omega) (by simpa using q))
theorem rE {a b:Expr}{h:TA}{p pos:Pos}(l:Gl X "range")(m:X.mg "range"=none)(n:PA X [a,b] h)(o:Xa [a,b] X.env=[(false,eval a X.env),(false,eval b X.env)]:=by rfl)(c:Xa [b] X.env=[(false,eval b X.env)]:=by rfl):
  PI X tg (.Call (.Name "range" p) [a,b] [] pos) (iRng2 h):=by
 intro d s u H E A B;refine Call_ (Gk A l m boot_range (Us (thn (n pos d s u H _ A B) λ us C ⟨vs,D,k,v,f⟩=>?_) (by rw [o,c]) (by rw [c];rfl)))
 obtain ⟨i,j,e,⟨f,w,x,y⟩,q⟩:=f;subst e;cases v with
 | cons r g=>
  cases g with
  | cons z g=>
   cases g
   obtain ⟨t,rfl⟩:=r;obtain ⟨t',rfl⟩:=z;exact call_range_2 (eO k f w x y (by first | exact YI _ _ | exact k.tk | omega) q)
def tFor (f:TI)(n:TG)(tb:TS):TS:=λ g a H=>f a H λ h j=>∃k:Nat->Nat->St->Hp->Prop,(∃m,k 0 m a j)/\∀i m a H,k i m a H->
 (h.stop i H/\g.nx a H)\/(h.go i H/\∃N:St->Hp->Prop,(∀c b,N c b->∃d,d < m/\k (i+1) d c b)/\∀x b,h.yld i H x b->n x a b λ e l=>tb { g with nx:=N,ct:=N,bk:=g.nx } e l)
def pinsAt (a:List Addr)(c:Heap):List (Addr×Obj):=a.filterMap λ b=>(c.get? b).map λ o=>(b,o)
theorem Pk {a:List Addr}{d:Heap}{b:Addr}{o:Obj}(c:b∈a)(e:d.get? b=some o):(b,o)∈pinsAt a d:=List.mem_filterMap.mpr ⟨b,c,by rw [e];rfl⟩
theorem rZ {a:List Addr}{c:Heap}{p:Addr×Obj}(d:p∈pinsAt a c):p.1∈a/\c.get? p.1=some p.2:=by
 obtain ⟨b,f,e⟩:=List.mem_filterMap.mp d;cases q:c.get? b with
 | none=>rw [q] at e;cases e
 | some o=>
  rw [q] at e;have g:(b,o)=p:=XY e;subst g;exact ⟨f,q⟩
theorem Inv.pinned {a:List (Addr×Obj)}{f:St}{H:Hp}{s:X2}{c:List Addr}(q:Inv X a f H s)(hf:∀b∈c,FpOk X a H b)(i:∀b∈c,∃o,s.heap.get? b=some o/\∀v,o.data≠.cell v):Inv X (a++pinsAt c s.heap) f H s:=
 q.pins_of λ p j=>(XO.mp j).elim (λ k=>q.pin p (YP _ k)) λ k=>by
  obtain ⟨g,e⟩:=rZ k;obtain ⟨l,m,n,_⟩:=hf p.1 g;obtain ⟨o,h,d⟩:=i p.1 g;rw [e] at h;cases h;exact ⟨e,l,m,n,d⟩
theorem Inv.unpinned {a pl:List (Addr×Obj)}{b:St}{H:Hp}{s:X2}(d:Inv X (a++pl) b H s):Inv X a b H s:=d.pins_of λ p c=>d.pin p (YP _ (yY _ c))
theorem Dm {iter:Expr}{y:List Stmt}{K:TI}{c8:TG}{tb:TS}{pos:Pos}(z:WV (model X.prog X.w) X.A X.env X.xe)(L:X.calm=true)(a0:PI X tg iter K)(a1:PG X tg c8)(g:PSs X y tb)
  (a2:∀x,ze iter X.env x=pure x:=by intro _;rfl):PS X (.For tg iter y [] pos) (tFor K c8 tb):=by
 intro c s M H d5 d1 d2;refine wpAny_For (thn (a0 c s M H _ d1 d2) λ v d3 a3=>thn a3 λ c9 d4 a4=>?_) a2
 obtain ⟨it,B,O,d6,a5,e,a6,T,P,Q,d0,⟨a7,a8⟩,turn⟩:=a4;subst e;have t:∀{k:Hp},(∀b∈B,k b=none)->∀b∈B,FpOk X c k b:=λ a9 b g=>⟨a9 b g,(Q b g).2⟩
 refine codeAny_forLoop_any (λ n s'=>∃i l k,Inv X c l k s'/\O i s'.heap/\(∀b∈B,k b=none)/\d0 i n l k) ?_ a7 ⟨0,M,a5,a6,P,λ b g=>(Q b g).1,a8⟩
 rintro n R ⟨i,p,E,S,F,G,b0⟩
 rcases turn i n p E b0 with ⟨stop,b1⟩ | ⟨go,N,b2,step⟩
 ·refine QY z (thn (T.done X rfl rfl rfl L i c R p E X.xe S (t G) F stop) λ r b3 ⟨I,b4⟩=>?_)
  subst I;exact jR ⟨p,E,b4,b1⟩
 ·refine QY z (thn (T.item X rfl rfl rfl L i c R p E X.xe S (t G) F go) λ r b3 ⟨u,I,b5⟩=>?_)
  subst I;refine QY z (thn b5 λ _ U ⟨x,V,b6,b7,b8,C,W⟩=>?_)
  have Y:=b6.pinned (t W) (T.obj _ _ C);refine QY z (thn (a1 _ U p V x u _ Y b7 (step x V b8)) λ _ b9 ⟨Z,c0,c1,c2⟩=>?_)
  refine QY z (thn (g _ b9 Z c0 _ c1 c2) λ f J q=>?_)
  have again:∀{a:St} {h:Hp},Inv X (c++pinsAt B U.heap) a h J->N a h->∃m,m < n/\∃i l k,Inv X c l k J/\O i J.heap/\(∀b∈B,k b=none)/\d0 i m l k:=λ {a h} j D=>by
   obtain ⟨c3,c4,c5⟩:=b2 a h D;refine ⟨c3,c4,i+1,a,h,j.unpinned,T.keep _ _ _ C λ b g o e=>(j.pin (b,o) (YP _ (YP _ (Pk g e)))).1,λ b g=>?_,c5⟩
   obtain ⟨o,e,d⟩:=T.obj _ _ C b g;exact (j.pin (b,o) (YP _ (YP _ (Pk g e)))).2.1
  cases f with
  | next=>obtain ⟨a,h,j,D⟩:=q;exact again j D
  | cont=>obtain ⟨a,h,j,D⟩:=q;exact again j D
  | brk=>obtain ⟨a,h,j,q⟩:=q;exact ⟨a,h,j.unpinned,q⟩
  | ret v=>obtain ⟨c6,a,h,j,c7,q⟩:=q;exact ⟨c6,a,h,j.unpinned,c7,q⟩
end
theorem Gr {K:FrG}{a:Addr}{xs:List V}{u:TG}{tb:TS}{k:Ends}{b:St}{H:Hp}(c:Nat->St->Hp->Prop)(n:c 0 b H)(hl:∀i b H,i<=xs.length->c i b H->SqL K H a xs)
  (o:∀i x b H,xs[i]?=some x->c i b H->u x b H λ f j=>tb { k with nx:=c (i+1),ct:=c (i+1),bk:=k.nx } f j) (hd:∀b H,c xs.length b H->k.nx b H):
  ∃r:Nat->Nat->St->Hp->Prop,(∃m,r 0 m b H)/\∀i m b H,r i m b H->
   ((Itl K a).stop i H/\k.nx b H)\/((Itl K a).go i H/\∃N:St->Hp->Prop,(∀g d,N g d->∃l,l < m/\r (i+1) l g d)/\∀x d,(Itl K a).yld i H x d->u x b d λ f j=>tb { k with nx:=N,ct:=N,bk:=k.nx } f j):=by
 refine ⟨λ i m b H=>m=xs.length - i/\i<=xs.length/\c i b H,⟨xs.length,by simp,Ul _,n⟩,?_⟩
 rintro i m b H ⟨rfl,s,p⟩
 have q:=hl i b H s p;by_cases h:i < xs.length
 ·refine .inr ⟨⟨xs,xs[i],q,by simp [h]⟩,c (i+1),λ g d t=>⟨xs.length - (i+1),by omega,rfl,h,t⟩,λ x d y=>?_⟩
  obtain ⟨e,y⟩:=y;subst e;exact o i x b _ (y xs q) p
 ·have e:i=xs.length:=by omega
  subst e;exact .inl ⟨⟨xs,q,Zj _⟩,hd b H p⟩
theorem IK {lo:Int}{n:Nat}{s:TG}{tb:TS}{j:Ends}{a:St}{H:Hp}(b:Nat->St->Hp->Prop)(l:b 0 a H)
  (o:∀i a H,i < n->b i a H->s (.int (lo+i)) a H λ d h=>tb { j with nx:=b (i+1),ct:=b (i+1),bk:=j.nx } d h) (hd:∀a H,b n a H->j.nx a H):
  ∃q:Nat->Nat->St->Hp->Prop,(∃m,q 0 m a H)/\∀i m a H,q i m a H->
   ((Itr lo n).stop i H/\j.nx a H)\/((Itr lo n).go i H/\∃N:St->Hp->Prop,(∀f c,N f c->∃k,k < m/\q (i+1) k f c)/\∀x c,(Itr lo n).yld i H x c->s x a c λ d h=>tb { j with nx:=N,ct:=N,bk:=j.nx } d h):=by
 refine ⟨λ i m a H=>m=n - i/\i<=n/\b i a H,⟨n,by simp,Ul _,l⟩,?_⟩
 rintro i m a H ⟨rfl,t,p⟩
 by_cases g:i < n
 ·refine .inr ⟨g,b (i+1),λ f c r=>⟨n - (i+1),by omega,rfl,g,r⟩,λ x c y=>?_⟩
  obtain ⟨e,y⟩:=y;subst e y;exact o i a _ g p
 ·have e:i=n:=by omega
  subst e;exact .inl ⟨Zj _,hd a H p⟩
abbrev R2:=V->V->Hp->VK->Prop
def OpR (X:Cx)(f:Value->Value->Sem Value)(r:R2):Prop:=
 ∀(a:List (Addr×Obj)) (s:X2) (b:St) (H:Hp) (x y:V) (v u:Value) (Q:VK),Inv X a b H s->RelV x v->RelV y u->r x y H Q->
  wpAny (model X.prog X.w) X.A (f v u) (EP X a b Q) X.xe s
def UnR (X:Cx)(f:Value->Sem Value)(r:V->Hp->VK->Prop):Prop:=
 ∀(a:List (Addr×Obj)) (s:X2) (b:St) (H:Hp) (x:V) (v:Value) (Q:VK),Inv X a b H s->RelV x v->r x H Q->
  wpAny (model X.prog X.w) X.A (f v) (EP X a b Q) X.xe s
def CallR (X:Cx)(f:Value)(r:List V->Hp->VK->Prop):Prop:=
 ∀(a:List (Addr×Obj)) (s:X2) (b:St) (H:Hp) (xs:List V) (us:List Value) (Q:VK),Inv X a b H s->Vals xs us->r xs H Q->
  wpAny (model X.prog X.w) X.A (call f us) (EP X a b Q) X.xe s
def tOp (r:R2)(b tb:TE):TE:=λ a H Q=>b a H λ x c=>tb a c λ y d=>r x y d Q
def tUn (r:V->Hp->VK->Prop)(a:TE):TE:=λ b H Q=>a b H λ x c=>r x c Q
def rI (C:Int->Int->Prop)(a:Int->Int->V):R2:=λ x y H Q=>∃i j,x=.int i/\y=.int j/\C i j/\Q (a i j) H
def rI0 (a:Int->Int->V):R2:=λ x y H Q=>∃i j,x=.int i/\y=.int j/\Q (a i j) H
def rU (a:Int->V):V->Hp->VK->Prop:=λ x H Q=>∃i,x=.int i/\Q (a i) H
section
variable {X:Cx}{a b c:Expr}{ta tb tc:TE}{pos:Pos}
theorem binT (l:PE X a ta)(m:PE X b tb){d:List (Addr×Obj)}{s:X2}{e:St}{H:Hp}{B:V->V->Hp->Prop}(C:Inv X d e H s)
  (D:ta e H λ x i=>tb e i λ y g=>B x y g) {Q:Value->X2->Prop} {f:Value->Value->Sem Value}
  (hf:∀v u h x y g,Inv X d e g h->RelV x v->RelV y u->B x y g->wpAny (model X.prog X.w) X.A (f v u) Q X.xe h):
  wpAny (model X.prog X.w) X.A (eval a X.env) (λ v j=>wpAny (model X.prog X.w) X.A (eval b X.env) (λ u k=>wpAny (model X.prog X.w) X.A (f v u) Q X.xe k) X.xe j) X.xe s:=by
 refine thn (l d s e H _ C D) λ v n ⟨x,i,o,p,q⟩=>?_
 refine thn (m d n e i _ o q) λ u h ⟨y,g,r,t,z⟩=>?_
 exact hf v u h x y g r p t z
theorem Ak {e:NH}{r:R2}(f:OpR X (zh e) r)(g:PE X a ta)(h:PE X b tb):PE X (.BinOp a e b pos) (tOp r ta tb):=by
 intro d s i H Q n o;exact wpAny_BinOp (binT g h n o λ v u j x y k l m ry q=>f d j i k x y v u Q l m ry q)
theorem aj {e:UnaryOp}{r:V->Hp->VK->Prop}(g:UnR X (unaryOp e) r)(h:PE X a ta):PE X (.UnaryOp e a pos) (tUn r ta):=by
 intro d s f H Q n o;exact UnaryOp_ (thn (h d s f H _ n o) λ v i ⟨x,j,k,l,m⟩=>g d i f j x v Q k l m)
theorem opI {f:Value->Value->Sem Value}{C:Int->Int->Prop}{d:Int->Int->Int}
  (rule:∀(i j:Int) (t u:Tok) (s:X2) (Q:Value->X2->Prop) (E:Value->X2->Prop),C i j->Q (.int (d i j) s.toks) { s with toks:=s.toks+1 }->wpAny (model X.prog X.w) X.A (f (.int i t) (.int j u)) Q E s):
  OpR X f (rI C λ i j=>.int (d i j)):=by
 intro e s k H x y v u Q l g ry m;obtain ⟨i,j,rfl,rfl,h,q⟩:=m;obtain ⟨t,rfl⟩:=g;obtain ⟨t',rfl⟩:=ry;exact rule i j t t' s _ _ h ⟨.int (d i j),H,l.tok _,⟨_,rfl⟩,q⟩
theorem opI0 {f:Value->Value->Sem Value}{d:Int->Int->Int}
  (rule:∀(i j:Int) (t u:Tok) (s:X2) (Q:Value->X2->Prop) (E:Value->X2->Prop),Q (.int (d i j) s.toks) { s with toks:=s.toks+1 }->wpAny (model X.prog X.w) X.A (f (.int i t) (.int j u)) Q E s):
  OpR X f (rI0 λ i j=>.int (d i j)):=by
 intro e s h H x y v u Q k g ry l;obtain ⟨i,j,rfl,rfl,q⟩:=l;obtain ⟨t,rfl⟩:=g;obtain ⟨t',rfl⟩:=ry;exact rule i j t t' s _ _ ⟨.int (d i j),H,k.tok _,⟨_,rfl⟩,q⟩
theorem opB0 {f:Value->Value->Sem Value}{d:Int->Int->Bool}
  (rule:∀(i j:Int) (t u:Tok) (s:X2) (Q:Value->X2->Prop) (E:Value->X2->Prop),Q (.bool (d i j)) s->wpAny (model X.prog X.w) X.A (f (.int i t) (.int j u)) Q E s):
  OpR X f (rI0 λ i j=>.bl (d i j)):=by
 intro e s h H x y v u Q k g ry l;obtain ⟨i,j,rfl,rfl,q⟩:=l;obtain ⟨t,rfl⟩:=g;obtain ⟨t',rfl⟩:=ry;exact rule i j t t' s _ _ ⟨.bl (d i j),H,k,rfl,q⟩
def CDiv (i j:Int):Prop:=0 < j/\j < 1073741824
def CPow (i j:Int):Prop:=0<=j/\j<=1000000/\i.natAbs < 2 ^ 64
def CMul (i j:Int):Prop:=(-(2 ^ 64) < i/\i < 2 ^ 64)\/(-(2 ^ 64) < j/\j < 2 ^ 64)
theorem CMul.ok {i j:Int}(f:CMul i j):IntMulOk i j:=by
 rcases f with ⟨d,e⟩ | ⟨d,e⟩
 ·exact .of_left (intBits_le_64 d e)
 ·exact .of_right (intBits_le_64 d e)
theorem CJ:OpR X (zh .Add) (rI0 λ i j=>.int (i+j)):=opI0 λ _ _ _ _ _ _ _ q=>add_int q
theorem Ex:OpR X (zh .Sub) (rI0 λ i j=>.int (i - j)):=opI0 λ _ _ _ _ _ _ _ q=>sub_int q
theorem Ea:OpR X (zh .Mult) (rI CMul λ i j=>.int (i * j)):=opI λ _ _ _ _ _ _ _ d q=>mul_int q d.ok
theorem Gm:OpR X (zh .FloorDiv) (rI CDiv λ i j=>.int (i / j)):=opI λ i j _ _ _ _ _ d q=>by
 have e:(0:Int) < j:=d.1;have f:j < 1073741824:=d.2;exact floordiv_int (by omega) (by rw [Int.fdiv_eq_ediv_of_nonneg i (by omega)];exact q) (.inl (PyProof.noPylong_small (by omega)))
theorem DR:OpR X (zh .Mod) (rI (λ _ j=>0 < j) λ i j=>.int (i % j)):=opI λ i j _ _ _ _ _ d q=>by
 have e:(0:Int) < j:=d;exact mod_int' (by omega) (by rw [Int.fmod_eq_emod_of_nonneg i (by omega)];exact q)
theorem N6:OpR X (zh .Pow) (rI CPow λ i j=>.int (i ^ j.toNat)):=opI λ _ _ _ _ _ _ _ d q=>pow_int_small d.1 d.2.1 d.2.2 q
theorem unI {f:Value->Sem Value}{d:Int->Int}
  (rule:∀(i:Int) (t:Tok) (s:X2) (Q:Value->X2->Prop) (E:Value->X2->Prop),Q (.int (d i) s.toks) { s with toks:=s.toks+1 }->wpAny (model X.prog X.w) X.A (f (.int i t)) Q E s):
  UnR X f (rU λ i=>.int (d i)):=by
 intro e s h H x v Q j g k;obtain ⟨i,rfl,q⟩:=k;obtain ⟨t,rfl⟩:=g;exact rule i t s _ _ ⟨.int (d i),H,j.tok _,⟨_,rfl⟩,q⟩
theorem gq:UnR X (unaryOp .USub) (rU λ i=>.int (-i)):=unI λ _ _ _ _ _ q=>neg_int q
end
def scal:V->V->Bool
 | .non,.non=>true | .non,.int _=>true | .int _,.non=>true | .non,.bl _=>true | .bl _,.non=>true | .non,.str _=>true | .str _,.non=>true
 | .int _,.int _=>true | .bl _,.bl _=>true | .str _,.str _=>true | .byt _,.byt _=>true
 | .int _,.str _=>true | .str _,.int _=>true | .bl _,.str _=>true | .str _,.bl _=>true
 | _,_=>false
def rEq:R2:=λ x y H Q=>scal x y=true/\Q (.bl (decide (x=y))) H
def rNe:R2:=λ x y H Q=>scal x y=true/\Q (.bl (!decide (x=y))) H
theorem Xy {i j:Int}:decide (V.int i=V.int j)=(i == j):=by
 rw [xL];simp
theorem ZV {i j:Bool}:decide (V.bl i=V.bl j)=(i == j):=by
 rw [xL];simp
theorem aB {i j:Str}:decide (V.str i=V.str j)=(i == j):=by
 rw [xL];simp
theorem Yt {i j:Array UInt8}:decide (V.byt i=V.byt j)=(i.toList == j.toList):=by
 rw [xL];cases i
 cases j
 simp
section
variable {X:Cx}{a b c:Expr}{ta tb tc:TE}{pos:Pos}
theorem Bw {d:List (Addr×Obj)}{f:St}{H:Hp}{s:X2}{Q:VK}{k g:Bool}(h:Inv X d f H s)(q:Q (.bl k) H)(e:k=g):EP X d f Q (.bool g) s:=by
 subst e;exact ⟨.bl k,H,h,rfl,q⟩
theorem Bp:OpR X (UN .Eq) rEq:=by
 intro g s h H x y v u Q d f ry k;obtain ⟨e,q⟩:=k;cases x with
 | non=>
  cases f
  cases y with
  | non=>cases ry;exact PySem.EqNone.eq_none_none (Bw d q (by simp))
  | bl j=>cases ry;exact PySem.EqNone.eq_none_bool (Bw d q (by simp))
  | int j=>obtain ⟨t',rfl⟩:=ry;exact PySem.EqNone.eq_none_int (Bw d q (by simp))
  | str j=>obtain ⟨t',rfl⟩:=ry;exact PySem.EqNone.eq_none_str (Bw d q (by simp))
  | _=>exact absurd (show false=true from e) Zo
 | bl i=>
  cases f
  cases y with
  | non=>cases ry;exact PySem.EqNone.eq_bool_none (Bw d q (by simp))
  | bl j=>cases ry;exact eq_bool (Bw d q ZV)
  | str j=>obtain ⟨t',rfl⟩:=ry;exact PySem.EqMixed.eq_bool_str (Bw d q (by simp))
  | _=>exact absurd (show false=true from e) Zo
 | int i=>
  obtain ⟨t,rfl⟩:=f;cases y with
  | non=>cases ry;exact PySem.EqNone.eq_int_none (Bw d q (by simp))
  | int j=>obtain ⟨t',rfl⟩:=ry;exact eq_int (Bw d q Xy)
  | str j=>obtain ⟨t',rfl⟩:=ry;exact PySem.EqMixed.eq_int_str (Bw d q (by simp))
  | _=>exact absurd (show false=true from e) Zo
 | str i=>
  obtain ⟨t,rfl⟩:=f;cases y with
  | non=>cases ry;exact PySem.EqNone.eq_str_none (Bw d q (by simp))
  | bl j=>cases ry;exact PySem.EqMixed.eq_str_bool (Bw d q (by simp))
  | int j=>obtain ⟨t',rfl⟩:=ry;exact PySem.EqMixed.eq_str_int (Bw d q (by simp))
  | str j=>obtain ⟨t',rfl⟩:=ry;exact eq_str (Bw d q aB)
  | _=>exact absurd (show false=true from e) Zo
 | byt i=>
  obtain ⟨t,rfl⟩:=f;cases y with
  | byt j=>obtain ⟨t',rfl⟩:=ry;exact PySem.W.eq_bytes (Bw d q Yt)
  | _=>exact absurd (show false=true from e) Zo
 | _=>cases y<;>exact absurd (show false=true from e) Zo
theorem Dk:OpR X (UN .NotEq) rNe:=by
 intro g s h H x y v u Q d f ry k;obtain ⟨e,q⟩:=k;cases x with
 | non=>
  cases f
  cases y with
  | non=>cases ry;exact PySem.EqNone.ne_none_none (Bw d q (by simp))
  | bl j=>cases ry;exact PySem.EqNone.ne_none_bool (Bw d q (by simp))
  | int j=>obtain ⟨t',rfl⟩:=ry;exact PySem.EqNone.ne_none_int (Bw d q (by simp))
  | str j=>obtain ⟨t',rfl⟩:=ry;exact PySem.EqNone.ne_none_str (Bw d q (by simp))
  | _=>exact absurd (show false=true from e) Zo
 | bl i=>
  cases f
  cases y with
  | non=>cases ry;exact PySem.EqNone.ne_bool_none (Bw d q (by simp))
  | bl j=>cases ry;exact ne_bool (Bw d q (congrArg not ZV))
  | str j=>obtain ⟨t',rfl⟩:=ry;exact PySem.EqMixed.ne_bool_str (Bw d q (by simp))
  | _=>exact absurd (show false=true from e) Zo
 | int i=>
  obtain ⟨t,rfl⟩:=f;cases y with
  | non=>cases ry;exact PySem.EqNone.ne_int_none (Bw d q (by simp))
  | int j=>obtain ⟨t',rfl⟩:=ry;exact ne_int (Bw d q (congrArg not Xy))
  | str j=>obtain ⟨t',rfl⟩:=ry;exact PySem.EqMixed.ne_int_str (Bw d q (by simp))
  | _=>exact absurd (show false=true from e) Zo
 | str i=>
  obtain ⟨t,rfl⟩:=f;cases y with
  | non=>cases ry;exact PySem.EqNone.ne_str_none (Bw d q (by simp))
  | bl j=>cases ry;exact PySem.EqMixed.ne_str_bool (Bw d q (by simp))
  | int j=>obtain ⟨t',rfl⟩:=ry;exact PySem.EqMixed.ne_str_int (Bw d q (by simp))
  | str j=>obtain ⟨t',rfl⟩:=ry;exact ne_str (Bw d q (congrArg not aB))
  | _=>exact absurd (show false=true from e) Zo
 | byt i=>
  obtain ⟨t,rfl⟩:=f;cases y with
  | byt j=>obtain ⟨t',rfl⟩:=ry;exact PySem.W.ne_bytes (Bw d q (congrArg not Yt))
  | _=>exact absurd (show false=true from e) Zo
 | _=>cases y<;>exact absurd (show false=true from e) Zo
theorem Fi:OpR X (UN .Lt) (rI0 λ i j=>.bl (decide (i < j))):=opB0 λ _ _ _ _ _ _ _ q=>lt_int q
theorem O1:OpR X (UN .LtE) (rI0 λ i j=>.bl (decide (i<=j))):=opB0 λ _ _ _ _ _ _ _ q=>le_int q
theorem HY:OpR X (UN .Gt) (rI0 λ i j=>.bl (decide (j < i))):=opB0 λ _ _ _ _ _ _ _ q=>gt_int q
theorem dX:OpR X (UN .GtE) (rI0 λ i j=>.bl (decide (j<=i))):=opB0 λ _ _ _ _ _ _ _ q=>ge_int q
theorem Ig:OpR X (UN .Is) (λ x y H Q=>y=.non/\Q (.bl (decide (x=.non))) H):=by
 intro e s f H x y v u Q g d ry h;obtain ⟨rfl,q⟩:=h;cases ry
 refine is_none_gen (Bw g q ?_);cases x<;>first
  | (cases d;rfl)
  | (obtain ⟨t,rfl⟩:=d;rfl)
theorem Lw:OpR X (UN .IsNot) (λ x y H Q=>y=.non/\Q (.bl (!decide (x=.non))) H):=by
 intro e s f H x y v u Q g d ry h;obtain ⟨rfl,q⟩:=h;cases ry
 refine isnot_none_gen (Bw g q ?_);cases x<;>first
  | (cases d;rfl)
  | (obtain ⟨t,rfl⟩:=d;rfl)
theorem nomark (b:Expr){d:CmpOp}(f:d≠.In:=by decide)(e:d≠.NotIn:=by decide):xI d b=false:=by
 have e1:(d == CmpOp.In)=false:=by cases d<;>first | rfl | exact absurd rfl f
 have e2:(d == CmpOp.NotIn)=false:=by cases d<;>first | rfl | exact absurd rfl e
 cases b<;>simp [xI,e1,e2]
theorem Dq {d:CmpOp}{r:R2}(f:OpR X (UN d) r)(g:PE X a ta)(h:PE X b tb)(i:xI d b=false:=by first | exact nomark _ | rfl):PE X (.Compare a [d] [b] pos) (tOp r ta tb):=by
 intro e s j H Q o p;exact wpAny_Compare1 (binT g h o p λ v u k x y l m n ry q=>f e k j l x y v u Q m n ry q) i
def tTest (t:TE):TT:=λ d H Q=>t d H λ x e=>∃k,x=.bl k/\Q k e
theorem Az {f:CmpOp}{r:R2}(h:OpR X (UN f) r)(i:PE X a ta)(j:PE X b tb)(l:xI f b=false:=by first | exact nomark _ | rfl):PT X (.Compare a [f] [b] pos) (tTest (tOp r ta tb)):=by
 intro d s g H Q G I;refine wpAny_isTrue_Compare1 (thn (i d s g H _ G I) λ v m ⟨x,n,o,p,q⟩=>thn (j d m g n _ o q) λ u t ⟨y,w,z,A,B⟩=>
  thn (h d t g w x y v u _ z p A B) λ c J ⟨K,C,D,E,k,e,F⟩=>?_) l
 subst e;cases E
 exact UQ ⟨C,D,F⟩
def tChain (r f:R2)(ta tb tc:TE):TE:=λ d H Q=>ta d H λ x g=>tb d g λ y h=>r x y h λ l e=>∃k,l=.bl k/\
 (if k=true then tc d e λ i j=>f y i j Q else Q (.bl false) e)
theorem bK {i g:CmpOp}{r j:R2}(q:OpR X (UN i) r)(l:OpR X (UN g) j)(t:PE X a ta)(w:PE X b tb)(z:PE X c tc)
  (A:lastMarks [i,g] [b,c]=false:=by with_unfolding_all rfl):PT X (.Compare a [i,g] [b,c] pos) (tTest (tChain r j ta tb tc)):=by
 intro f s h H Q a2 a3;refine isTrue_chain (thn (t f s h H _ a2 a3) λ v B ⟨x,C,D,E,F⟩=>test_link (thn (w f B h C _ D F) λ u G ⟨y,I,J,m,K⟩=>
  thn (q f G h I x y v u _ J E m K) λ d L ⟨a8,n,o,M,k,e,p⟩=>?_)) A
 subst e;cases M
 refine UQ ?_;cases k with
 | false=>
  obtain ⟨a4,N,O⟩:=p;cases N
  exact ite_ff ⟨n,o,O⟩
 | true=>
  refine ite_tt (test_last (thn (z f L h n _ o p) λ P R ⟨S,T,U,V,W⟩=>thn (l f R h T y S u P _ U m V W) λ d' a5 ⟨a6,Y,Z,a0,a7,e2,a1⟩=>?_))
  subst e2;cases a0
  exact UQ ⟨Y,Z,a1⟩
theorem line63:(Y7:Nat) < 2 ^ 63:=by rw [sizeLine_eq];decide
theorem AK6 {s:X2}{x y:Str}{t u:NZ}{Q:Value->X2->Prop}(d:1<=s.toks)(g:x.length+y.length<=Y7)(h:∀(t':NZ) (tk:Nat),1<=tk->Q (.str (x++y) t'.1) { s with toks:=tk }):
  (if x.length == 0 then Made.val (.str y u.1) else if y.length == 0 then Made.val (.str x t.1) else Made.str (x++y)).post Q s:=by
 cases i:x.length == 0
 ·cases j:y.length == 0
  ·exact ⟨by rw [strLen_append];exact g,h ⟨s.toks,WS d⟩ _ (YI _ _)⟩
  ·have f:y.cps=#[]:=zF (by simpa [Str.length] using j)
   have e:x++y=x:=by show Mh x y=x;cases x;simp [Mh,f]
   have q:=h t s.toks d;rw [e] at q;exact q
 ·have f:x.cps=#[]:=zF (by simpa [Str.length] using i)
  have e:x++y=y:=by show Mh x y=y;cases y;simp [Mh,f]
  have q:=h u s.toks d;rw [e] at q;exact q
theorem qz {prog:ZY}{w:World}{A:XU}{E:Value->X2->Prop}{s:X2}{x y:Str}{t u:NZ}{Q:Value->X2->Prop}(d:1<=s.toks)(e:x.length+y.length<=Y7)(f:∀(t':NZ) (tk:Nat),1<=tk->Q (.str (x++y) t'.1) { s with toks:=tk }):
  wpAny (model prog w) A (zh .Add (.str x t.1) (.str y u.1)) Q E s:=PySem.P.add_str (AK6 d e f)
theorem CN:OpR X (zh .Add) (λ x y H Q=>∃i j,x=.str i/\y=.str j/\i.length+j.length<=Y7/\Q (.str (i++j)) H):=by
 intro d s k H x y v u Q g e ry l;obtain ⟨i,j,rfl,rfl,f,q⟩:=l;obtain ⟨t,rfl⟩:=e;obtain ⟨t',rfl⟩:=ry;exact qz g.tk f λ t' tk h=>⟨.str (i++j),H,g.tok _,⟨_,rfl⟩,q⟩
def PlainIxT (b:Expr):Prop:=∀o i,GH b false o i=operate [o,i] (GI o i)
theorem gA (g:PE X a ta)(h:PE X b tb)(j:PlainIxT b):
  PE X (.Subscript a b pos) (tOp (λ x y H Q=>∃d i c,x=.str d/\y=.int i/\0<=i/\i < 2 ^ 63/\i < d.length/\d.cps[i.toNat]?=some c/\Q (.str ⟨#[c]⟩) H) ta tb):=by
 intro k s z H Q A B;refine FK (binT g h A B λ v u l x y m f n ry q=>?_)
 obtain ⟨d,i,c,rfl,rfl,o,w,p,r,q⟩:=q;obtain ⟨t,rfl⟩:=n;obtain ⟨t',rfl⟩:=ry;have e:seqIndex? i d.length=some i.toNat:=PySem.StrLaws.seqIndex_nonneg o p;exact tail_any (yv l d t) slot_str_getitem.lookup (getItem_str (c:=c) (by
  have e1:decide (i < -(2 ^ 63:Int))=false:=decide_eq_false (by omega)
  have e2:decide (i≥2 ^ 63)=false:=decide_eq_false (by omega)
  rw [e1,e2]<;>rfl) (by rw [e];exact r) ⟨.str ⟨#[c]⟩,m,f.tok _,⟨⟨_,WS f.tk⟩,rfl⟩,q⟩) (j _ _)
theorem vals1 {x:V}{us:List Value}(r:Vals [x] us):∃u,us=[u]/\RelV x u:=by
 cases r with
 | cons d e=>cases e;exact ⟨_,rfl,d⟩
theorem vals2 {x y:V}{us:List Value}(r:Vals [x,y] us):∃u d,us=[u,d]/\RelV x u/\RelV y d:=by
 cases r with
 | cons e f=>
  cases f with
  | cons g h=>cases h;exact ⟨_,_,rfl,e,g⟩
theorem Iw:CallR X (.builtin "abs") (λ xs H Q=>∃i,xs=[.int i]/\Q (.int (if i < 0 then -i else i)) H):=by
 intro d s g H xs us Q e r h;obtain ⟨i,rfl,q⟩:=h;obtain ⟨u,rfl,t,rfl⟩:=vals1 r;exact Qa e.tk (call_abs_int λ u tk f=>⟨.int (if i < 0 then -i else i),H,e.tok _,⟨_,rfl⟩,q⟩)
theorem kI (e:X.calm=true):CallR X (.builtin "max") (λ xs H Q=>∃i j,xs=[.int i,.int j]/\Q (.int (if j > i then j else i)) H):=by
 intro f s l H xs us Q g r m;obtain ⟨i,j,rfl,q⟩:=m;obtain ⟨u,n,rfl,⟨t,rfl⟩,⟨t',rfl⟩⟩:=vals2 r;refine Qa g.tk (max_two_ints (g.ok.hd e) λ h' tk k h=>⟨_,H,g.kept k,?_,q⟩)
 by_cases d:j > i
 ·rw [if_pos d,if_pos d];exact ⟨_,rfl⟩
 ·rw [if_neg d,if_neg d];exact ⟨_,rfl⟩
theorem iD:CallR X (.type "int") (λ xs H Q=>(∃i,xs=[.int i]/\Q (.int i) H)\/∃k,xs=[.bl k]/\Q (.int (if k then 1 else 0)) H):=by
 intro d s g H xs us Q f r h;rcases h with ⟨i,rfl,q⟩ | ⟨k,rfl,q⟩
 ·obtain ⟨u,rfl,t,rfl⟩:=vals1 r;exact call_int_int ⟨.int i,H,f,⟨_,rfl⟩,q⟩
 ·obtain ⟨u,rfl,e⟩:=vals1 r;cases e
  exact call_int_bool ⟨.int (if k then 1 else 0),H,f.tok _,⟨_,rfl⟩,q⟩
theorem XH:CallR X (.type "str") (λ xs H Q=>∃i,xs=[.int i]/\i.natAbs.log2 < 1920/\Q (.str (toString i)) H):=by
 intro d s g H xs us Q f r h;obtain ⟨i,rfl,e,q⟩:=h;obtain ⟨u,rfl,t,rfl⟩:=vals1 r;exact PySem.P.str_of_int e ⟨.str _,H,f.tok _,⟨⟨_,WS f.tk⟩,rfl⟩,q⟩
end
structure ObjM (h:Heap)(x dx C:Addr)(mA:Str->Option Value):Prop where
 obj:h.get? x=some (JL C dx)
 ns:h.Ns1 dx mA
 ne:dx≠x
theorem sX {l:Heap}{c:Addr}{d:Str->Option Value}(n:l.Ns1 c d):∃f,l.get? c=some f/\∀name,qo name f=some (d name):=by
 obtain ⟨o,es,m,g,hd,h,_,i⟩:=n;refine ⟨o,g,λ name=>?_⟩
 have e:=i name;unfold nsFind findBy at e;rw [<- Array.find?_toList] at e;unfold qo;rw [hd];dsimp only
 split
 ·rename_i y q
  rw [q] at e;exact congrArg some e
 ·rename_i q
  rw [q] at e;have a:es.toList.any (·.refKey)=false:=by
   rw [List.any_eq_false];intro y j;obtain ⟨p,t,b⟩:=h y (Nn.mp j);simp [uk.refKey,b]
  have k:¬ es.toList.any (·.refKey)=true:=by rw [a];exact Zo
  rw [if_neg k];exact congrArg some e
theorem ObjM.look {e:Heap}{x b C:Addr}{c:Str->Option Value}(f:ObjM e x b C c):∃a,PySem.W.InstAt e x (JL C b) C (some a)/\∀name,qo name a=some (c name):=
 let ⟨a,d,hl⟩:=sX f.ns
 ⟨a,⟨f.obj,rfl,rfl,d⟩,hl⟩
section
variable {prog:ZY}{w:World}{A:XU}{E:Value->X2->Prop}{s:X2}{K:FrG}{x dx C f:Addr}{mA:Str->Option Value}{name:Str}{v:Value}
theorem vK {a:Bool}{Q:Value->X2->Prop}(X:K.In s.heap)(g:ObjM s.heap x dx C mA)(c:UM K C name=true)(d:UO K C=true)
  (e:Zu K (.ref C) name=some none) (hv:mA name=some v) (b:PySem.W.handedIn v=true) (h:Q v { s with toks:=s.toks+1 }):
  wpAny (model prog w) A (getAttr (.ref x) name a) Q E s:=by
 obtain ⟨i,j,hl⟩:=g.look;exact PySem.W.get_value X j (qa c).1 (PySem.W.findObj_own d e rfl (by rw [hl,hv])) b h
theorem wG {pl:Sem Bool}{Q:Value×List Value->X2->Prop}(X:K.In s.heap)(c:ObjM s.heap x dx C mA)(a:UM K C name=true)
  (hf:Zu K (.ref C) name=some (some (.ref f))) (ht:Wj K (.ref f)=true) (hv:mA name=none) (d:Q (.ref f,[.ref x]) s):
  wpAny (model prog w) A (getMethod (.ref x) name pl) Q E s:=by
 obtain ⟨b,e,hl⟩:=c.look;exact PySem.W.method_fn X e (qa a).1 (qa a).2 hf (beq_iff_eq.mp ht) (by show (qo name b).map (·.isSome)=some false;rw [hl,hv];rfl) d
theorem qQ {ns:List Str}{Q:Unit->X2->Prop}(X:K.In s.heap)(e:ObjM s.heap x dx C mA)
  (k:Zu K (.ref C) "__setattr__"=some (some (.builtin "object.__setattr__"))) (l:JE K C=true) (ht:FP K C name=some none) (m:UO K C=true)
  (n:Fn mA ns) (hsz:ns.length<=Y7)
  (z:∀h',ObjM h' x dx C (λ y=>if y=name then some v else mA y)->yb dx s.heap h'->Q () { s with heap:=h',toks:=s.toks+2 }):
  wpAny (model prog w) A (setAttr (.ref x) name v) Q E s:=by
 obtain ⟨B,q,hl⟩:=e.look;refine PySem.W.set_plain X q k (PySem.W.osa_open (s:={ s with toks:=s.toks+1 }) (r:=none) X q l ht λ b=>?_)
 obtain ⟨D,o,g⟩:=PySem.W.any_some m;have p:s.heap.get? x=some ⟨.ref C,some dx,.plain,#[]⟩:=e.obj;refine W1 (Yf (W1 (W1 (wpAny_loadPart p (W1 (PySem.W.Looks.here (s:={ s with toks:=s.toks+1 }) (PySem.W.looks_clsIn X o) ?_))))))
 rw [g];refine Yf (a:=some dx) (W1 (Yf (W1 ?_)));refine wpAny_nsSet1 (s:={ s with toks:=s.toks+1 }) e.ns λ h' c d=>?_
 obtain ⟨F,t,u,h,i,j⟩:=c.count (Fn.cons name v n);refine W1 (wpAny_lookBehind h (by rw [i];exact pastItsLine_dict (U1 j (by rw [X4];omega))) ?_)
 exact Yf (z _ ⟨(d.2 _ (QO e.ne)).trans e.obj,c,e.ne⟩ d)
theorem AH3 {e:Result->X2->Prop}{vs:List Value}{a:List (Str×Value)}(X:K.In s.heap)(b:QU K C=true)
  (c:Zu K (.ref C) "__init__"=some (some (.ref f))) (hf:PySem.W.typeIn K (.ref f)=some (.type "function"))
  (g:uu (model prog w) (A.under (.builtin "type.__call__" ⟨.ref C::vs,a⟩)) (.call (.ref f) ⟨.ref (s.heap.objs.size+1)::vs,a⟩) (PySem.W.InitBack (s.heap.objs.size+1) e)
   { s with heap:=(s.heap.push UC).push (JL C s.heap.objs.size) }):
  uu (model prog w) A (.call (.ref C) ⟨vs,a⟩) e s:=by
 obtain ⟨h,i,d,t,os⟩:=s;exact PySem.W.make_core (PySem.W.makes_of X b) (PySem.W.looks_findIn X c) (λ self=>PySem.W.bind_fn X self hf) (.inl rfl) g
end
def putF (f:Str)(v:V):List (Str×V)->List (Str×V)
 | []=>[(f,v)]
 | (a,x)::r=>if a=f then (a,v)::r else (a,x)::putF f v r
theorem aX (f b:Str)(v:V):∀fs:List (Str×V),(putF f v fs).lookup b=if b=f then some v else fs.lookup b
 | []=>by
  show wh b [(f,v)]=_;by_cases c:b=f
  ·have a:(b == f)=true:=beq_iff_eq.mpr c;simp only [wh,a,if_pos c]
  ·have a:(b == f)=false:=beq_eq_false_iff_ne.mpr c;simp only [wh,a,if_neg c]
 | (k,x)::r=>by
  have g:=aX f b v r;rw [show putF f v ((k,x)::r)=(if k=f then (k,v)::r else (k,x)::putF f v r) from rfl]
  by_cases d:k=f
  ·rw [if_pos d];by_cases c:b=k
   ·have a:(b == k)=true:=beq_iff_eq.mpr c;simp only [wh,a,if_pos (c.trans d)]
   ·have a:(b == k)=false:=beq_eq_false_iff_ne.mpr c;simp only [wh,a,if_neg (λ e:b=f=>c (e.trans d.symm))]
  ·rw [if_neg d];by_cases c:b=k
   ·have a:(b == k)=true:=beq_iff_eq.mpr c;simp only [wh,a,if_neg (λ e:b=f=>d (c.symm.trans e))]
   ·have a:(b == k)=false:=beq_eq_false_iff_ne.mpr c;simp only [wh,a];exact g
theorem Q9 (f:Str)(v:V):∀fs:List (Str×V),f∈(putF f v fs).map (·.1)/\∀b,b∈fs.map (·.1)->b∈(putF f v fs).map (·.1)
 | []=>⟨by simp [putF],λ b c=>by simp at c⟩
 | (k,x)::r=>by
  obtain ⟨d,g⟩:=Q9 f v r;rw [show putF f v ((k,x)::r)=(if k=f then (k,v)::r else (k,x)::putF f v r) from rfl]
  by_cases a:k=f
  ·rw [if_pos a];subst a;exact ⟨by simp,λ b c=>by simpa using c⟩
  ·rw [if_neg a];refine ⟨?_,λ b c=>?_⟩
   ·rw [YU];exact ZT _ d
   ·rw [YU] at c ⊢;rcases W4.mp c with e | e
    ·exact W4.mpr (.inl e)
    ·exact ZT _ (g b e)
theorem ZR (f:Str)(v:V):∀fs:List (Str×V),(putF f v fs).length<=fs.length+1
 | []=>by simp [putF]
 | (k,x)::r=>by
  have b:=ZR f v r;rw [show putF f v ((k,x)::r)=(if k=f then (k,v)::r else (k,x)::putF f v r) from rfl]
  by_cases a:k=f
  ·rw [if_pos a,X4,X4];omega
  ·rw [if_neg a,X4,X4];omega
theorem RelO.some_of {v:V}{o:Option Value}(r:RelO (some v) o):∃u,o=some u/\RelV v u:=by
 cases o with
 | none=>exact (show False from r).elim
 | some u=>exact ⟨u,rfl,r⟩
theorem RelO.none_of {o:Option Value}(r:RelO none o):o=none:=by
 cases o with
 | none=>rfl
 | some u=>exact (show False from r).elim
theorem pB {v:V}{u:Value}(r:RelV v u):PySem.W.handedIn u=true:=by
 cases v with
 | non=>cases (show u=uj from r);rfl
 | bl b=>cases (show u=Mg b from r);rfl
 | int i=>obtain ⟨t,e⟩:=(show ∃t,u=qk i t from r);cases e;rfl
 | str x=>obtain ⟨t,e⟩:=(show ∃t:NZ,u=GV x t.1 from r);cases e;rfl
 | byt b=>obtain ⟨t,e⟩:=(show ∃t,u=Value.bytes b t from r);cases e;rfl
 | flt b=>obtain ⟨t,e⟩:=(show ∃t,u=MQ b t from r);cases e;rfl
 | ref a=>cases (show u=WG a from r);rfl
 | ty n=>cases (show u=qn n from r);rfl
section
variable {P:ZY}{w:World}{H H':Hp}{h h':Heap}{a C dx:Addr}{fs fs':List (Str×V)}
theorem O5 (hok:HOk P w H h)(e:H a=some (.ins C dx fs)):∃b,ObjM h a dx C b/\(∀f,RelO (fs.lookup f) (b f))/\Fn b (fs.map (·.1))/\fs.length<=1000/\H dx=some (.own a):=by
 obtain ⟨d,g,ne,c,b,n,r,q⟩:=(show ObjOk P w H h a (.ins C dx fs) from hok a _ e)
 exact ⟨b,⟨c,n,ne⟩,r,q,g,d⟩
end
structure Cls (K:FrG)(C:Addr):Prop where
 pg:UM K C jA=true
 hd:UO K C=true
 po:JE K C=true
 sa:Zu K (.ref C) "__setattr__"=some (some (.builtin "object.__setattr__"))
theorem Cls.get {K:FrG}{C:Addr}(c:Cls K C)(f:Str):UM K C f=true:=c.pg
def NoAttr (K:FrG)(C:Addr)(f:Str):Prop:=Zu K (.ref C) f=some none
theorem NoAttr.taker {K:FrG}{C:Addr}{f:Str}(n:NoAttr K C f):FP K C f=some none:=by
 unfold FP;rw [show Zu K (.ref C) f=some none from n]
 rfl
structure Meth (K:FrG)(C:Addr)(m:Str)(f:Addr):Prop where
 at_:Zu K (.ref C) m=some (some (.ref f))
 fn:Wj K (.ref f)=true
 kp:YE K (.ref f)=true
section
variable {X:Cx}{pins:List (Addr×Obj)}{σ:St}{H:Hp}{s:X2}{a C dx:Addr}{fs:List (Str×V)}{f:Str}{v:V}{A:XU}{E:Value->X2->Prop}
theorem Xq {b:Bool}{Q:Value->X2->Prop}(g:Inv X pins σ H s)(e:H a=some (.ins C dx fs))(c:Cls X.K C)(n:NoAttr X.K C f)(l:fs.lookup f=some v)
  (j:∀u s',Inv X pins σ H s'->RelV v u->Q u s'):wpAny (model X.prog X.w) A (getAttr (.ref a) f b) Q E s:=by
 obtain ⟨h,k,r,_,_,_⟩:=O5 g.hok e;obtain ⟨u,i,d⟩:=RelO.some_of (v:=v) (o:=h f) (by rw [<- l];exact r f)
 exact vK g.kIn k (c.get f) c.hd n i (pB d) (j u _ (g.tok _) d)
theorem fZ {m:Str}{g:Addr}{pl:Sem Bool}{Q:Value×List Value->X2->Prop}(h:Inv X pins σ H s)(e:H a=some (.ins C dx fs))(c:Cls X.K C)(k:Meth X.K C m g)(l:fs.lookup m=none)
  (i:Q (.ref g,[.ref a]) s):wpAny (model X.prog X.w) A (getMethod (.ref a) m pl) Q E s:=by
 obtain ⟨b,j,r,_,_,_⟩:=O5 h.hok e;have d:b m=none:=RelO.none_of (by rw [<- l];exact r m)
 exact wG h.kIn j (c.get m) k.at_ k.fn d i
theorem Yk {y:V}{u:Value}{Q:Unit->X2->Prop}(k:Inv X pins σ H s)(e:H a=some (.ins C dx fs))(c:Cls X.K C)(n:NoAttr X.K C f)(hl:fs.length < 1000)(ry:RelV y u)
  (F:∀s',Inv X pins σ (upd H a (.ins C dx (putF f y fs))) s'->Q () s'):wpAny (model X.prog X.w) A (setAttr (.ref a) f u) Q E s:=by
 obtain ⟨h,l,r,i,_,j⟩:=O5 k.hok e;have m:(fs.map (·.1)).length<=Y7:=by rw [Y3,sizeLine_eq];omega
 refine qQ k.kIn l c.sa c.po n.taker c.hd i m λ h' g p=>F _ ?_
 have hd:∃o,h'.get? dx=some o:=let ⟨o,_,_,t,_⟩:=g.ns;⟨o,t⟩
 refine k.write (x:=a) (e:=dx) (by rw [e];exact zi) (.inr j) (λ b q z B=>(p.2 b z).trans B) hd ?_
 refine ⟨by rw [BK l.ne];exact j,?_,l.ne,g.obj,_,g.ns,λ d=>?_,λ d D=>?_⟩
 ·have:=ZR f y fs;omega
 ·show RelO ((putF f y fs).lookup d) (if d=f then some u else h d)
  rw [aX];by_cases q:d=f
  ·rw [if_pos q,if_pos q];exact ry
  ·rw [if_neg q,if_neg q];exact r d
 ·by_cases q:d=f
  ·rw [q];exact (Q9 f y fs).1
  ·refine (Q9 f y fs).2 d (i d λ B=>D ?_)
   show (if d=f then some u else h d)=none
   rw [if_neg q];exact B
theorem Inv.made (i:Inv X pins σ H s):Inv X pins σ (upd (upd H s.heap.objs.size (.own (s.heap.objs.size+1))) (s.heap.objs.size+1) (.ins C s.heap.objs.size []))
  { s with heap:=(s.heap.push UC).push (JL C s.heap.objs.size) }:=by
 have e1:(s.heap.push UC).get? s.heap.objs.size=some UC:=XB s.heap rfl;have e2:((s.heap.push UC).push (JL C s.heap.objs.size)).get? (s.heap.objs.size+1)=some (JL C s.heap.objs.size):=by
  have:=XB (s.heap.push UC) (o:=JL C s.heap.objs.size) rfl
  rwa [Jb] at this
 have c:(s.heap.push UC).Ns s.heap.objs.size (λ _=>none):=⟨UC,#[],_,e1,rfl,(λ e d=>absurd d (by simp)),λ _=>rfl⟩
 have g:=i.laid (a:=s.heap.objs.size) (o:=.own (s.heap.objs.size+1)) (h':=s.heap.push UC) (t':=s.toks) (λ b u q=>Za _ q) (Zj _) ⟨_,e1⟩
 refine g.laid (a:=s.heap.objs.size+1) (o:=.ins C s.heap.objs.size []) (t':=s.toks) (λ b u q=>Za _ q) (My (Jb _ _)) ?_
 have ne:s.heap.objs.size≠s.heap.objs.size+1:=XG (xo _);refine ⟨by rw [BK ne,Al],Ul _,ne,e2,λ _=>none,(Heap.Ns1.of_empty c).at λ o q=>Za _ q,λ _=>zi,λ y h=>absurd rfl h⟩
theorem zO {prog:ZY}{w:World}{env:Env}{e:Expr}{f:Str}{pos:Pos}{s:X2}{Q:Value->X2->Prop}(c:xJ e f env (eval e env)=eval e env)
  (d:wpAny (model prog w) A (eval e env) (λ o b=>wpAny (model prog w) A (getAttr o f true) Q E b) E s):wpAny (model prog w) A (eval (.Attribute e f pos) env) Q E s:=
 Attribute_any_ d (by rw [arm_eval_Attribute,c])
end
def tFld (K:FrG)(c:TE)(f:Str):TE:=λ d H Q=>c d H λ x b=>∃a C e fs v,x=.ref a/\b a=some (.ins C e fs)/\Cls K C/\NoAttr K C f/\fs.lookup f=some v/\Q v b
def sFld (K:FrG)(e g:TE)(f:Str):TS:=λ i b H=>g b H λ y h=>e b h λ x c=>∃a C d fs,x=.ref a/\c a=some (.ins C d fs)/\Cls K C/\NoAttr K C f/\fs.length < 1000/\
 i.nx b (upd c a (.ins C d (putF f y fs)))
def InOp (X:Cx)(c:NH)(d:V->V->Hp->VK->Prop):Prop:=
 ∀(a:List (Addr×Obj)) (s:X2) (b:St) (H:Hp) (x y:V) (u v:Value) (Q:VK),Inv X a b H s->RelV x u->RelV y v->d x y H Q->wpAny (model X.prog X.w) X.A (inplaceOp c u v) (EP X a b Q) X.xe s
def sFldAug (K:FrG)(h i:TE)(j:V->V->Hp->VK->Prop)(f:Str):TS:=λ m d H=>h d H λ x e=>∃a C k fs v,x=.ref a/\e a=some (.ins C k fs)/\Cls K C/\NoAttr K C f/\fs.lookup f=some v/\
 i d e λ y l=>j v y l λ n g=>∃c b,g a=some (.ins C c b)/\b.length < 1000/\m.nx d (upd g a (.ins C c (putF f n b)))
section
variable {X:Cx}{o e value:Expr}{f:Str}{pos pos' tpos:Pos}{ta tv:TE}
theorem yZ (d:PE X e ta)(g:xJ e f X.env (eval e X.env)=eval e X.env):PE X (.Attribute e f pos) (tFld X.K ta f):=by
 intro b s h H Q t w;refine zO g (thn (d b s h H _ t w) λ u y ⟨x,i,j,k,a,C,z,fs,v,ex,m,c,n,l,q⟩=>?_)
 subst ex;obtain rfl:u=WG a:=k;exact Xq j m c n l λ A B p r=>⟨v,i,p,r,q⟩
theorem AK7 (g:PE X o ta)(hv:PE X value tv)(h:ql value (some (.Attribute o f pos')) pos.line X.env=pure false):PS X (.Assign [.Attribute o f pos'] value pos) (sFld X.K ta tv f):=by
 intro b s d H G z A;refine plainObj_wpAny_Assign_Attribute (thn (hv b s d H _ z A) λ u i ⟨y,j,k,ry,q⟩=>thn (g b i d j _ k q) λ m B ⟨x,D,p,r,a,C,E,fs,ex,t,c,n,l,v⟩=>?_) h
 subst ex;obtain rfl:m=WG a:=r;exact Yk p t c n l ry λ F w=>⟨d,_,w,v⟩
theorem gR {g:NH}{h:V->V->Hp->VK->Prop}(k:PE X o ta)(hv:PE X value tv)(i:InOp X g h):PS X (.AugAssign (.Attribute o f tpos) g value pos) (sFldAug X.K ta tv h f):=by
 intro b s d H a1 R S;refine wpAny_AugAssign_AttributeAny (thn (k b s d H _ R S) λ m T ⟨x,p,r,t,a,C,U,fs,v,ex,w,c,n,l,q⟩=>?_)
 subst ex;obtain rfl:m=WG a:=t;refine Xq r w c n l λ u z A B=>thn (hv b z d p _ A q) λ D E ⟨y,F,G,ry,I⟩=>thn (i b E d F v y u D _ G B ry I) λ W Y ⟨a2,Z,J,L,P,Q,j,M,N⟩=>?_
 exact Yk J j c n M L λ a0 O=>⟨d,_,O,N⟩
def rAdd:V->V->Hp->VK->Prop:=λ x y H Q=>∃i j,x=.int i/\y=.int j/\Q (.int (i+j)) H
theorem gM:InOp X .Add rAdd:=by
 rintro a s c H x y u v Q d b ry ⟨i,j,rfl,rfl,q⟩
 obtain ⟨t,rfl⟩:=(show ∃t,u=qk i t from b)
 obtain ⟨t',rfl⟩:=(show ∃t',v=qk j t' from ry)
 exact PyProof.Rows.iadd_int ⟨.int (i+j),H,d.tok _,⟨_,rfl⟩,q⟩
end
section
variable {X:Cx}{pins:List (Addr×Obj)}{σ:St}{H:Hp}{s:X2}{A:XU}{E:Value->X2->Prop}{Q:Value->X2->Prop}{c:Value}{b:Bool}
inductive TyOf (K:FrG)(H:Hp):V->Value->Prop where
 | non:TyOf K H .non (.type "NoneType")
 | bl (x:Bool):TyOf K H (.bl x) (.type "bool")
 | int (i:Int):TyOf K H (.int i) (.type "int")
 | str (x:Str):TyOf K H (.str x) (.type "str")
 | flt (x:UInt64):TyOf K H (.flt x) (.type "float")
 | lst {a:Addr} {xs:List V} (e:H a=some (.lst xs)):TyOf K H (.ref a) (.type "list")
 | frz {a:Addr} {o:Obj} {xs:List V} (e:H a=some (.frz o (.lst xs))):TyOf K H (.ref a) (.type "list")
 | tup {a:Addr} {xs:List V} (e:H a=some (.tup xs)):TyOf K H (.ref a) (.type "tuple")
 | dK {a:Addr} {kvs:List (Key×V)} (e:H a=some (.dK kvs)):TyOf K H (.ref a) (.type "dict")
 | dT {a:Addr} {kvs:List (List Key×V)} (e:H a=some (.dT kvs)):TyOf K H (.ref a) (.type "dict")
 | ins {a C dx:Addr} {fs:List (Str×V)} (e:H a=some (.ins C dx fs)) (cl:Cls K C) (ha:Zu K (.ref C) "__class__"=some (some (.builtin "object.__class__")))
   (hn:PySem.W.specialIn K (.builtin "object.__class__") "__get__"=some (some (.builtin "getset_descriptor.__get__"))) (htk:PySem.W.takesIn K (.builtin "object.__class__")=some true)
   (hm:PySem.W.mroIn K C (.type "object")=some true):TyOf K H (.ref a) (.ref C)
theorem K3 {x:V}{u t:Value}(j:Inv X pins σ H s)(d:RelV x u)(v:TyOf X.K H x t)(e:PySem.W.kitOne X.K t c=some b)(k:∀tk,Q (.bool b) { s with toks:=tk }):
  wpAny (model X.prog X.w) A (call (.builtin "isinstance") [u,c]) Q E s:=by
 cases v with
 | non=>cases (show u=uj from d);exact WU PySem.W.kitx_none j.kIn zi e (λ g=>nomatch g) k
 | bl y=>cases (show u=Mg y from d);exact WU PySem.W.kitx_bool j.kIn zi e (λ g=>nomatch g) k
 | int i=>obtain ⟨t,q⟩:=(show ∃t,u=qk i t from d);cases q;exact WU PySem.W.kitx_int j.kIn zi e (λ g=>nomatch g) k
 | str y=>obtain ⟨t,q⟩:=(show ∃t:NZ,u=GV y t.1 from d);cases q;exact WU PySem.W.kitx_str j.kIn zi e (λ g=>nomatch g) k
 | flt y=>obtain ⟨t,q⟩:=(show ∃t,u=MQ y t from d);cases q;exact WU PySem.W.kitx_float j.kIn zi e (λ g=>nomatch g) k
 | @lst a xs f=>
  cases (show u=WG a from d)
  obtain ⟨_,_,n,_,h⟩:=(show ObjOk X.prog X.w H s.heap a (.lst xs) from j.hok a _ f)
  exact WU Go j.kIn ⟨_,h,rfl⟩ e (λ g=>nomatch g) k
 | @frz a z xs f=>
  cases (show u=WG a from d)
  obtain ⟨_,_,_,n,_,h⟩:=(show ObjOk X.prog X.w H s.heap a (.frz z (.lst xs)) from j.hok a _ f)
  exact WU Go j.kIn ⟨_,h,rfl⟩ e (λ g=>nomatch g) k
 | @tup a xs f=>
  cases (show u=WG a from d)
  obtain ⟨_,_,_,p⟩:=(show ObjOk X.prog X.w H s.heap a (.tup xs) from j.hok a _ f)
  obtain ⟨o,h,l,_⟩:=p;exact WU Mi j.kIn ⟨o,h,l⟩ e (λ g=>nomatch g) k
 | @dK a m f=>
  cases (show u=WG a from d)
  obtain ⟨_,_,vs,_,p⟩:=(show ObjOk X.prog X.w H s.heap a (.dK m) from j.hok a _ f)
  obtain ⟨o,es,B,h,l,_⟩:=p;exact WU MA j.kIn ⟨o,h,l.1⟩ e (λ g=>nomatch g) k
 | @dT a m f=>
  cases (show u=WG a from d)
  obtain ⟨_,_,xs,_,o,es,B,h,l,_⟩:=(show ObjOk X.prog X.w H s.heap a (.dT m) from j.hok a _ f)
  exact WU MA j.kIn ⟨o,h,l.1⟩ e (λ g=>nomatch g) k
 | @ins a C I fs f cl D F r G=>
  cases (show u=WG a from d)
  obtain ⟨J,L,_⟩:=O5 j.hok f;obtain ⟨M,N,_⟩:=L.look;exact WU (PySem.W.kitx_own (cl.get _) cl.hd D F r G) j.kIn N e (λ g=>nomatch g) k
end
structure Room (k:Nat)(A:XU):Prop where
 hd:A.handled=none
 dp:A.depth+3 * k+5 < NI
 un:A.units+16 * k+200 < cLine
theorem j9 {A:XU}{C:Addr}{us:List Value}{a:List (Str×Value)}:(A.under (.builtin "type.__call__" ⟨.ref C::us,a⟩)).depth=A.depth+1:=by
 first | rfl | simp [MB,Code.weight,Code.isCreation,Code.isGuard,Code.isCaller,Code.frames,MD,guardIds]
theorem wN {A:XU}{C:Addr}{us:List Value}{a:List (Str×Value)}:(A.under (.builtin "type.__call__" ⟨.ref C::us,a⟩)).units=A.units+1:=by
 first | rfl | simp [MB,Code.cUnits,Code.frames,MD]
theorem Room.make {k:Nat}{A:XU}(r:Room (k+1) A)(C:Addr)(us:List Value)(a:List (Str×Value)):Room k (A.under (.builtin "type.__call__" ⟨.ref C::us,a⟩)):=
 ⟨r.hd,by have:=r.dp;rw [j9];omega,by have:=r.un;rw [wN];omega⟩
def tNil:TA:=λ _ H Q=>Q [] H
def tCons (b:TE)(c:TA):TA:=λ a H Q=>b a H λ x d=>c a d λ xs e=>Q (x::xs) e
section
variable {X:Cx}{e:Expr}{es:List Expr}{te:TE}{t:TA}{pos:Pos}
theorem Aa:PA X [] tNil:=λ _ _ _ _ H Q a b=>wq ⟨[],H,a,.nil,b⟩
theorem Cm (c:PE X e te)(d:PA X es t)(f:Xa (e::es) X.env=(false,eval e X.env)::Xa es X.env:=by rfl):PA X (e::es) (tCons te t):=by
 intro pos a s b H Q p q;rw [f];show wpAny _ _ (spliced ((false,eval e X.env)::yq pos (Xa es X.env))) _ _ s;refine yi (thn (c a s b H _ p q) λ u g ⟨x,h,i,j,k⟩=>?_)
 exact thn (d pos a g b h _ i k) λ us r ⟨xs,l,m,n,o⟩=>⟨x::xs,l,m,.cons j n,o⟩
def tTup (t:TA):TE:=λ b H Q=>t b H λ xs a=>xs.length<=Y7/\∀p,a p=none->Q (.ref p) (upd a p (.tup xs))
def tLst (t:TA):TE:=λ b H Q=>t b H λ xs a=>xs.length<=Y7/\∀p,a p=none->Q (.ref p) (upd a p (.lst xs))
theorem Bk {x1}(j:PA X es t):PE X (.Tuple es x1 pos) (tTup t):=by
 intro c s g H Q k h;refine wpAny_Tuple_spliced (thn (j pos c s g H _ k h) λ us a ⟨xs,d,f,r,i,q⟩=>⟨by rw [<- r.length];exact i,?_⟩)
 have hf:d a.heap.objs.size=none:=f.hok.fresh (Zj _);refine ⟨.ref a.heap.objs.size,upd d a.heap.objs.size (.tup xs),f.laid (t':=a.toks) (λ b u e=>Za _ e) (Zj _) ?_,rfl,q _ hf⟩
 exact ⟨i,us,r,⟨_,XB _ rfl,rfl,_,rfl⟩⟩
theorem Bu (j:PA X es t):PE X (.List es pos) (tLst t):=by
 intro c s g H Q k h;refine wpAny_List_spliced (thn (j pos c s g H _ k h) λ us a ⟨xs,d,f,r,i,q⟩=>⟨by rw [<- r.length];exact i,?_⟩)
 have hf:d a.heap.objs.size=none:=f.hok.fresh (Zj _);refine ⟨.ref a.heap.objs.size,upd d a.heap.objs.size (.lst xs),f.laid (t':=a.toks) (λ b u e=>Za _ e) (Zj _) ?_,rfl,q _ hf⟩
 exact ⟨i,us,0,r,XB _ rfl⟩
end
abbrev Sp:=List V->Hp->VK->XK->Prop
abbrev CXT:=List Env->Hp->X2->XK->Value->X2->Prop
structure Env0 (P:ZY)(w:World)(K:FrG)(mg:Str->Option Value)(base:Heap)(A:XU)(outer:List Env)(s:X2)(H:Hp):Prop where
 frames:A.frames=some outer
 mod:Mod K mg base
 bs:∀b o,base.get? b=some o->s.heap.get? b=some o/\H b=none
 bsz:base.objs.size<=s.heap.objs.size
 funs:s.heap.FunFrames base outer
 frf:∀b∈frs outer,H b=none
 hok:HOk P w H s.heap
 bare:wT s.gens
def CE (outer:List Env)(P:ZY)(w:World)(H:Hp)(s:X2)(Q:VK)(u:Value)(s':X2):Prop:=
 ∃v a,s'.os=s.os/\wT s'.gens/\Un (frs outer) [] H a s.heap s'.heap/\HOk P w a s'.heap/\RelV v u/\Q v a
def CR (CX:CXT)(outer:List Env)(P:ZY)(w:World)(H:Hp)(s:X2)(Q:VK)(E:XK)(r:Result)(s':X2):Prop:=
 match r with
 | .ok (.ret u)=>CE outer P w H s Q u s'
 | .ok _=>False
 | .error e=>CX outer H s E e s'
structure FnOk (P:ZY)(w:World)(K:FrG)(mg:Str->Option Value)(base:Heap)(CX:CXT)(k:Nat)(f:Addr)(fd:UE)(ps:List Str)(sp:Sp):Prop where
 len:∀vs H Q E,sp vs H Q E->vs.length=ps.length
 run:∀(A:XU) (outer:List Env) (s:X2) (H:Hp) (args:Args) (us:List Value) (vs:List V) (Q:VK) (E:XK),Room k A->Env0 P w K mg base A outer s H->NR s fd args (ps.zip us)->Vals vs us->sp vs H Q E->(1<=s.toks\/∃x r,ps=x::r/\fd.scope.names.lookup x=some .local)->
  uu (model P w) A (.call (.ref f) args) (CR CX outer P w H s Q E) s
theorem Env0.make {P:ZY}{w:World}{K:FrG}{mg:Str->Option Value}{base:Heap}{A:XU}{outer:List Env}{s:X2}{H:Hp}(e:Env0 P w K mg base A outer s H)(C:Addr)(us:List Value)(a:List (Str×Value)):
  Env0 P w K mg base (A.under (.builtin "type.__call__" ⟨.ref C::us,a⟩)) outer s H:=⟨by first | exact e.frames | (simpa [MB,Code.envs,MD,pushEnvs] using e.frames),e.mod,e.bs,e.bsz,e.funs,e.frf,e.hok,e.bare⟩
section
variable {X:Cx}{pins:List (Addr×Obj)}{σ:St}{H:Hp}{s s':X2}
theorem Inv.env0 (a:Inv X pins σ H s):Env0 X.prog X.w X.K X.mg X.base X.A X.stack s H:=
 ⟨a.ok.frames,a.ok.mod,a.bs,U1 a.ok.bsz a.sz,a.stack,a.stkFree,a.hok,a.bare⟩
theorem Inv.after {Q:VK}{u:Value}(f:Inv X pins σ H s)(g:CE X.stack X.prog X.w H s Q u s')(ht:1<=s'.toks:=by assumption):EP X pins σ Q u s':=by
 obtain ⟨v,c,os,bare,un,hok,r,q⟩:=g;obtain ⟨e,h,d,t,a⟩:=s';obtain rfl:a=s.os:=os;exact ⟨v,c,f.call (h':=e) (g':=h) (d':=d) (t':=t) (ch:=[]) un hok bare (λ b i=>absurd i (by simp)),r,q⟩
end
def tCall (sp:Sp)(dvs:List V)(E:XK)(t:TA):TE:=λ a H Q=>t a H λ vs b=>sp (vs++dvs) b Q E
def tMake (C:Addr)(sp:Sp)(dvs:List V)(E:XK)(t:TA):TE:=λ c H Q=>t c H λ vs b=>∀x a,b x=none->b a=none->a≠x->
 sp (.ref x::(vs++dvs)) (upd (upd b a (.own x)) x (.ins C a [])) (λ v d=>v=.non/\Q (.ref x) d) E
def Binds (K:FrG)(fd:UE)(ps:List Str)(ds:List Value):Prop:=
 ∀(s:X2) (us:List Value),K.In s.heap->(us++ds).length=ps.length->NR s fd ⟨us,[]⟩ (ps.zip (us++ds))
theorem Binds.all {K:FrG}{fd:UE}{ps:List Str}(a:∀us:List Value,us.length=ps.length->jo fd ⟨us,[]⟩=pure (ps.zip us)):Binds K fd ps []:=λ s us _ hl=>by
 rw [WJ] at hl ⊢;exact .of_eq (a us hl)
def Passes (CX:CXT)(X:Cx)(E:XK):Prop:=∀(a:List (Addr×Obj)) (b:St) (H:Hp) (s:X2) (e:Value) (s':X2),Inv X a b H s->CX X.stack H s E e s'->1<=s'.toks->X.xe e s'
section
variable {X:Cx}{CX:CXT}{k:Nat}{f C:Addr}{fd:UE}{ps:List Str}{sp:Sp}{dvs:List V}{ds:List Value}{E:XK}{x m:Str}{p pos apos:Pos}{e o:Expr}{es:List Expr}{ta:TE}{t:TA}
theorem fU {a:List (Addr×Obj)}{c:St}{H:Hp}{s:X2}{Q:VK}{us:List Value}{vs:List V}(n:FnOk X.prog X.w X.K X.mg X.base CX k f fd ps sp)(h:Room k X.A)(i:Binds X.K fd ps ds)(hd:Vals dvs ds)(j:Passes CX X E)
  (d:Inv X a c H s) (r:Vals vs us) (q:sp (vs++dvs) H Q E):wpAny (model X.prog X.w) X.A (call (.ref f) us) (EP X a c Q) X.xe s:=by
 have g:Vals (vs++dvs) (us++ds):=r.append hd;have hl:(us++ds).length=ps.length:=by rw [<- g.length];exact n.len _ _ _ _ q
 refine wpAny_call (GL d.tk (qh (n.run X.A X.stack s H ⟨us,[]⟩ (us++ds) (vs++dvs) Q E h d.env0 (i s us d.kIn hl) g q (.inl d.tk)) λ r s' b ht=>?_))
 cases r with
 | error e=>exact j a c H s e s' d b ht
 | ok l=>
  cases l with
  | ret u=>exact d.after b
  | next=>exact UH b
  | brk=>exact UH b
  | cont=>exact UH b
structure Mk (K:FrG)(C f:Addr):Prop where
 makes:QU K C=true
 init:Zu K (.ref C) "__init__"=some (some (.ref f))
 fn:Wj K (.ref f)=true
 kp:YE K (.ref C)=true
theorem eN {b:List (Addr×Obj)}{g:St}{H:Hp}{s:X2}{Q:VK}{us:List Value}{vs:List V}(l:Mk X.K C f)(L:FnOk X.prog X.w X.K X.mg X.base CX k f fd ps sp)(n:Room (k+1) X.A)(q:Binds X.K fd ps ds)(hd:Vals dvs ds)
  (y:Passes CX X E) (j:Inv X b g H s) (r:Vals vs us)
  (M:∀x d,H x=none->H d=none->d≠x->sp (.ref x::(vs++dvs)) (upd (upd H d (.own x)) x (.ins C d [])) (λ v z=>v=.non/\Q (.ref x) z) E):
  wpAny (model X.prog X.w) X.A (call (.ref C) us) (EP X b g Q) X.xe s:=by
 have h:=M (s.heap.objs.size+1) s.heap.objs.size (j.hok.fresh (wm _)) (j.hok.fresh (Zj _)) (XG (xo _));have c:=Inv.made (C:=C) j;have i:Vals (V.ref (s.heap.objs.size+1)::(vs++dvs)) (WG (s.heap.objs.size+1)::(us++ds)):=.cons rfl (r.append hd);have hl:(WG (s.heap.objs.size+1)::us++ds).length=ps.length:=by
  have e:=i.length;rw [L.len _ _ _ _ h] at e;exact e.symm
 refine wpAny_call (AH3 (f:=f) j.kIn l.makes l.init (beq_iff_eq.mp l.fn) (GL c.tk (qh (L.run _ X.stack _ _ ⟨WG (s.heap.objs.size+1)::us,[]⟩ (WG (s.heap.objs.size+1)::(us++ds)) _ _ E (n.make C us [])
  (c.env0.make C us []) (q _ (WG (s.heap.objs.size+1)::us) c.kIn hl) i h (.inl c.tk)) λ r s' a ht=>?_)))
 cases r with
 | error e=>exact y b g _ _ e s' c a ht
 | ok B=>
  cases B with
  | ret u=>
   obtain ⟨v,D,F,G,I,J⟩:=c.after a;subst I;exact ⟨G,⟨V.ref (s.heap.objs.size+1),D,F,rfl,J⟩⟩
  | next=>exact UH a
  | brk=>exact UH a
  | cont=>exact UH a
theorem rJ (z:Mk X.K C f)(B:FnOk X.prog X.w X.K X.mg X.base CX k f fd ps sp)(g:Room (k+1) X.A)(h:Gl X x)(i:X.mg x=some (.ref C))(j:Binds X.K fd ps ds)(hd:Vals dvs ds)(l:Passes CX X E)
  (n:PA X (e::es) t) (b:(x == ("__debug__":Str))=false:=by decide) (u:Xa (e::es) X.env=(false,eval e X.env)::Xa es X.env:=by rfl) (c:(yq pos (Xa es X.env)).any (·.1)=false:=by rfl):
  PE X (.Call (.Name x p) (e::es) [] pos) (tMake C sp dvs E t):=by
 intro a s v H Q y D;refine UK (Kp y h i ?_ b);refine yk (h₀:=X.base) y.ok.mod.kin z.kp (thn (n pos a s v H _ y D) λ us F ⟨vs,G,d,r,q⟩=>⟨d.kIn,?_⟩) u c
 exact eN z B g j hd l d r q
theorem jL (l:Mk X.K C f)(n:FnOk X.prog X.w X.K X.mg X.base CX k f fd ps sp)(b:Room (k+1) X.A)(c:Gl X x)(d:X.mg x=some (.ref C))(g:Binds X.K fd ps ds)(hd:Vals dvs ds)(h:Passes CX X E)
  (a:(x == ("__debug__":Str))=false:=by decide):PE X (.Call (.Name x p) [] [] pos) (tMake C sp dvs E tNil):=by
 intro i s q H Q j r;refine UK (Kp j c d ?_ a);exact NX j.kIn l.kp (eN (us:=[]) l n b g hd h j .nil r)
end
structure FnScope (N P:List Str)(sc:Scope):Prop where
 kind:sc.kind=.function
 co:sc.isCoroutine=false
 gen:sc.isGenerator=false
 nd:N.Nodup
 pre:N.take P.length=P
 par:∀x∈P,sc.names.lookup x=some .local\/sc.names.lookup x=some .cell
 nofree:∀y∈sc.names,y.2≠.free
theorem aW {kindOf:Str->Option QN}{x:Str}:∀{binds:List (Str×Value)} {m:Str->Option Value},(∀v,(x,v)∉binds)->bindL kindOf binds m x=m x
 | [],_,_=>rfl
 | (n,v)::r,m,b=>by
  unfold bindL;rw [aW λ w a=>b w (ZT _ a)]
  split
  ·have:x≠n:=by rintro rfl;exact b v ZD
   simp [this]
  ·rfl
theorem cP {kindOf:Str->Option QN}{x:Str}:∀{binds:List (Str×Value)} {m:Str->Option Value},(∀v,(x,v)∉binds)->bindC kindOf binds m x=m x
 | [],_,_=>rfl
 | (n,v)::r,m,b=>by
  unfold bindC;rw [cP λ w a=>b w (ZT _ a)]
  split
  ·rfl
  ·have:x≠n:=by rintro rfl;exact b v ZD
   simp [this]
theorem gG {kindOf:Str->Option QN}{x:Str}{v:Value}:∀{P:List Str} {vs:List Value} {i:Nat} {m:Str->Option Value},P.Nodup->P[i]?=some x->vs[i]?=some v->kindOf x=some .local->
  bindL kindOf (P.zip vs) m x=some v
 | [],_,_,_,_,d,_,_=>by simp at d
 | _::_,[],_,_,_,_,d,_=>by simp at d
 | p::P,w::vs,0,m,nd,a,b,c=>by
  simp at a b;subst a;subst b
  show bindL kindOf ((p,w)::P.zip vs) m p=_;unfold bindL;rw [aW λ v hv=>(yy.mp nd).1 (FR hv).1,if_pos c]
  simp
 | p::P,w::vs,i+1,m,nd,a,b,c=>by
  show bindL kindOf ((p,w)::P.zip vs) m x=_;unfold bindL;exact gG (i:=i) (yy.mp nd).2 (by simpa using a) (by simpa using b) c
theorem gr {kindOf:Str->Option QN}{x:Str}{v:Value}:∀{P:List Str} {vs:List Value} {i:Nat} {m:Str->Option Value},P.Nodup->P[i]?=some x->vs[i]?=some v->kindOf x≠some .local->
  bindC kindOf (P.zip vs) m x=some v
 | [],_,_,_,_,d,_,_=>by simp at d
 | _::_,[],_,_,_,_,d,_=>by simp at d
 | p::P,w::vs,0,m,nd,a,b,c=>by
  simp at a b;subst a;subst b
  show bindC kindOf ((p,w)::P.zip vs) m p=_;unfold bindC;rw [cP λ v hv=>(yy.mp nd).1 (FR hv).1,if_neg c]
  simp
 | p::P,w::vs,i+1,m,nd,a,b,c=>by
  show bindC kindOf ((p,w)::P.zip vs) m x=_;unfold bindC;exact gr (i:=i) (yy.mp nd).2 (by simpa using a) (by simpa using b) c
def start (N:List Str)(vs:List V):St:=vs.map some++Xt (N.length - vs.length) none
def cxOf (CX:CXT)(P:ZY)(w:World)(K:FrG)(mg:Str->Option Value)(base:Heap)(N:List Str)(b:Str)(a:Scope)(f:Addr)(c:Value)(A:XU)(outer:List Env)(s:X2)(H:Hp)(E:XK):Cx where
 prog:=P
 w:=w
 K:=K
 mg:=mg
 base:=base
 A:=A.deeper (ua b a s.heap.objs.size f c)
 N:=N
 s₀:=s
 H₀:=H
 env:=ua b a s.heap.objs.size f c
 outer:=outer
 stack:=ua b a s.heap.objs.size f c::outer
 ex:=[]
 calm:=true
 fn:=λ _=>true
 pn:=[]
 xe:=λ e s'=>wpAny (model P w) (A.deeper (ua b a s.heap.objs.size f c)) (leaving (ua b a s.heap.objs.size f c) e) (λ _ d=>CX outer H s E e d) (λ g d=>CX outer H s E g d) s'
theorem Tj {a:Scope}{n:Nat}{x:Str}(b:a.names.lookup x=some .cell):∃c,(QA n a.names []).lookup x=some c:=by
 have q:=Fu a.names n [] (.inl b);exact GN.mp q
theorem vD {G:Model}{A:XU}{E:Value->X2->Prop}{f:X2}{g:Scope}{h:Addr}{m:List (Str×Value)}{i:Str}{j:Option Addr}{co:Value}{bl:Addr}{Q:Env->X2->Prop}
  (s:g.kind=.function)
  (l:∀x∈m,g.names.lookup x.1=some .local\/(g.names.lookup x.1=some .cell/\((QA (f.heap.objs.size+1) g.names []).lookup x.1).isSome=true))
  (ht:1<=f.toks\/∃n v r,m=(n,v)::r/\g.names.lookup n=some .local)
  (u:∀env,env=NJ g f.heap.objs.size h (QA (f.heap.objs.size+1) g.names []) i j co none bl->
   ∀s',InCallC f env.locals (bindL env.kindOf m λ _=>none) env.cells (bindC env.kindOf m λ _=>none) s'->1<=s'.toks->Q env s'):
  wpAny G A (newFunctionEnv g h [] m i j co none bl) Q E f:=by
 rcases ht with ht | ⟨n,v,r,rfl,hl⟩
 ·exact Qa ht (wpAny_newFunctionEnv_cells s l u)
 simp only [Ml,if_false,newFunctionEnv,yl];refine W1 (wpAny_alloc ?_);refine W1 (wpAny_layCells _ (λ a b d=>by cases B:b == QN.cell<;>simp [B]) _ _ _ _ ?_)
 have ok:=cellsFrom_ok g.names (f.heap.push { cls:=.type "frame",data:=.dict #[] }) (f.heap.objs.size+1) [] ⟨λ _ _ t=>(nomatch t),ME⟩ (by rw [Jb];exact Zj _)
 rw [Jb] at ok;rw [show ({ f with heap:=f.heap.push { cls:=.type "frame",data:=.dict #[] } }:X2).heap.objs.size=f.heap.objs.size+1 from Jb ..]
 have x:InCallC f (NJ g f.heap.objs.size h (QA (f.heap.objs.size+1) g.names []) i j co none bl).locals (λ _=>none) (NJ g f.heap.objs.size h (QA (f.heap.objs.size+1) g.names []) i j co none bl).cells (λ _=>none) { f with heap:=pushCells (f.heap.push { cls:=.type "frame",data:=.dict #[] }) g.names }:=
  ⟨⟨⟨_,_,rfl⟩,(Heap.Ns.new f.heap (.type "frame")).keeps (pushCells_keeps _ _),λ b o e=>pushCells_keeps _ _ b o (Za _ e),Zj _⟩,
   λ n c p=>(ok.empty n c (mem_of_lookup p)).1,ok.apart,λ n c t=>(ok.empty n c t).2⟩
 refine W1 ?_;rw [QW];refine W1 (W1 (wpAny_storeName_local (env:=NJ g f.heap.objs.size h (QA (f.heap.objs.size+1) g.names []) i j co none bl) hl x.toInCall.ns (λ h' w q=>?_) (by show (g.kind == _ || (g.kind == _ && _))=false;rw [s];rfl)))
 refine Yf ?_;have C:InCallC f (NJ g f.heap.objs.size h (QA (f.heap.objs.size+1) g.names []) i j co none bl).locals (λ y=>if y=n then some v else none) (NJ g f.heap.objs.size h (QA (f.heap.objs.size+1) g.names []) i j co none bl).cells (λ _=>none) { f with heap:=h',toks:=f.toks+1 }:=by
  refine ⟨⟨⟨h',_,rfl⟩,w,λ b o e=>?_,x.toInCall.fresh⟩,λ k c p=>?_,x.apart,x.above⟩
  ·exact q.extBut b o (XG (X1 (ZO e) x.toInCall.fresh)) (x.toInCall.keep b o e)
  ·exact (x.cell k c p).sameBut q (WS (x.above k c (mem_of_lookup p)))
 refine Qa (n:=1) (YI _ _) ?_;refine wpAny_bindParams (s₀:=f) (env:=NJ g f.heap.objs.size h (QA (f.heap.objs.size+1) g.names []) i j co none bl)
  _ (λ _ _ _=>rfl) s r _ _ _ _ C (λ y D=>l y (ZT _ D)) λ s' F z=>Yf (u _ rfl s' ?_ z)
 unfold bindL bindC;rw [if_pos (show (NJ g f.heap.objs.size h (QA (f.heap.objs.size+1) g.names []) i j co none bl).kindOf n=some .local from hl),if_pos (show (NJ g f.heap.objs.size h (QA (f.heap.objs.size+1) g.names []) i j co none bl).kindOf n=some .local from hl)];exact F
theorem iR {s:X2}{ps:List Str}{us:List Value}{vs:List V}{c:Scope}(hl:vs.length=ps.length)(r:Vals vs us)(d:1<=s.toks\/∃x r,ps=x::r/\c.names.lookup x=some .local):1<=s.toks\/∃n v r,ps.zip us=(n,v)::r/\c.names.lookup n=some .local:=by
 rcases d with d | ⟨x,e,rfl,d⟩
 ·exact .inl d
 ·cases r with
  | nil=>cases hl
  | cons a b=>exact .inr ⟨x,_,_,rfl,d⟩
section
variable {X:Cx}{x:Str}{p pos:Pos}{e:Expr}{es:List Expr}{t:TA}{id T:String}{r:List V->Hp->VK->Prop}
def tCB (r:List V->Hp->VK->Prop)(t:TA):TE:=λ a H Q=>t a H λ vs b=>r vs b Q
theorem Be (f:CallR X (.builtin id) r)(g:Gl X x)(h:X.mg x=none)(hv:WT x=some (.builtin id))(i:PA X (e::es) t)(j:x≠"__name__":=by decide)(b:(x == ("__debug__":Str))=false:=by decide)
  (k:Xa (e::es) X.env=(false,eval e X.env)::Xa es X.env:=by rfl) (c:(yq pos (Xa es X.env)).any (·.1)=false:=by rfl):PE X (.Call (.Name x p) (e::es) [] pos) (tCB r t):=by
 intro a s d H Q u v;refine UK (Gk u g h hv ?_ j b);exact PyProof.Rows.callWith_builtin1 (thn (i pos a s d H _ u v) λ us l ⟨vs,m,n,o,q⟩=>f a l d m vs us Q n o q) k c
theorem Fp (f:CallR X (.type T) r)(g:Gl X x)(h:X.mg x=none)(hv:WT x=some (.type T))(i:PA X (e::es) t)(j:x≠"__name__":=by decide)(b:(x == ("__debug__":Str))=false:=by decide)
  (k:Xa (e::es) X.env=(false,eval e X.env)::Xa es X.env:=by rfl) (c:(yq pos (Xa es X.env)).any (·.1)=false:=by rfl):PE X (.Call (.Name x p) (e::es) [] pos) (tCB r t):=by
 intro a s d H Q u v;refine UK (Gk u g h hv ?_ j b);exact Us (thn (i pos a s d H _ u v) λ us l ⟨vs,m,n,o,q⟩=>f a l d m vs us Q n o q) k c
end
end L2
namespace HT
open PySem PyProof.Rows
section
variable {prog:ZY}{w:World}{A:XU}{E:Value->X2->Prop}{s:X2}
def sIx (n d:Nat):Option Int->Nat
 | none=>d
 | some v=>if v < 0 then (v+(n:Int)).toNat else min v.toNat n
theorem Ni (n d:Nat):sIx n d none=d:=rfl
theorem Ff (n d k:Nat):sIx n d (some (k:Int))=min k n:=by
 show (if (k:Int) < 0 then ((k:Int)+(n:Int)).toNat else min (k:Int).toNat n)=min k n
 rw [if_neg (by omega),yT]
theorem rP (n d:Nat)(hd:d<=n)(o:Option Int):sIx n d o<=n:=by
 cases o with
 | none=>exact hd
 | some v=>
  show (if v < 0 then (v+(n:Int)).toNat else min v.toNat n)<=n
  by_cases hv:v < 0
  ·rw [if_pos hv];omega
  ·rw [if_neg hv];exact Nat.min_le_right _ _
theorem aO (v:Int)(n d:Nat):(if v < 0 then max (v+(n:Int)) 0 else min v (n:Int))=((sIx n d (some v):Nat):Int):=by
 show (if v < 0 then max (v+(n:Int)) 0 else min v (n:Int))=(((if v < 0 then (v+(n:Int)).toNat else min v.toNat n):Nat):Int)
 by_cases hv:v < 0
 ·simp only [if_pos hv];omega
 ·simp only [if_neg hv];omega
theorem tZ (lo a:Option Int)(n:Nat):xv lo a 1 (n:Int)=(((sIx n 0 lo:Nat):Int),((sIx n n a:Nat):Int)):=by
 have b:¬ ((1:Int) < 0):=by omega
 unfold xv;simp only [b,if_false];refine xB ?_ ?_
 ·cases lo with
  | none=>rfl
  | some v=>exact aO v n 0
 ·cases a with
  | none=>rfl
  | some v=>exact aO v n n
theorem zJ (i j:Nat):QS (i:Int) (j:Int) 1=j - i:=by
 unfold QS;have a:(1:Int) > 0:=by omega
 simp only [a,if_true,Int.ediv_one]
 split<;>omega
theorem Yr {v:Value}{o:Option Int}{Q:Option Int->X2->Prop}(p:IsPart v o)(a:Q o s):wpAny (model prog w) A (WN.Slice.slicePartIndex v) Q E s:=by
 cases p with
 | none=>exact slicePart_none a
 | int i t=>exact slicePart_int a
theorem tW {f:Addr}{d e:Value}{lo a:Option Int}{n:Nat}{Q:Int×Int×Nat->X2->Prop}(g:s.heap.IsSliceOf f d e .none)(pl:IsPart d lo)(h:IsPart e a)
  (j:Q (((sIx n 0 lo:Nat):Int),1,sIx n n a - sIx n 0 lo) s):wpAny (model prog w) A (qq (.ref f) (pure (n:Int))) Q E s:=by
 obtain ⟨os,b,i,c⟩:=id g;unfold qq WN.Slice.sliceFields;refine W1 (W1 (wpAny_field b c (x:=d) rfl (W1 (wpAny_field b c (x:=e) rfl (W1 (wpAny_field b c (x:=.none) rfl (Yf ?_)))))));refine W1 (slicePart_none ?_);show wpAny _ _ (if ((1:Int) == 0)=true then _ else _) _ _ s
 rw [if_neg (by decide)]
 refine W1 (Yr pl (W1 (Yr h (W1 (Yf ?_)))));show wpAny _ _ (match xv lo a 1 (n:Int) with | (lo,a)=>pure (lo,(1:Int),QS lo a 1)) _ _ s
 rw [tZ lo a n];show wpAny _ _ (pure (((sIx n 0 lo:Nat):Int),(1:Int),QS ((sIx n 0 lo:Nat):Int) ((sIx n n a:Nat):Int) 1)) _ _ s;rw [zJ];exact Yf j
theorem oR (xs:Array Value)(i k:Nat):((WC k).filterMap λ (m:Nat)=>xs[((i:Int)+(m:Int) * 1).toNat]?).toArray=((xs.toList.drop i).take k).toArray:=by
 have e:(λ (m:Nat)=>xs[((i:Int)+(m:Int) * 1).toNat]?)=λ m=>xs[i+m]?:=by
  funext m
  have:((i:Int)+(m:Int) * 1).toNat=i+m:=by omega
  rw [this]
 rw [e];have:=pick_run xs i k;rw [wa] at this;have e2:((λ x=>xs[x]?) ∘ λ x=>i+x)=λ m=>xs[i+m]?:=rfl
 rw [e2] at this;rw [this]
theorem yL {t c:Addr}{items:Array Value}{d e:Value}{lo b:Option Int}{Q:Value->X2->Prop}(ht:IsTup s.heap t items)(f:s.heap.IsSliceOf c d e .none)(pl:IsPart d lo)(l:IsPart e b)
  (n:¬ (sIx items.size 0 lo=0/\sIx items.size items.size b=items.size))
  (k:Q (.ref s.heap.objs.size) { s with heap:=s.heap.push { cls:=.type "tuple",data:=.seq ((items.toList.drop (sIx items.size 0 lo)).take (sIx items.size items.size b - sIx items.size 0 lo)).toArray } })
  (hsz:items.size<=Y7):wpAny (model prog w) A (GI (.ref t) (.ref c)) Q E s:=by
 have a:sizeOk (.seq ((items.toList.drop (sIx items.size 0 lo)).take (sIx items.size items.size b - sIx items.size 0 lo)).toArray):=by
  show ((items.toList.drop (sIx items.size 0 lo)).take (sIx items.size items.size b - sIx items.size 0 lo)).toArray.size<=Y7;rw [ZI,XE,zI,WE];omega
 have p:sIx items.size items.size b<=items.size:=rP _ _ (Zj _) b;obtain ⟨os,g,h,o⟩:=id f;have i:s.TypeIs (.ref c) "slice":=⟨os,g,h⟩;unfold GI
 try with_reducible refine UZ ?_
 first | refine W1 (Yf ?_) | skip
 refine W1 (wpAny_sequenceKey ht.typeIs (by decide) ?_)
 refine W1 (wpAny_callSpecial?_slot (name:=Y1 "__getitem__") ht.typeIs zt
  (wpAny_call_entry zt ht.typeIs entry_tuple_getitem ?_ (args_tuple_getitem _ _)))
 show wpAny _ _ (WN.Tuple.tupleItemsOf (.ref t) >>= _) _ _ s;refine W1 (tupleItemsOf_ ht ?_);refine W1 (wpAny_typeOf i ?_);rw [if_pos (by decide)]
 refine W1 (tW f pl l ?_);have j:¬ ((((sIx items.size 0 lo:Nat):Int) == 0 && (1:Int) == 1 && (sIx items.size items.size b - sIx items.size 0 lo) == items.size)=true):=by
  intro q;rw [Qv,Qv] at q;have r:((sIx items.size 0 lo:Nat):Int)=0:=eq_of_beq q.1.1;have u:sIx items.size items.size b - sIx items.size 0 lo=items.size:=eq_of_beq q.2;exact n ⟨by omega,by omega⟩
 show wpAny _ _ (if (((sIx items.size 0 lo:Nat):Int) == 0 && (1:Int) == 1 && (sIx items.size items.size b - sIx items.size 0 lo) == items.size)=true then _ else _) _ _ s
 rw [if_neg j,oR]
 first
  | exact W1 (m:=zk _) (zd (Yf ⟨_,rfl,Yf k⟩) a)
  | exact W1 (m:=zk _) (zd (W1 (Yf (Yf ⟨_,rfl,Yf k⟩))) a)
  | exact W1 (W1 (m:=zk _) (zd (Yf (Yf ⟨_,rfl,Yf k⟩)) a))
  | exact W1 (W1 (m:=zk _) (zd (Yf ⟨_,rfl,Yf k⟩) a))
end
end HT
namespace L2
open PySem PySem.Spec PyProof.Rows
abbrev TO:=St->Hp->(Option Int->Hp->Prop)->Prop
def PO (X:Cx)(e:Option Expr)(t:TO):Prop:=
 ∀(a:List (Addr×Obj)) (s:X2) (b:St) (H:Hp) (Q:Option Int->Hp->Prop),Inv X a b H s->t b H Q->
  wpAny (model X.prog X.w) X.A (evalPart e X.env) (λ u s'=>∃o c,Inv X a b c s'/\IsPart u o/\Q o c) X.xe s
def tNoPart:TO:=λ _ H Q=>Q none H
def tPart (t:TE):TO:=λ a H Q=>t a H λ x b=>∃i,x=.int i/\Q (some i) b
section
variable {X:Cx}{e:Expr}{te:TE}{lo hi:Option Expr}{tl th:TO}{pos p2:Pos}
theorem Dh:PO X none tNoPart:=by
 intro a s b H Q c d;rw [evalPart_none];exact Yf ⟨none,H,c,.none,d⟩
theorem CZ (j:PE X e te):PO X (some e) (tPart te):=by
 intro a s b H Q k c;rw [evalPart_some];refine thn (j a s b H _ k c) λ u l ⟨x,d,f,g,h⟩=>?_
 obtain ⟨i,rfl,q⟩:=h;obtain ⟨t,rfl⟩:=g;exact ⟨some i,d,f,.int i t,q⟩
def SlR (X:Cx)(r:V->Option Int->Option Int->Hp->VK->Prop):Prop:=
 ∀(a:List (Addr×Obj)) (s:X2) (b:St) (H:Hp) (x:V) (v c d:Value) (lo hi:Option Int) (f:Addr) (Q:VK),Inv X a b H s->RelV x v->s.heap.IsSliceOf f c d .none->IsPart c lo->IsPart d hi->r x lo hi H Q->
  ∃T id,typeLookup (.type T) "__getitem__"=pure (some (.builtin id))/\s.TypeIs v T/\wpAny (model X.prog X.w) X.A (GI v (.ref f)) (EP X a b Q) X.xe s
def tSl (r:V->Option Int->Option Int->Hp->VK->Prop)(te:TE)(tl th:TO):TE:=λ a H Q=>te a H λ x b=>tl a b λ l c=>th a c λ u d=>r x l u d Q
theorem DP {r:V->Option Int->Option Int->Hp->VK->Prop}(i:SlR X r)(j:PE X e te)(hl:PO X lo tl)(k:PO X hi th):PE X (.Subscript e (.Slice lo hi none p2) pos) (tSl r te tl th):=by
 intro a s d H Q K L;refine FK (thn (j a s d H _ K L) λ v m ⟨x,n,o,p,t⟩=>?_)
 refine wpAny_Slice (thn (hl a m d n _ o t) λ f y ⟨l,z,B,pl,C⟩=>thn (k a y d z _ B C) λ g c ⟨u,h,D,E,F⟩=>?_)
 rw [evalPart_none];refine Yf ?_;have G:Inv X a d h { c with heap:=c.heap.push { cls:=.type "slice",data:=.fields #[f,g,.none] } }:=D.kept (t':=c.toks) λ b M q=>Za _ q
 obtain ⟨T,id,I,ht,J⟩:=i a { c with heap:=c.heap.push { cls:=.type "slice",data:=.fields #[f,g,.none] } } d h x v f g l u c.heap.objs.size Q G p (Mn ..) pl E F
 show wpAny (model X.prog X.w) X.A (GT e (.Slice lo hi none p2) v (.ref c.heap.objs.size)) (EP X a d Q) X.xe { c with heap:=c.heap.push { cls:=.type "slice",data:=.fields #[f,g,.none] } }
 exact tail_any (ops:=[.ref c.heap.objs.size,v]) ht I J (by with_unfolding_all rfl)
def cutV (xs:List V)(lo hi:Option Int):List V:=(xs.drop (HT.sIx xs.length 0 lo)).take (HT.sIx xs.length xs.length hi - HT.sIx xs.length 0 lo)
theorem aP (xs:List V)(lo hi:Option Int):(cutV xs lo hi).length<=xs.length:=by
 unfold cutV;rw [XE,zI];omega
def rSlT (K:FrG):V->Option Int->Option Int->Hp->VK->Prop:=λ x lo hi H Q=>∃a xs,x=.ref a/\SqT K H a xs/\
 ¬ (HT.sIx xs.length 0 lo=0/\HT.sIx xs.length xs.length hi=xs.length)/\∀p,H p=none->Q (.ref p) (upd H p (.tup (cutV xs lo hi)))
theorem Q5:SlR X (rSlT X.K):=by
 intro f s m H x v n p lo hi t Q g h i pl j u;obtain ⟨a,xs,rfl,k,l,q⟩:=u;cases h
 obtain ⟨its,r,ht,d⟩:=g.tuple k;have c:its.toArray.size=xs.length:=by rw [ZI];exact r.length.symm
 refine ⟨"tuple",_,zt.lookup,ht.typeIs,?_⟩;refine HT.yL ht i pl j (by rw [c];exact l) ?_ (by rw [c];exact d)
 rw [c];refine ⟨.ref s.heap.objs.size,_,g.laid (t':=s.toks) (o:=.tup (cutV xs lo hi)) (λ b w q=>Za _ q) (Zj _) ?_,rfl,q _ (g.hok.fresh (Zj _))⟩
 exact ⟨U1 (aP xs lo hi) d,_,(r.drop (HT.sIx xs.length 0 lo)).take (HT.sIx xs.length xs.length hi - HT.sIx xs.length 0 lo),IsTup.new _ _⟩
end
def ixN (n:Nat)(i:Int):Option Nat:=if 0<=i then (if i < n then some i.toNat else none) else if -(n:Int)<=i then some (i+n).toNat else none
def atI {a:Type}(xs:List a)(i:Int):Option a:=(ixN xs.length i).bind λ j=>xs[j]?
theorem Xn {n:Nat}{i:Int}{j:Nat}(b:ixN n i=some j):seqIndex? i n=some j/\j < n/\-(n:Int)<=i/\i < n:=by
 unfold ixN at b;by_cases c:0<=i
 ·rw [if_pos c] at b;by_cases a:i < n
  ·rw [if_pos a] at b;have e:i.toNat=j:=XY b;exact ⟨by rw [seqIndex_of c a,e],by omega,by omega,a⟩
  ·rw [if_neg a] at b;cases b
 ·rw [if_neg c] at b;by_cases a:-(n:Int)<=i
  ·rw [if_pos a] at b;have e:(i+n).toNat=j:=XY b;exact ⟨by rw [seqIndex_neg (by omega) a,e],by omega,a,by omega⟩
  ·rw [if_neg a] at b;cases b
theorem Q3 {a:Type}{xs:List a}{i:Int}{v:a}(b:atI xs i=some v):∃j,seqIndex? i xs.length=some j/\xs[j]?=some v/\j < xs.length/\-(xs.length:Int)<=i/\i < xs.length:=by
 unfold atI at b;cases e:ixN xs.length i with
 | none=>rw [e] at b;cases b
 | some j=>
  rw [e] at b;obtain ⟨c,d,f,g⟩:=Xn e;exact ⟨j,c,b,d,f,g⟩
theorem Bm {a:Type}{xs:List a}{j:Nat}{v:a}(b:xs[j]?=some v):atI xs (j:Int)=some v:=by
 have c:j < xs.length:=(XT.mp b).1;have e:ixN xs.length (j:Int)=some j:=by
  unfold ixN;rw [if_pos (by omega),if_pos (by omega)];simp
 unfold atI;rw [e];exact b
theorem qI {a:Type}(xs:List a)(v:a):atI (xs++[v]) (-1)=some v:=by
 have hl:(xs++[v]).length=xs.length+1:=by simp
 have e:ixN (xs++[v]).length (-1)=some xs.length:=by
  unfold ixN;rw [hl,if_neg (by decide),if_pos (by omega)]
  congr 1
  omega
 unfold atI;rw [e];show (xs++[v])[xs.length]?=some v;simp
def PlainIx (b:Expr):Prop:=∀o i,GH b false o i=operate [o,i] (GI o i)
def IxR (X:Cx)(r:R2):Prop:=
 ∀(c a:Expr) (b:List (Addr×Obj)) (s:X2) (d:St) (H:Hp) (x y:V) (v u:Value) (Q:VK),Inv X b d H s->RelV x v->RelV y u->r x y H Q->
  GH a false v u=operate [v,u] (GI v u)->wpAny (model X.prog X.w) X.A (GT c a v u) (EP X b d Q) X.xe s
def MtR (X:Cx)(id:String)(r:V->List V->Hp->VK->Prop):Prop:=
 ∀(a:List (Addr×Obj)) (s:X2) (b:St) (H:Hp) (x:V) (xs:List V) (v:Value) (us:List Value) (Q:VK),Inv X a b H s->RelV x v->Vals xs us->r x xs H Q->
  wpAny (model X.prog X.w) X.A (call (.builtin id) (v::us)) (EP X a b Q) X.xe s
section
variable {X:Cx}{a b:Expr}{ta tb:TE}{pos:Pos}
theorem IxR.or {r f:R2}(k:IxR X r)(h':IxR X f):IxR X (λ x y H Q=>r x y H Q\/f x y H Q):=by
 intro c d e s g H x y v u Q j h ry q i;rcases q with q | q
 ·exact k c d e s g H x y v u Q j h ry q i
 ·exact h' c d e s g H x y v u Q j h ry q i
theorem Ad {r:R2}(d:IxR X r)(e:PE X a ta)(f:PE X b tb)(g:PlainIx b:=by exact λ _ _=>rfl):PE X (.Subscript a b pos) (tOp r ta tb):=by
 intro c s h H Q m n;exact FK (binT e f m n λ v u i x y j k l ry q=>d a b c i h j x y v u Q k l ry q (g _ _))
def rIxL (K:FrG):R2:=λ x y H Q=>∃p xs i v,x=.ref p/\y=.int i/\SqL K H p xs/\atI xs i=some v/\Q v H
def rIxT (K:FrG):R2:=λ x y H Q=>∃p xs i v,x=.ref p/\y=.int i/\SqT K H p xs/\atI xs i=some v/\Q v H
def rIxS:R2:=λ x y H Q=>∃d i c,x=.str d/\y=.int i/\d.length<=Y7/\atI d.cps.toList i=some c/\Q (.str ⟨#[c]⟩) H
theorem ix_list:IxR X (rIxL X.K):=by
 intro n o c s g H x y v u Q F z ry G h;obtain ⟨p,xs,i,I,rfl,rfl,A,B,q⟩:=G;cases z
 obtain ⟨t,rfl⟩:=ry;obtain ⟨its,r,pl,J⟩:=F.list A;obtain ⟨j,d,C,L,D,E⟩:=Q3 B;obtain ⟨w,k,l⟩:=r.get C;have hl:=r.length;have M:=line63;have e:EP X c g Q w s:=⟨I,H,F,l,q⟩;by_cases m:0<=i
 ·have f:i.toNat=j:=by
   rw [seqIndex_of m E] at d;exact XY d
  exact item_listR pl.isList m (by omega) (by rw [f];simpa using k) e h
 ·have f:(i+(its.toArray.size:Int)).toNat=j:=by
   rw [seqIndex_neg (by omega) D] at d
   rw [ZI,<- hl];exact XY d
  exact subscriptTail_builtinR (x:=w) pl.isList.typeIs GM.lookup
   (wpAny_getItem_list_neg (Q:=λ r s'=>r=w/\EP X c g Q r s') pl.isList (by omega) (by rw [ZI]<;>omega) (by omega) (by rw [f];simpa using k) ⟨rfl,e⟩) h
theorem ix_tup:IxR X (rIxT X.K):=by
 intro g h c s d H x y v u Q B k ry C l;obtain ⟨p,xs,i,D,rfl,rfl,m,n,q⟩:=C;cases k
 obtain ⟨t,rfl⟩:=ry;obtain ⟨its,r,pl,E⟩:=B.tuple m;obtain ⟨j,o,z,F,G,I⟩:=Q3 n;obtain ⟨w,A,e⟩:=r.get z;have hl:=r.length;have J:=line63;have f:EP X c d Q w s:=⟨D,H,B,e,q⟩;exact subscriptTail_builtinR (x:=w) pl.typeIs slot_tuple_getitem.lookup
  (getItem_tuple (j:=j) (Q:=λ r s'=>r=w/\EP X c d Q r s') pl (by omega) (by omega) (by rw [ZI,<- hl];exact o) (by simpa using A) ⟨rfl,f⟩) l
theorem pC:IxR X rIxS:=by
 intro e f g s w H x y v u Q r h ry z k;obtain ⟨l,i,c,rfl,rfl,A,m,q⟩:=z;obtain ⟨t,rfl⟩:=h;obtain ⟨t',rfl⟩:=ry;obtain ⟨j,d,n,B,o,p⟩:=Q3 m;have hl:l.cps.toList.length=l.length:=by simp [Str.length]
 rw [hl] at d o p;have C:=line63;exact tail_any (yv s l t) slot_str_getitem.lookup (getItem_str (c:=c) (by
  have e1:decide (i < -(2 ^ 63:Int))=false:=decide_eq_false (by omega)
  have e2:decide (i≥2 ^ 63)=false:=decide_eq_false (by omega)
  rw [e1,e2,Bool.or_false]) (by rw [d];simpa using n) ⟨.str ⟨#[c]⟩,H,r.tok _,⟨⟨_,WS r.tk⟩,rfl⟩,q⟩) k
def rIx (K:FrG):R2:=λ x y H Q=>rIxL K x y H Q\/rIxT K x y H Q\/rIxS x y H Q
theorem aN:IxR X (rIx X.K):=ix_list.or (ix_tup.or pC)
theorem lF (its:List Value)(n j:Nat)(u:Value):xb (·.setIfInBounds j u) { cls:=.type "list",data:=.seq its.toArray n }={ cls:=.type "list",data:=.seq (its.set j u).toArray n }:=by
 simp [xb]
theorem Inv.lst {c:List (Addr×Obj)}{d:St}{H:Hp}{s:X2}{p:Addr}{xs:List V}(f:Inv X c d H s)(g:H p=some (.lst xs)):
  ∃(its:List Value) (n:Nat),Vals xs its/\s.heap.get? p=some { cls:=.type "list",data:=.seq its.toArray n }/\xs.length<=Y7:=by
 obtain ⟨h,its,n,r,e⟩:=f.hok p _ g;exact ⟨its,n,r,e,h⟩
theorem Inv.lstUpd {c:List (Addr×Obj)}{h:St}{H:Hp}{s:X2}{p:Addr}{xs d:List V}{its its':List Value}{n g:Nat}{f:Obj->Obj}(l:Inv X c h H s)(m:H p=some (.lst xs))
  (i:s.heap.get? p=some { cls:=.type "list",data:=.seq its.toArray n }) (hf:f { cls:=.type "list",data:=.seq its.toArray n }={ cls:=.type "list",data:=.seq its'.toArray g }) (r:Vals d its') (j:d.length<=Y7) (t:Nat) (ht:1<=t:=by first | assumption | exact Inv.tk (by assumption) | exact YI _ _ | omega):
  Inv X c h (upd H p (.lst d)) { s with heap:=s.heap.update p f,toks:=t }:=by
 have e:(s.heap.update p f).get? p=some { cls:=.type "list",data:=.seq its'.toArray g }:=by
  rw [FS f i (by rw [hf]<;>rfl),hf]
 refine l.write (x:=p) (e:=p) (by rw [m];trivial) (.inl rfl) (λ b u k q=>(wr _ _ (QO k)).trans q) ⟨_,e⟩ ?_
 exact ⟨j,its',g,r,e⟩
def rSetL:V->V->V->Hp->(Hp->Prop)->Prop:=λ o i v H Q=>∃p xs k j,o=.ref p/\i=.int k/\H p=some (.lst xs)/\ixN xs.length k=some j/\Q (upd H p (.lst (xs.set j v)))
theorem JQ:PSet X rSetL:=by
 intro d s x H o i v E F u Q D y z A G;obtain ⟨p,xs,k,j,rfl,rfl,g,B,q⟩:=G;cases y
 obtain ⟨t,rfl⟩:=z;obtain ⟨its,n,r,e,C⟩:=D.lst g;obtain ⟨c,I,h,l⟩:=Xn B;have hl:=r.length;have J:=line63;have m:Inv X d x (upd H p (.lst (xs.set j v))) { s with heap:=s.heap.update p (xb (·.setIfInBounds j u)) }:=
  D.lstUpd g e (lF its n j u) (r.set A j) (by rw [jv];exact C) s.toks
 by_cases w:0<=k
 ·have f:k.toNat=j:=by
   rw [seqIndex_of w l] at c;exact XY c
  exact PySem.W.ki_setAt e w (by omega) (by rw [ZI,<- hl];exact l) (by rw [f];exact ⟨_,m,q⟩)
 ·have f:(k+(its.toArray.size:Int)).toNat=j:=by
   rw [seqIndex_neg (by omega) h] at c
   rw [ZI,<- hl];exact XY c
  exact PySem.W.ki_setBack e (by omega) (by rw [ZI,<- hl];exact h) (by omega) (by rw [f];exact ⟨_,m,q⟩)
theorem AG7 (lo c:Option Int)(n:Nat):(UA lo c none n).1=((HT.sIx n 0 lo:Nat):Int)/\(UA lo c none n).2.1=((HT.sIx n n c:Nat):Int)/\(UA lo c none n).2.2=1:=by
 refine ⟨?_,?_,rfl⟩
 ·cases lo with
  | none=>simp [UA,HT.sIx]
  | some i=>
   simp only [UA,HT.sIx,Option.getD_none,show (1:Int) > 0 by decide,if_true]
   by_cases d:i < 0
   ·simp only [d,if_true]<;>omega
   ·simp only [d,if_false]<;>omega
 ·cases c with
  | none=>simp [UA,HT.sIx]
  | some i=>
   simp only [UA,HT.sIx,Option.getD_none,show (1:Int) > 0 by decide,if_true]
   by_cases d:i < 0
   ·simp only [d,if_true]<;>omega
   ·simp only [d,if_false]<;>omega
theorem sr (its:List Value)(lo c:Option Int):NS its.toArray lo c none=((its.drop (HT.sIx its.length 0 lo)).take (HT.sIx its.length its.length c - HT.sIx its.length 0 lo)).toArray:=by
 obtain ⟨d,e,f⟩:=AG7 lo c its.toArray.size;unfold NS;rw [d,e,f];simp only [sliceRange_one,pick_run,ZI]<;>rfl
def rSlL (K:FrG):V->Option Int->Option Int->Hp->VK->Prop:=λ x lo c H Q=>∃a xs,x=.ref a/\SqL K H a xs/\∀p,H p=none->Q (.ref p) (upd H p (.lst (cutV xs lo c)))
theorem Fg:SlR X (rSlL X.K):=by
 intro e s l H x v m n lo c p Q f g h pl i t;obtain ⟨a,xs,rfl,j,q⟩:=t;cases g
 obtain ⟨its,r,ht,k⟩:=f.list j;have d:=r.length;refine ⟨"list",_,GM.lookup,ht.isList.typeIs,?_⟩;refine wpAny_getItem_list_slice ht.isList h pl i .none (by simp) ?_ (by rw [ZI]<;>omega)
 rw [sr,<- d];refine ⟨.ref s.heap.objs.size,_,f.laid (t':=s.toks) (o:=.lst (cutV xs lo c)) (λ b u q=>Za _ q) (Zj _) ?_,rfl,q _ (f.hok.fresh (Zj _))⟩
 exact ⟨U1 (aP xs lo c) k,_,0,(r.drop (HT.sIx xs.length 0 lo)).take (HT.sIx xs.length xs.length c - HT.sIx xs.length 0 lo),XB _ rfl⟩
def flatV:V->Bool
 | .non=>true
 | .bl _=>true
 | .int _=>true
 | .str _=>true
 | _=>false
def eqV:V->V->Bool
 | .non,.non=>true
 | .bl a,.bl b=>a == b
 | .bl a,.int b=>(if a then 1 else 0) == b
 | .int a,.bl b=>a == (if b then 1 else 0)
 | .int a,.int b=>a == b
 | .str a,.str b=>a == b
 | _,_=>false
theorem wy {A:XU}{s:X2}{y x:V}{u v:Value}(ry:RelV y u)(c:RelV x v)(e:flatV y=true)(d:flatV x=true):WW A s u v (eqV y x):=by
 cases y with
 | non=>
  cases ry
  cases x with
  | non=>cases c;exact WW.same _
  | bl b=>cases c;exact WW.none_bool b
  | int b=>obtain ⟨t,rfl⟩:=c;exact WW.none_int b t
  | str b=>obtain ⟨t,rfl⟩:=c;exact WW.none_str b t
  | _=>exact absurd (show false=true from d) Zo
 | bl a=>
  cases ry
  cases x with
  | non=>cases c;exact WW.bool_none a
  | bl b=>cases c;exact WW.bool_bool a b
  | int b=>obtain ⟨t,rfl⟩:=c;exact WW.bool_int a b t
  | str b=>obtain ⟨t,rfl⟩:=c;exact WW.bool_str a b t
  | _=>exact absurd (show false=true from d) Zo
 | int a=>
  obtain ⟨t',rfl⟩:=ry;cases x with
  | non=>cases c;exact WW.int_none a t'
  | bl b=>cases c;exact WW.int_bool a t' b
  | int b=>obtain ⟨t,rfl⟩:=c;exact WW.int_int a t' b t
  | str b=>obtain ⟨t,rfl⟩:=c;exact Md a t' b t
  | _=>exact absurd (show false=true from d) Zo
 | str a=>
  obtain ⟨t',rfl⟩:=ry;cases x with
  | non=>cases c;exact WW.str_none a t'
  | bl b=>cases c;exact WW.str_bool a t' b
  | int b=>obtain ⟨t,rfl⟩:=c;exact Me a t' b t
  | str b=>obtain ⟨t,rfl⟩:=c;exact WW.str_str a t' b t
  | _=>exact absurd (show false=true from d) Zo
 | _=>exact absurd (show false=true from e) Zo
def eqU (x:V)(u:Value):Bool:=match u with
 | .none=>eqV .non x
 | .bool b=>eqV (.bl b) x
 | .int i _=>eqV (.int i) x
 | .str c _=>eqV (.str c) x
 | _=>false
theorem Zy {x y:V}{u:Value}(r:RelV y u)(f:flatV y=true):eqU x u=eqV y x:=by
 cases y with
 | non=>cases r;rfl
 | bl b=>cases r;rfl
 | int i=>obtain ⟨t,rfl⟩:=r;rfl
 | str c=>obtain ⟨t,rfl⟩:=r;rfl
 | _=>exact absurd (show false=true from f) Zo
theorem Tr {x:V}:∀{xs:List V} {us:List Value},Vals xs us->xs.all flatV=true->us.any (eqU x)=xs.any λ y=>eqV y x
 | _,_,.nil,_=>rfl
 | y::xs,u::us,.cons r t,f=>by
  rw [GO,Qv] at f;rw [xD,xD,Zy r f.1,Tr t f.2]
theorem Ql {A:XU}{s:X2}{x:V}{v:Value}(d:RelV x v)(e:flatV x=true):∀{xs:List V} {us:List Value},Vals xs us->xs.all flatV=true->∀u∈us,WW A s u v (eqU x u)
 | _,_,.nil,_=>λ u c=>by cases c
 | y::xs,u::us,.cons r t,f=>λ g c=>by
  rw [GO,Qv] at f;rcases W4.mp c with rfl | c
  ·rw [Zy r f.1];exact wy r d f.1 e
  ·exact Ql d e t f.2 g c
def inV (x:V)(xs:List V):Bool:=xs.any λ y=>eqV y x
def rIn (K:FrG)(neg:Bool):R2:=λ x y H Q=>∃p xs,y=.ref p/\(SqL K H p xs\/SqT K H p xs)/\flatV x=true/\xs.all flatV=true/\Q (.bl (if neg then !inV x xs else inV x xs)) H
theorem oZ:OpR X (UN .In) (rIn X.K false):=by
 intro h s j H x y v u Q g e ry k;obtain ⟨p,xs,rfl,c,f,fs,q⟩:=k;cases ry
 rcases c with c | c
 ·obtain ⟨its,r,pl,i⟩:=g.list c;refine SeqAt.in_listAt (eqU x) pl.isList (λ w d=>Ql e f r fs w (by simpa using d)) ⟨.bl _,H,g,rfl,?_⟩
  rw [show its.toArray.any (eqU x)=its.any (eqU x) by simp,Tr r fs]
  exact q
 ·obtain ⟨its,r,pl,i⟩:=g.tuple c;refine SeqAt.in_tupleAt (eqU x) pl (λ w d=>Ql e f r fs w (by simpa using d)) ⟨.bl _,H,g,rfl,?_⟩
  rw [show its.toArray.any (eqU x)=its.any (eqU x) by simp,Tr r fs]
  exact q
theorem Cp:CallR X (.builtin "len") (λ xs H Q=>∃p d,xs=[.ref p]/\(SqL X.K H p d\/SqT X.K H p d)/\Q (.int d.length) H):=by
 intro h s k H xs us Q g r l;obtain ⟨p,d,rfl,e,q⟩:=l;obtain ⟨u,rfl,i⟩:=vals1 r;cases i
 have m:=line63;rcases e with e | e
 ·obtain ⟨its,f,pl,j⟩:=g.list e;have c:=f.length;exact Calls.call_len_list pl.isList (by simp only [ZI]<;>omega) ⟨.int d.length,H,g.tok _,⟨s.toks+1,by rw [ZI,c]⟩,q⟩
 ·obtain ⟨its,f,pl,j⟩:=g.tuple e;have c:=f.length;exact len_tuple pl (by simp only [ZI]<;>omega) ⟨.int d.length,H,g.tok _,⟨s.toks+1,by rw [ZI,c]⟩,q⟩
theorem aR:CallR X (.builtin "len") (λ xs H Q=>∃c,xs=[.str c]/\c.length<=Y7/\Q (.int c.length) H):=by
 intro d s e H xs us Q f r g;obtain ⟨c,rfl,h,q⟩:=g;obtain ⟨u,rfl,t,rfl⟩:=vals1 r;have i:=line63;exact len_str (by omega) ⟨.int c.length,H,f.tok _,⟨_,rfl⟩,q⟩
def tyV (K:FrG)(T:String)(x:V)(H:Hp):Prop:=match x with
 | .str _=>T="str"
 | .int _=>T="int"
 | .ref p=>(T="list"/\∃xs,SqL K H p xs)\/(T="tuple"/\∃o,K.lookup p=some o/\o.cls=.type "tuple"/\o.dict=none)\/
   (T="dict"/\((∃c,H p=some (.dK c))\/∃c,H p=some (.dT c)))\/(T="set"/\∃d n,H p=some (.set d n))
 | _=>False
theorem fX {g:List (Addr×Obj)}{l:St}{H:Hp}{s:X2}{T:String}{x:V}{v:Value}(h:Inv X g l H s)(r:RelV x v)(f:tyV X.K T x H):
  s.TypeIs v T/\∀a,v=.ref a->∃j,s.heap.get? a=some j/\j.dict=none:=by
 cases x with
 | str m=>
  obtain ⟨t,rfl⟩:=r;cases (show T="str" from f)
  exact ⟨yv s m t,λ _ e=>nomatch e⟩
 | int i=>
  obtain ⟨t,rfl⟩:=r;cases (show T="int" from f)
  exact ⟨typeIs_int s i t,λ _ e=>nomatch e⟩
 | ref p=>
  cases r
  rcases f with ⟨rfl,xs,q⟩ | ⟨rfl,o,d,u,hd⟩ | ⟨rfl,d⟩ | ⟨rfl,w,n,d⟩
  ·obtain ⟨its,_,pl,_⟩:=h.list q;refine ⟨pl.isList.typeIs,λ a e=>?_⟩
   cases e
   obtain ⟨o,n,e,c,hd,_⟩:=pl;exact ⟨o,e,hd⟩
  ·refine ⟨⟨o,h.kIn p o d,u⟩,λ a e=>?_⟩
   cases e
   exact ⟨o,h.kIn _ o d,hd⟩
  ·have m:∃o,s.heap.get? p=some o/\o.ExactDict:=by
    rcases d with ⟨k,d⟩ | ⟨k,d⟩
    ·obtain ⟨_,_,_,_,o,_,_,e,ex,_⟩:=h.hok p _ d;exact ⟨o,e,ex⟩
    ·obtain ⟨_,_,_,_,o,_,_,e,ex,_⟩:=h.hok p _ d;exact ⟨o,e,ex⟩
   obtain ⟨o,e,ex⟩:=m;refine ⟨⟨o,e,ex.1⟩,λ a e2=>?_⟩
   cases e2
   exact ⟨o,e,ex.2.1⟩
  ·obtain ⟨o,_,_,_,e,ex,_⟩:=h.hok p _ d;refine ⟨⟨o,e,ex.1⟩,λ a e2=>?_⟩
   cases e2
   exact ⟨o,e,ex.2.1⟩
 | _=>exact UH f
def tBM (K:FrG)(T:String)(r:V->List V->Hp->VK->Prop)(e:TE)(t:TA):TE:=λ c H Q=>e c H λ x d=>tyV K T x d/\t c d λ xs f=>r x xs f Q
variable {o e:Expr}{es:List Expr}{to:TE}{t:TA}{name:Str}{apos cpos:Pos}{T id:String}{r:V->List V->Hp->VK->Prop}
theorem CT (n:PlainAttrs T)(slot:Slot T name id)(j:typeOf (.builtin id)=pure (.type "method_descriptor"))(p:MtR X id r)(q:PE X o to)(u:PA X (e::es) t)
  (f:xJ o name X.env (eval o X.env)=eval o X.env:=by rfl)
  (h:((yq cpos (Xa (e::es) X.env)).all (λ x=>!x.1) && (NL cpos (jp [] X.env)).all (λ x=>x.1.isSome)
   && decide ((e::es).length+([]:List NU).length+(if ([]:List NU).isEmpty then 0 else 1) < 30))=true:=by rfl)
  (g:(apos.endLine == cpos.line)=true:=by rfl) (w:Xa (e::es) X.env=(false,eval e X.env)::Xa es X.env:=by rfl) (d:(yq cpos (Xa es X.env)).any (·.1)=false:=by rfl):
  PE X (.Call (.Attribute o name apos) (e::es) [] cpos) (tBM X.K T r to t):=by
 intro c s i H Q L M;refine wpAny_Call_method_late f h g rfl (thn (q c s i H _ L M) λ v y ⟨x,z,k,l,A,B⟩=>?_)
 obtain ⟨C,D⟩:=fX k l A;refine ⟨T,id,n,slot,j,C,D,?_⟩;have m:=u cpos c y i z _ k B;rw [w] at m ⊢;refine wt (by show (false || (yq cpos (Xa es X.env)).any (·.1))=false;rw [d]<;>rfl) (uI ?_)
 exact thn m λ us E ⟨vs,F,G,I,J⟩=>p c E i F x vs v us Q G l I J
end
def MtM (X:Cx)(id:String)(r:V->List V->Hp->VK->Prop):Prop:=
 ∀(a:List (Addr×Obj)) (s:X2) (b:St) (H:Hp) (x:V) (xs:List V) (v:Value) (us:List Value) (Q:VK),Inv X a b H s->RelV x v->Vals xs us->r x xs H Q->
  wpAny (model X.prog X.w) X.A (call (.builtin id) (v::us)) (EP X a b Q) X.xe s
theorem Vals.one:∀{x:V} {us:List Value},Vals [x] us->∃u,us=[u]/\RelV x u
 | _,_,.cons r .nil=>⟨_,rfl,r⟩
theorem Vals.reverse {xs:List V}{us:List Value}(b:Vals xs us):Vals xs.reverse us.reverse:=by
 induction b with
 | nil=>exact .nil
 | cons r t a=>rw [JI,JI];exact Vals.append a (.cons r .nil)
theorem Vals.rep {xs:List V}{us:List Value}(a:Vals xs us):∀k:Nat,Vals (Xt k xs).flatten (Xt k us).flatten
 | 0=>.nil
 | k+1=>by
  rw [zw,zw,JJ,JJ];exact Vals.append a (Vals.rep a k)
theorem ZC (its:List Value):∀(k:Nat) (a:List Value),
  List.foldl (λ b c=>b++c) a.toArray (Xt k its.toArray)=(a++(Xt k its).flatten).toArray
 | 0,a=>by simp
 | k+1,a=>by
  have e:a.toArray++its.toArray=(a++its).toArray:=by simp
  have e2:(a++its)++(Xt k its).flatten=a++(Xt (k+1) its).flatten:=by
   rw [zw,JJ,YA]
  rw [<- e2,<- ZC its k (a++its),<- e,zw,List.foldl_cons]
section
variable {X:Cx}{pins:List (Addr×Obj)}{σ:St}{H:Hp}{s:X2}{l b:Addr}{xs ys zs:List V}
theorem Inv.lset {its its':List Value}{n:Nat}{f:Array Value->Array Value}{t':Nat}(h:Inv X pins σ H s)(a:H l=some (.lst xs))
  (e:s.heap.get? l=some { cls:=.type "list",data:=.seq its.toArray n }) (hf:f its.toArray=its'.toArray) (hv:Vals ys its') (c:ys.length<=Y7) (ht:1<=t':=by first | assumption | exact Inv.tk (by assumption) | exact YI _ _ | omega):
  Inv X pins σ (upd H l (.lst ys)) { s with heap:=s.heap.update l (xb f),toks:=t' }:=by
 have q:=PySem.IsL.update e f;rw [hf] at q;refine h.write (x:=l) (e:=l) (by rw [a];exact trivial) (.inl rfl) (λ i u d g=>(wr s.heap (xb f) (QO d)).trans g) ⟨_,q⟩ ?_
 exact ⟨c,its',_,hv,q⟩
theorem Inv.lnew {its:List Value}{t':Nat}(c:Inv X pins σ H s)(hv:Vals ys its)(a:ys.length<=Y7)(ht:1<=t':=by first | assumption | exact Inv.tk (by assumption) | exact YI _ _ | omega):
  Inv X pins σ (upd H s.heap.objs.size (.lst ys)) { s with heap:=s.heap.push { cls:=.type "list",data:=.seq its.toArray },toks:=t' }:=
 c.laid (λ _ _ q=>Za _ q) (Zj _) ⟨a,its,0,hv,XB _ rfl⟩
theorem Inv.fresh (a:Inv X pins σ H s):H s.heap.objs.size=none:=a.hok.fresh (Zj _)
theorem Inv.lstM (c:Inv X pins σ H s)(a:H l=some (.lst xs)):xs.length<=Y7/\∃(its:List Value) (n:Nat),Vals xs its/\xs.length=its.length/\s.heap.get? l=some { cls:=.type "list",data:=.seq its.toArray n }:=by
 obtain ⟨d,its,n,r,e⟩:=c.hok l _ a;exact ⟨d,its,n,r,r.length,e⟩
theorem notLongL {n:Nat}(a:n<=Y7):zl n=false:=by
 unfold zl;exact decide_eq_false (by omega)
end
section
variable {X:Cx}
def rAppend:V->List V->Hp->VK->Prop:=λ x vs H Q=>∃l xs y,x=.ref l/\vs=[y]/\H l=some (.lst xs)/\xs.length < Y7/\Q .non (upd H l (.lst (xs++[y])))
theorem Ga:MtM X "list.append" rAppend:=by
 intro b s h H x vs v us Q g c d i;obtain ⟨l,xs,y,rfl,rfl,a,j,q⟩:=i;cases c
 obtain ⟨u,rfl,f⟩:=d.one;obtain ⟨k,its,n,r,hl,e⟩:=g.lstM a;refine xk F.slot_list_append ⟨_,e,rfl⟩ F.entry_list_append (F.args_list_append_2 _ _) (PySem.list_append l its.toArray n u (by rw [ZI];omega)) ⟨e,?_⟩
 refine ⟨.non,_,g.lset (its':=its++[u]) a e (by simp) (r.append (.cons f .nil)) ?_,rfl,q⟩
 rw [X9,List.length_singleton];omega
def rExtend:V->List V->Hp->VK->Prop:=λ x vs H Q=>∃l b xs zs,x=.ref l/\vs=[.ref b]/\H l=some (.lst xs)/\H b=some (.lst zs)/\xs.length+zs.length<=Y7/\Q .non (upd H l (.lst (xs++zs)))
theorem kY:MtM X "list.extend" rExtend:=by
 intro f s t H x vs v us Q g h i w;obtain ⟨l,b,xs,zs,rfl,rfl,d,j,y,q⟩:=w;cases h
 obtain ⟨u,rfl,k⟩:=i.one;cases k
 obtain ⟨A,its,n,r,hl,e⟩:=g.lstM d;obtain ⟨z,a,m,o,p,e2⟩:=g.lstM j;have hsz:its.toArray.size+a.toArray.size<=Y7:=by rw [ZI,ZI];omega
 have c:¬ (!its.toArray.isEmpty && zl (its.toArray.size+a.toArray.size))=true:=by
  rw [notLongL hsz,Bool.and_false];exact Zo
 refine xk F.slot_list_extend ⟨_,e,rfl⟩ F.entry_list_extend (F.args_list_extend_2 _ _)
  (AutoSeq1.list_extend_list_list_0 l its.toArray n b a.toArray m c (by rw [ZI];omega) (by omega)) ⟨e,e2,?_⟩
 refine ⟨.non,_,g.lset (its':=its++a) d e (by simp) (r.append o) ?_,rfl,q⟩
 rw [X9];omega
def rCat:R2:=λ x y H Q=>∃l b xs zs,x=.ref l/\y=.ref b/\H l=some (.lst xs)/\H b=some (.lst zs)/\xs.length+zs.length<=Y7/\∀p,H p=none->Q (.ref p) (upd H p (.lst (xs++zs)))
theorem G5:OpR X (zh .Add) rCat:=by
 intro d s m H x y v u Q c f ry o;obtain ⟨l,b,xs,zs,rfl,rfl,g,h,p,q⟩:=o;cases f
 cases ry
 obtain ⟨z,its,n,r,hl,e⟩:=c.lstM g;obtain ⟨t,a,w,i,k,e2⟩:=c.lstM h;refine PySem.P.add_list e e2 ?_ (by rw [ZI,ZI];omega)
 have j:its.toArray++a.toArray=(its++a).toArray:=by simp
 rw [j];exact ⟨.ref _,_,c.lnew (t':=s.toks) (r.append i) (by rw [X9];omega),rfl,q _ c.fresh⟩
def rRep:R2:=λ x y H Q=>∃l k xs,x=.ref l/\y=.int k/\H l=some (.lst xs)/\-(2 ^ 63)<=k/\k < 2 ^ 63/\xs.length * k.toNat<=Y7/\
 ∀p,H p=none->Q (.ref p) (upd H p (.lst (Xt k.toNat xs).flatten))
theorem vo {a:Type}(xs:List a)(k:Nat):(Xt k xs).flatten.length=k * xs.length:=by
 induction k with
 | zero=>simp
 | succ k b=>rw [zw,JJ,X9,b,FA,qc]
theorem rC:OpR X (zh .Mult) rRep:=by
 intro o s D H x y v u Q p w ry E;obtain ⟨l,k,xs,rfl,rfl,z,A,B,j,q⟩:=E;cases w
 obtain ⟨t,rfl⟩:=ry;obtain ⟨I,its,n,r,hl,e⟩:=p.lstM z;have c:its.toArray.size * k.toNat<=Y7:=by rw [ZI,<- hl];exact j
 have d:¬ its.toArray.size * k.toNat > (2 ^ 63 - 1) / 8:=by
  have:(Y7:Nat)<=(2 ^ 63 - 1) / 8:=by decide
  omega
 have f:¬ (!Builtin.List.listFitsIndex k)=true:=by
  rw [fitsIndex_both A B];exact Zo
 have b:¬ zl (its.toArray.size * k.toNat)=true:=by
  rw [notLongL c];exact Zo
 have g:List.foldl (λ h i=>h++i) #[] (Xt (if its.toArray.isEmpty=true then 0 else k.toNat) its.toArray)=(Xt k.toNat its).flatten.toArray:=by
  have C:∀m:Nat,List.foldl (λ h i=>h++i) #[] (Xt m its.toArray)=(Xt m its).flatten.toArray:=λ m=>by
   have:=ZC its m [];rw [JO] at this;exact this
  rw [C];cases its with
  | nil=>simp
  | cons a G=>rw [if_neg (by simp)]
 refine wpAny_binaryOp_repeat_ref (T:="list") (U:="int") (by decide) ⟨_,e,rfl⟩ (λ s'=>typeIs_int s' k t) noFill_list_mul F.fills_int_mul F.slot_int_rmul repeat_list F.slot_int_index.lookup
  (xk F.slot_int_rmul (typeIs_int s k t) F.entry_int_rmul (F.args_int_rmul_2 _ _) (int___rmul___int_list k t l its.toArray n)
   ⟨e,rfl,⟨_,e,rfl⟩,xk F.slot_list_mul ⟨_,e,rfl⟩ F.entry_list_mul (F.args_list_mul_2 _ _) (AutoListH.list___mul___list_int_3 l its.toArray n k t f d b) ⟨e,?_⟩⟩)
 rw [g];exact ⟨.ref _,_,p.lnew (t':=s.toks) (r.rep k.toNat) (by rw [vo,Nat.mul_comm];exact j),rfl,q _ p.fresh⟩
end
end L2
namespace Att
open PySem PySem.W PySem.Calls PyProof.Rows
theorem vg {P:GU}{d:Heap}:∀(ns:List Int) (vs:List Value),WellAll P d vs (ns.map WData.int)->IntsAre vs ns:=by
 intro ns
 induction ns with
 | nil=>
  intro vs w;rw [xp] at w;cases w
  exact .nil
 | cons n ns c=>
  intro vs w;rw [YU] at w;cases w with
  | cons a b=>
   cases a
   exact .cons _ _ (c _ b)
theorem AL0 {l:OpenLaw}{n:Nat}(m:l.most=some n){P:GU}{x:Heap}{args:List WData}{b:List Value}
  (c:l.row.toRowW.claim.pre args=true) (i:WellAll P x b args):
  ∃a vs ns,b=[WG a]/\args=[WData.list (ns.map WData.int)]/\x.get? a=some { cls:=.type "list",data:=.seq vs.toArray }/\IntsAre vs ns/\ns.length<=n:=by
 have j:WShape.hasAll [] args [.list .int]=true:=(pre_splitW c).1;have k:l.pre.holds [] { args:=args }=true:=(pre_splitW c).2;obtain ⟨d,r,rfl,o,p⟩:=hasAllW_cons j;obtain rfl:=hasAllW_nil p;obtain ⟨xs,rfl,s⟩:=hasW_list o;obtain ⟨ns,rfl⟩:=items_int s;have g:ns.length<=n:=by
  unfold OpenLaw.pre at k;have e:(WTm.not (.lt (.lit (.int (n:Int))) (.len (.arg 0)))).holds [] { args:=[.list (ns.map .int)] }=true:=by
   have e:=(holds_andW k).1;rw [m] at e;exact e
  have f:=condW_of e (w_not (w_lt w_lit (w_len_list (w_arg rfl))));rw [Y3] at f;refine Nat.le_of_not_lt λ q=>?_
  have t:(n:Int) < ((ns.length:Nat):Int):=by omega
  first
   | (rw [decide_eq_true t] at f;exact absurd f (by decide))
   | (simp at f;omega)
 cases i with
 | cons u v=>
  cases v
  cases u with
  | list w h=>exact ⟨_,_,ns,rfl,rfl,w,vg ns _ h,g⟩
theorem pD (l:OpenLaw)(args:List WData):l.row.toRowW.claim.post args (.bool true) args=true:=
 postW_of (r:=l.row.toRowW) (X:=(true == true))
  (show WShape.has [] (.bool true) .bool=true by first | rfl | decide | simp [WShape.has,WShape.arms,WShape.armsAll])
  (show (WTm.eq .res (.lit (.bool true))).value [] { args:=args,res:=some (.bool true),after:=args }=some (.bool (true == true)) from w_eq_bool (w_res rfl) w_lit) rfl
theorem zZ {l:OpenLaw}{n:Nat}{q:ZY}{c:List Str}{t:(Str->Option Value)->Heap->Prop}{u:World->Heap->Prop}{d:DefRec}
  (B:l.most=some n) (v:d.params.defaults=[])
  (call:∀(w:World) (s₀ b:X2) (mg j:Str->Option Value) (e:Addr) (o:Obj) (k h g:Value) (a:Addr) (vs:List Value) (ns:List Int),
   Ground q c [] t w s₀ mg j b.heap->u w b.heap->
   b.heap.get? e=some o->o.data=.func (docDef d.name d.params d.body d.scope k h g)->b.heap.CodeRec h d.name->mg d.name=some (.ref e)->
   b.heap.get? a=some { cls:=.type "list",data:=.seq vs.toArray }->IntsAre vs ns->ns.length<=n->b.gens=#[]->
   uu (model l.prog w) NV (.call (.ref e) ⟨[.ref a],[]⟩) (λ r s'=>r=.ok (.ret (.bool true))/\OldK b.heap s'.heap/\s'.os=b.os/\wT s'.gens) b):
  WalkO q c t u l.row.toRowW d [] (λ f vs=>PySem.call f vs):=by
 intro w s₀ b mg j O P e o k h g C kV D hd x y z E args F Q m G M A N;obtain rfl:C=.none:=Dflts.none y v;obtain rfl:kV=.none:=Dflts.noKw y;obtain ⟨a,vs,ns,rfl,rfl,p,i,s⟩:=AL0 B m A;refine enter_call (qh (call w s₀ b mg j e o k h g a vs ns O P D (fd_plain hd) x z p i s E) λ r s' H=>?_)
 obtain ⟨rfl,I,J,K⟩:=H;exact ⟨.inl ⟨.bool true,.bool true,[],rfl,λ _=>rfl,.bool true,pD l _,λ _=>⟨ME,λ _ L=>(nomatch L)⟩⟩,I,J,K⟩
end Att
namespace L2
open PySem PySem.Spec PyProof.Rows
theorem Yo:∀{vs:List Value} {ns:List Int},IntsAre vs ns->Vals (ns.map V.int) vs
 | _,_,.nil=>.nil
 | _,_,.cons n t a=>.cons ⟨t,rfl⟩ (Yo a)
def Only (H:Hp):Prop:=∀b,H b=none\/∃o xs,H b=some (.frz o (.lst xs))
theorem ud {P:ZY}{w:World}{K:FrG}{mg A:Str->Option Value}{CX:CXT}{k:Nat}{B a:Addr}{fd:UE}{x:Str}{sp:Sp}{c:X2}{vs:List Value}{ns:List Int}
  (J:K.In c.heap) (y:c.heap.Ns Zi mg) (f:c.heap.Ns builtinsNs A) (L:∀x:Str,x≠"__name__"->A x=WT x) (C:c.heap.NoLimit) (W:c.gens=#[])
  (p:c.heap.get? a=some { cls:=.type "list",data:=.seq vs.toArray }) (M:IntsAre vs ns) (hl:ns.length<=Y7) (X:Room k NV)
  (a9:∀base:Heap,K.In base->base.Ns Zi mg->FnOk P w K mg base CX k B fd [x] sp) (t:∀(s:X2) (u:Value),NR s fd ⟨[u],[]⟩ [(x,u)])
  (N:∀H:Hp,Only H->SqL K H a (ns.map V.int)->sp [.ref a] H (λ v _=>v=.bl true) λ _ _ _=>False)
  (O:∀H e s',CX [] H c (λ _ _ _=>False) e s'->False) (D:fd.scope.names.lookup x=some .local):
  uu (model P w) NV (.call (.ref B) ⟨[.ref a],[]⟩) (λ r s'=>r=.ok (.ret (.bool true))/\OldK c.heap s'.heap/\s'.os=c.os/\wT s'.gens) c:=by
 have Q:=Yo M;have E:=M.length;have core:∀H:Hp,Only H->SqL K H a (ns.map V.int)->HOk P w H c.heap->(∀b,H b≠none->b=a)->(H a≠none->K.lookup a=none)->
   uu (model P w) NV (.call (.ref B) ⟨[.ref a],[]⟩) (λ r s'=>r=.ok (.ret (.bool true))/\OldK c.heap s'.heap/\s'.os=c.os/\wT s'.gens) c:=by
  intro H R Y hok S Z;have g:∀{b:Addr} {o:Obj},c.heap.get? b=some o->H b=none->(hidT c.heap H).get? b=some o:=λ e n=>tQ e n
  have T:∀{b:Addr} {o:Obj} {es:Array uk} {j:Nat},c.heap.get? b=some o->o.data=.dict es j->H b=none:=λ {b o es j} e d=>by
   cases q:H b with
   | none=>rfl
   | some u=>
    have F:b=a:=S b (by rw [q];simp)
    subst F;rw [p] at e;cases e;have d':Data.seq vs.toArray _=Data.dict es j:=d;cases d'
  have i:∀{b:Addr} {m:Str->Option Value},c.heap.Ns b m->(hidT c.heap H).Ns b m:=λ {b m} ⟨o,es,j,e,d,r⟩=>⟨o,es,j,g e (T e d),d,r⟩
  have z:K.In (hidT c.heap H):=λ b o e=>g (J b o e) (by
   cases q:H b with
   | none=>rfl
   | some u=>
    have F:b=a:=S b (by rw [q];simp)
    subst F;rw [Z (by rw [q];simp)] at e;cases e)
  have a0:Mod K mg (hidT c.heap H):=⟨z,i y,⟨A,i f,L⟩,let ⟨mc,a1,a2⟩:=C;⟨mc,i a1,a2⟩⟩
  have a3:Env0 P w K mg (hidT c.heap H) NV [] c H:=⟨rfl,a0,λ b o e=>vz e,My (zq _ _),trivial,λ b f=>absurd (show b∈([]:List Addr) from f) (by simp),hok,.of_eq W⟩
  refine qh ((a9 _ z (i y)).run NV [] c H ⟨[.ref a],[]⟩ [.ref a] [.ref a] _ _ X a3 (t c (.ref a)) (.cons rfl .nil) (N H R Y) (.inr ⟨x,[],rfl,D⟩)) λ r s' U=>?_
  cases r with
  | error e=>exact (O H e s' U).elim
  | ok a4=>
   cases a4 with
   | next=>exact UH U
   | brk=>exact UH U
   | cont=>exact UH U
   | ret u=>
    obtain ⟨v,b0,os,bare,un,G,a5,q⟩:=U;have a6:v=.bl true:=q;subst a6;obtain rfl:u=Mg true:=a5;refine ⟨rfl,OldK.of_keep λ b o e=>?_,os,bare⟩
    cases q:H b with
    | none=>exact un.keep b o e q (by intro h;exact absurd (show b∈([]:List Addr) from h) (by simp)) (by simp)
    | some u=>
     rcases R b with h | ⟨a7,xs,h⟩
     ·rw [q] at h;cases h
     ·have a8:=un.frzs b a7 _ h;obtain ⟨e1,_⟩:=hok b _ h;obtain ⟨e2,_⟩:=G b _ a8;rw [e] at e1;cases e1;exact e2
 cases I:K.lookup a with
 | some o=>
  have e:=J a o I;rw [p] at e;cases e
  refine core (λ _=>none) (λ _=>.inl rfl) (.inr ⟨_,vs.toArray,_,I,rfl,rfl,rfl,by rw [ZI,E];exact hl,by simpa using Q⟩) (λ b u h=>by have l:(none:Option HO)=some u:=h;cases l) (λ b h=>absurd rfl h) λ h=>absurd rfl h
 | none=>
  refine core (λ b=>if b=a then some (.frz { cls:=.type "list",data:=.seq vs.toArray } (.lst (ns.map V.int))) else none) (λ b=>?_) (.inl (.inr ⟨{ cls:=.type "list",data:=.seq vs.toArray },if_pos rfl⟩)) (λ b u h=>?_) (λ b h=>?_) λ _=>I
  ·by_cases f:b=a
   ·exact .inr ⟨_,_,if_pos f⟩
   ·exact .inl (if_neg f)
  ·by_cases f:b=a
   ·have l:=(if_pos f).symm.trans h;cases l
    subst f;exact ⟨p,by rw [Y3];exact hl,vs,_,Q,p⟩
   ·have l:=(if_neg f).symm.trans h;cases l
  ·by_cases f:b=a
   ·exact f
   ·exact absurd (if_neg f) h
abbrev KOf {K:FrG}{a:Heap}(_:K.In a):FrG:=K
theorem walk_of {l:PySem.W.OpenLaw}{n k:Nat}{q:ZY}{h:List Str}{G:(Str->Option Value)->Heap->Prop}{t:World->Heap->Prop}{d:DefRec}{K:GU->FrG}{CX:World->CXT}{sp:World->Sp}{x:Str}
  (I:l.most=some n) (y:n<=Y7) (z:d.params.defaults=[]) (J:Room k NV)
  (L:∀(w:World) (A:Heap),t w A->(K w.params).In A)
  (U:∀(w:World) (mg:Str->Option Value) (i:Addr) (A:Heap),(K w.params).In A->A.Ns Zi mg->mg d.name=some (.ref i)->
   ∃fd:UE,((∀(s:X2) (u:Value),NR s fd ⟨[u],[]⟩ [(x,u)])/\fd.scope.names.lookup x=some .local)/\
    ∀base:Heap,(K w.params).In base->base.Ns Zi mg->FnOk l.prog w (K w.params) mg base (CX w) k i fd [x] (sp w))
  (B:∀(w:World) (H:Hp) (a:Addr) (ns:List Int),ns.length<=n->Only H->SqL (K w.params) H a (ns.map V.int)->sp w [.ref a] H (λ v _=>v=.bl true) λ _ _ _=>False)
  (C:∀(w:World) (H:Hp) (s:X2) (e:Value) (s':X2),CX w [] H s (λ _ _ _=>False) e s'->False):
  PySem.W.WalkO q h G t l.row.toRowW d [] (λ f vs=>PySem.call f vs):=by
 refine Att.zZ I z λ w s₀ m mg X i o Y Z R a vs ns D a0 a1 hd S E p j c M=>?_
 have F:=L w _ a0;obtain ⟨fd,⟨N,r⟩,O⟩:=U w mg i _ F D.T.g E;exact ud F D.T.g D.T.b D.T.builtins D.T.nolimit M p j (U1 c y) J O N (λ H P Q=>B w H a ns c P Q) (λ H e s'=>C w H m e s') r
def inClass (s:Stmt)(j:Nat):Stmt:=match s with
 | .ClassDef _ _ _ a _ _ _ _ _ _ _=>a.getD j (.Pass ⟨0,0,0,0⟩)
 | _=>.Pass ⟨0,0,0,0⟩
def defArgs (s:Stmt):Arguments:=match s with
 | .FunctionDef _ a _ _ _ _ _ _ _ _=>a
 | _=>{ posonlyargs:=[],args:=[],vararg:=none,kwonlyargs:=[],kw_defaults:=[],kwarg:=none,defaults:=[] }
def defBody (s:Stmt):List Stmt:=match s with
 | .FunctionDef _ _ b _ _ _ _ _ _ _=>b
 | _=>[]
def defScope (s:Stmt):Scope:=match s with
 | .FunctionDef _ _ _ _ _ _ a _ _ _=>a
 | _=>{ kind:=.function,names:=[],isGenerator:=false,isCoroutine:=false }
abbrev E0:XK:=λ _ _ _=>False
structure Fun (K:FrG)(x qual:Str)(st:Stmt)(f:Addr)(fd:UE):Prop where
 ex:∃(oc:Value) (od:Option Addr) (kV doc pm:Value) (an:Option Addr) (cdv ct:Value) (osl:Array (Option Value)),
  fd=YN x qual (defArgs st) (defBody st) (defScope st) .none kV doc pm an cdv ct/\K.lookup f=some ⟨oc,od,.func fd,osl⟩/\YY K cdv qual=true
 kp:YE K (.ref f)=true
section
variable {P:ZY}{w:World}{K:FrG}{mg:Str->Option Value}{base:Heap}
theorem Fun.binds {x a:Str}{st:Stmt}{f:Addr}{fd:UE}{ps:List Str}(i:Fun K x a st f fd)
  (j:∀(kV b d:Value) (e:Option Addr) (c ct:Value) (us:List Value),us.length=ps.length->jo (YN x a (defArgs st) (defBody st) (defScope st) .none kV b d e c ct) ⟨us,[]⟩=pure (ps.zip us)):Binds K fd ps []:=by
 obtain ⟨k,l,kV,b,d,e,c,ct,g,rfl,m,h⟩:=i.ex;exact .all (j kV b d e c ct)
theorem DW {x a:Str}{st:Stmt}{f:Addr}{i:Value}{j g:Option Addr}{e:Array (Option Value)}{kV d h b ct:Value}(l:K.lookup f=some ⟨i,j,.func (YN x a (defArgs st) (defBody st) (defScope st) .none kV d h g b ct),e⟩)
  (c:YY K b a=true) (k:YE K (.ref f)=true):Fun K x a st f (YN x a (defArgs st) (defBody st) (defScope st) .none kV d h g b ct):=⟨⟨i,j,kV,d,h,g,b,ct,e,rfl,l,c⟩,k⟩
end
theorem small1000 {n:Nat}(a:n<=1000):n < Y7:=wb a (by decide)
section
variable {X:Cx}
theorem pv (i:Nat){x:Str}{pos:Pos}(b:X.N[i]?=some x:=by rfl)(hv:Vis X.env.scope x:=by first | exact Or.inl rfl | exact Or.inr (Or.inl rfl) | exact Or.inr (Or.inr rfl))(hd:(x == ("__debug__":Str))=false:=by decide)
  (a:(x == ("__classdict__":Str))=false:=by decide):PE X (.Name x pos) (tVar i):=qZ b hv hd a
end
theorem iteF {A a:Prop}(b:a):if false=true then A else a:=by
 rw [if_neg Zo];exact b
theorem iteT {A a:Prop}(b:A):if true=true then A else a:=by
 rw [if_pos rfl];exact b
theorem ite2 {c A e:Prop}[Decidable c](b:c->A)(d:¬ c->e):if c then A else e:=by
 by_cases a:c
 ·rw [if_pos a];exact b a
 ·rw [if_neg a];exact d a
def Same (H a:Hp):Prop:=∀b o,H b=some o->a b=some o
theorem Same.refl (H:Hp):Same H H:=λ _ _ a=>a
theorem Same.trans {H d e:Hp}(a:Same H d)(b:Same d e):Same H e:=λ c o f=>b c o (a c o f)
theorem Same.free {H a:Hp}(e:Same H a){l:Addr}(b:a l=Option.none):H l=Option.none:=by
 cases q:H l with
 | none=>rfl
 | some o=>
  rw [e l o q] at b;cases b
theorem Same.seq {K:FrG}{H c:Hp}{a:Addr}{xs:List V}(e:Same H c)(b:SqL K H a xs):SqL K c a xs:=by
 rcases b with (b | ⟨o,b⟩) | b
 ·exact .inl (.inl (e _ _ b))
 ·exact .inl (.inr ⟨o,e _ _ b⟩)
 ·exact .inr b
section
variable {X:Cx}
def Vl (_ j:Int):Prop:=j≠0/\j.natAbs.log2 < 9000
theorem Oe:OpR X (zh .FloorDiv) (rI Vl λ i j=>.int (i.fdiv j)):=opI λ _ _ _ _ _ _ _ a q=>floordiv_int a.1 q (.inl (PyProof.noPylong_of_log2 a.2))
theorem YS {i:Int}{k:Nat}(b:i.natAbs < 2 ^ k):NY i<=k:=by
 unfold NY
 split
 ·exact Ul _
 ·rename_i c
  have a:i.natAbs≠0:=λ e=>c (beq_iff_eq.mpr (Int.natAbs_eq_zero.mp e))
  exact (Nat.log2_lt a).mpr b
def CMulW (i j:Int):Prop:=i.natAbs < 2 ^ 10000/\j.natAbs < 2 ^ 10000
theorem CMulW.ok {i j:Int}(a:CMulW i j):IntMulOk i j:=.of_bits (U1 (YS a.1) (by decide)) (U1 (YS a.2) (by decide))
theorem Cq:OpR X (zh .Mult) (rI CMulW λ i j=>.int (i * j)):=opI λ _ _ _ _ _ _ _ a q=>mul_int q a.ok
end
mutual
inductive DV (K:FrG)(H:Hp):V->ZB->Prop
 | non:DV K H .non .none
 | bl (b:Bool):DV K H (.bl b) (.bool b)
 | int (i:Int):DV K H (.int i) (.int i)
 | str (x:Str):DV K H (.str x) (.str x)
 | lst {a:Addr} {xs:List V} {ds:List ZB}:SqL K H a xs->DVs K H xs ds->DV K H (.ref a) (.list ds)
 | tup {a:Addr} {xs:List V} {ds:List ZB}:SqT K H a xs->DVs K H xs ds->DV K H (.ref a) (.tuple ds)
 | dct {a:Addr} {kvs:List (Key×V)}:H a=some (.dK kvs)->DV K H (.ref a) (.dict [])
inductive DVs (K:FrG)(H:Hp):List V->List ZB->Prop
 | nil:DVs K H [] []
 | cons {v:V} {vs:List V} {d:ZB} {ds:List ZB}:DV K H v d->DVs K H vs ds->DVs K H (v::vs) (d::ds)
end
section
variable {X:Cx}{pins:List (Addr×Obj)}{σ:St}{H:Hp}{s:X2}
mutual
theorem DV.reads (j:Inv X pins σ H s):∀{v:V} {d:ZB},DV X.K H v d->d.canLay0=true->∀{u:Value},RelV v u->∃a,Reads s.heap u d a
 | _,_,.non,_,_,r=>by cases r;exact ⟨_,.none⟩
 | _,_,.bl b,_,_,r=>by cases r;exact ⟨_,.bool b⟩
 | _,_,.int i,_,_,r=>by obtain ⟨t,rfl⟩:=r;exact ⟨_,.int i t⟩
 | _,_,.str x,_,_,r=>by obtain ⟨t,rfl⟩:=r;exact ⟨_,.str x t⟩
 | _,_,.lst k q,c,_,r=>by
  cases r
  obtain ⟨its,e,pl,_⟩:=j.list k;obtain ⟨a,f⟩:=DVs.reads j q c e;obtain ⟨o,g,h,n,hd⟩:=id pl.isList;exact ⟨_,.list g h hd f⟩
 | _,_,.tup k q,c,_,r=>by
  cases r
  obtain ⟨its,e,pl,_⟩:=j.tuple k;obtain ⟨a,f⟩:=DVs.reads j q c e;obtain ⟨o,g,h,n,hd⟩:=id pl;exact ⟨_,.tuple g h hd f⟩
 | _,_,.dct k,c,_,r=>nomatch c
theorem DVs.reads (g:Inv X pins σ H s):∀{vs:List V} {ds:List ZB},DVs X.K H vs ds->wv ds=true->∀{us:List Value},Vals vs us->∃a,ReadsAll s.heap us ds a
 | _,_,.nil,_,_,r=>by cases r;exact ⟨_,.nil⟩
 | _,_,.cons h q,c,_,r=>by
  rw [wv] at c;cases r with
  | cons b d=>
   obtain ⟨i,e⟩:=DV.reads g h (zb.mp c).1 b;obtain ⟨j,f⟩:=DVs.reads g q (zb.mp c).2 d;exact ⟨_,.cons e f⟩
end
end
section
variable {X:Cx}
def HR (K:FrG):R2:=λ x y H Q=>∃d e,DV K H x d/\DV K H y e/\wx d=true/\wx e=true/\Q (.bl (xc d e)) H
def Jr (K:FrG):R2:=λ x y H Q=>∃d e,DV K H x d/\DV K H y e/\wx d=true/\wx e=true/\Q (.bl (!PyData.eqv d e)) H
theorem Gn (a:X.A.units+64 < cLine):OpR X (UN .Eq) (HR X.K):=by
 intro b s j H x y v u Q c f ry k;obtain ⟨d,e,hd,g,sd,se,q⟩:=k;obtain ⟨l,h⟩:=hd.reads c (yn sd) f;obtain ⟨m,i⟩:=g.reads c (yn se) ry;exact eq_dataH h i sd se a ⟨.bl _,H,c,rfl,q⟩
theorem Gy (a:X.A.units+64 < cLine):OpR X (UN .NotEq) (Jr X.K):=by
 intro b s j H x y v u Q c f ry k;obtain ⟨d,e,hd,g,sd,se,q⟩:=k;obtain ⟨l,h⟩:=hd.reads c (yn sd) f;obtain ⟨m,i⟩:=g.reads c (yn se) ry;exact ne_dataH h i sd se a ⟨.bl _,H,c,rfl,q⟩
end
structure TopFn (K:FrG)(mg:Str->Option Value)(x:Str)(st:Stmt):Prop where
 ex:∃(f:Addr) (fd:UE),Fun K x x st f fd/\mg x=some (.ref f)
theorem Aj {H:Hp}{p:Addr}(a:H p=none)(o:HO):Same H (upd H p o):=λ b u q=>by rw [BK (Bq q a)];exact q
theorem Gs:WT "int"=some (.type "int"):=by decide+kernel
theorem zj:WT "bool"=some (.type "bool"):=by decide+kernel
theorem Rh:WT "tuple"=some (.type "tuple"):=by decide+kernel
theorem fc:WT "list"=some (.type "list"):=by decide+kernel
theorem Ep:WT "str"=some (.type "str"):=by decide+kernel
theorem Ce:WT "len"=some (.builtin "len"):=by decide+kernel
theorem Iz:WT "abs"=some (.builtin "abs"):=by decide+kernel
theorem PN:WT "all"=some (.builtin "all"):=by decide+kernel
theorem Dy:WT "isinstance"=some (.builtin "isinstance"):=by decide+kernel
theorem nQ:WT "reversed"=some (.type "reversed"):=by decide+kernel
def Bo (t T:String):Option Bool:=if (qn t == qn T)=true then some true else if PySem.W.kitMeta T=true then (fastBuiltinMro t).map (·.contains (qn T)) else none
theorem o6 {K:FrG}{t T:String}{b:Bool}(a:Bo t T=some b):PySem.W.kitOne K (.type t) (.type T)=some b:=a
theorem Av {K:FrG}{m:Heap}{mg:Str->Option Value}{x:Str}{st:Stmt}{f:Addr}{d:Value}{e g:Option Addr}{h:Array (Option Value)}{kV i j b ct:Value}(X:K.In m)(n:m.Ns Zi mg)
  (a:ZA K Zi x=some (some (.ref f))) (l:K.lookup f=some ⟨d,e,.func (YN x x (defArgs st) (defBody st) (defScope st) .none kV i j g b ct),h⟩) (c:YY K b x=true) (k:YE K (.ref f)=true):TopFn K mg x st:=
 ⟨f,_,DW l c k,U2 X n a⟩
section
variable {X:Cx}{es:List Expr}{te:TE}{t:TA}
theorem BP {c:Const}{j:Nat}{p:Pos}(a:PE X (.Constant c j p) te)(b:PA X es t):PA X (.Constant c j p::es) (tCons te t):=Cm a b (by rfl)
theorem Ac {x:Str}{p:Pos}(a:PE X (.Name x p) te)(b:PA X es t):PA X (.Name x p::es) (tCons te t):=Cm a b (by rfl)
theorem Mf {xs:List Expr}{p:Pos}(a:PE X (.List xs p) te)(b:PA X es t):PA X (.List xs p::es) (tCons te t):=Cm a b (by rfl)
theorem Do {xs:List Expr}{k:Nat}{p:Pos}(a:PE X (.Tuple xs k p) te)(b:PA X es t):PA X (.Tuple xs k p::es) (tCons te t):=Cm a b (by rfl)
theorem BL {f:Expr}{a:List Expr}{b:List NU}{p:Pos}(c:PE X (.Call f a b p) te)(d:PA X es t):PA X (.Call f a b p::es) (tCons te t):=Cm c d (by rfl)
theorem Bf {a:Expr}{o:NH}{b:Expr}{p:Pos}(c:PE X (.BinOp a o b p) te)(d:PA X es t):PA X (.BinOp a o b p::es) (tCons te t):=Cm c d (by rfl)
theorem eU {a:Expr}{os:List CmpOp}{bs:List Expr}{p:Pos}(b:PE X (.Compare a os bs p) te)(c:PA X es t):PA X (.Compare a os bs p::es) (tCons te t):=Cm b c (by rfl)
theorem Ao {a b:Expr}{p:Pos}(c:PE X (.Subscript a b p) te)(d:PA X es t):PA X (.Subscript a b p::es) (tCons te t):=Cm c d (by rfl)
theorem qg {a b c:Expr}{p:Pos}(d:PE X (.IfExp a b c p) te)(e:PA X es t):PA X (.IfExp a b c p::es) (tCons te t):=Cm d e (by rfl)
end
inductive Oz (h:Heap):Value->Prop
 | none:Oz h .none
 | ref {b:Addr} {o:Obj} {vs:Array Value} {cx:Value}:h.get? b=some o->o.data=.fields vs->vs[2]?=some cx->Oz h cx->Oz h (.ref b)
def lL (base:Heap)(e:Addr)(c:Value)(d:Option Addr)(g:Value)(h:Heap):Prop:=
 ∃(o a:Obj) (vs b:Array Value) (T:Addr),h.get? e=some o/\o.cls=c/\o.dict=d/\o.data=.fields vs/\vs[1]?=some (.ref T)/\base.get? T=none/\T≠e/\h.get? T=some a/\a.data=.fields b/\b[3]?=some g/\∃f,vs[2]?=some f/\Oz h f
def jf (base:Heap)(l:List Env)(e:Addr)(c:Value)(d:Option Addr)(a:Value)(b:Heap):Prop:=
 base.StaysIn b/\base.get? e=none/\b.FunFrames base l/\lL base e c d a b
theorem ObjOk.some_of {P:ZY}{w:World}{H:Hp}{c:Heap}{a:Addr}{o:HO}(x:ObjOk P w H c a o):∃u,c.get? a=some u:=by
 cases o with
 | lst xs=>obtain ⟨_,_,_,_,e⟩:=x;exact ⟨_,e⟩
 | tup xs=>obtain ⟨_,_,_,p⟩:=x;obtain ⟨o,e,_⟩:=p;exact ⟨_,e⟩
 | dK b=>obtain ⟨_,_,_,_,o,_,_,e,_⟩:=x;exact ⟨_,e⟩
 | dT b=>obtain ⟨_,_,_,_,o,_,_,e,_⟩:=x;exact ⟨_,e⟩
 | set j n=>obtain ⟨o,_,_,_,e,_⟩:=x;exact ⟨_,e⟩
 | ins C d fs=>obtain ⟨_,_,_,e,_⟩:=x;exact ⟨_,e⟩
 | own y=>obtain ⟨_,e⟩:=x;exact ⟨_,e⟩
 | xd fs=>obtain ⟨_,⟨_,_,_,e,_⟩,_⟩:=x;exact ⟨_,e⟩
 | rng lo g=>obtain ⟨_,_,_,e⟩:=x;exact ⟨_,e⟩
 | frz h u=>obtain ⟨e,_⟩:=x;exact ⟨_,e⟩
 | tbl ps=>exact ⟨_,(show c.get? a=some _ from x)⟩
 | met f y=>exact ⟨_,(show c.get? a=some _ from x)⟩
 | ext i=>obtain ⟨_,⟨_,e⟩,_⟩:=x;exact ⟨_,e⟩
theorem HOk.none_of {P:ZY}{w:World}{H:Hp}{b:Heap}{a:Addr}(x:HOk P w H b)(e:b.get? a=none):H a=none:=by
 cases q:H a with
 | none=>rfl
 | some o=>
  obtain ⟨u,c⟩:=(x a o q).some_of;rw [e] at c;cases c
def GD (P:ZY)(w:World):CXT:=λ outer H s E e s'=>∃(a C:Addr) (d:Option Addr) (c:Hp) (f:Heap),e=.ref a/\s'.os=s.os/\wT s'.gens/\
 (∀b:Heap,f.StaysIn b->s'.heap.UpToSlots b->Un (frs outer) [] H c s.heap b/\HOk P w c b)/\jf f outer a (.ref C) d .none s'.heap/\c a=none/\s.heap.get? a=none/\E (.ref C) d c
section
variable {X:Cx}{pins:List (Addr×Obj)}{σ:St}{H:Hp}{s:X2}
theorem jF {c:Hp}{a:Heap}{s':X2}(f:Inv X pins σ H s)(d:s'.os=s.os)(e:wT s'.gens)(u:Un (frs X.stack) [] H c s.heap a/\HOk X.prog X.w c a)(ht:1<=s'.toks:=by first | assumption | exact Inv.tk (by assumption) | exact YI _ _ | omega):Inv X pins σ c { s' with heap:=a }:=
 f.call' (s':={ s' with heap:=a }) (ch:=[]) d u.1 u.2 e λ b g=>nomatch g
end
structure RoomB (c:Bool)(k:Nat)(A:XU):Prop where
 hd:c=true->A.handled=none
 dp:A.depth+3 * k+5 < NI
 un:A.units+16 * k+200 < cLine
theorem RoomB.mono {c:Bool}{j k:Nat}{A:XU}(r:RoomB c k A)(a:j<=k):RoomB c j A:=⟨r.hd,by have:=r.dp;omega,by have:=r.un;omega⟩
theorem RoomB.m {c:Bool}{j k:Nat}{A:XU}(r:RoomB c k A)(a:j<=k:=by decide):RoomB c j A:=r.mono a
theorem RoomB.deeper {c:Bool}{k:Nat}{A:XU}(r:RoomB c (k+1) A)(env:Env):RoomB c k (A.deeper env):=
 ⟨r.hd,by have:=r.dp;show A.depth+1+3 * k+5 < _;omega,by have:=r.un;show A.units+3+16 * k+200 < _;omega⟩
theorem RoomB.depth {c:Bool}{k:Nat}{A:XU}(r:RoomB c k A):A.depth < NI:=by have:=r.dp;omega
theorem RoomB.units {c:Bool}{k:Nat}{A:XU}(r:RoomB c k A):A.units+64 < cLine:=by have:=r.un;omega
theorem Room.b {k:Nat}{A:XU}(r:Room k A):RoomB true k A:=⟨λ _=>r.hd,r.dp,r.un⟩
structure FnB (P:ZY)(w:World)(K:FrG)(mg:Str->Option Value)(base:Heap)(c:Bool)(k:Nat)(f:Addr)(fd:UE)(ps:List Str)(sp:Sp):Prop where
 len:∀vs H Q E,sp vs H Q E->vs.length=ps.length
 run:∀(A:XU) (outer:List Env) (s:X2) (H:Hp) (args:Args) (us:List Value) (vs:List V) (Q:VK) (E:XK),RoomB c k A->Env0 P w K mg base A outer s H->NR s fd args (ps.zip us)->Vals vs us->sp vs H Q E->(1<=s.toks\/∃x r,ps=x::r/\fd.scope.names.lookup x=some .local)->
  uu (model P w) A (.call (.ref f) args) (CR (GD P w) outer P w H s Q E) s
theorem FnB.ok {P:ZY}{w:World}{K:FrG}{mg:Str->Option Value}{base:Heap}{k:Nat}{f:Addr}{fd:UE}{ps:List Str}{sp:Sp}(c:FnB P w K mg base true k f fd ps sp):FnOk P w K mg base (GD P w) k f fd ps sp:=
 ⟨c.len,λ A outer s H args us vs Q E a=>c.run A outer s H args us vs Q E a.b⟩
def Dn (c:Bool)(P:ZY)(w:World)(K:FrG)(mg:Str->Option Value)(base:Heap)(N:List Str)(b:Str)(a:Scope)(f:Addr)(d:Value)(A:XU)(outer:List Env)(s:X2)(H:Hp)(E:XK):Cx:=
 { cxOf (GD P w) P w K mg base N b a f d A outer s H E with calm:=c }
theorem xG {c:Bool}{P:ZY}{w:World}{K:FrG}{mg:Str->Option Value}{base:Heap}{N ps:List Str}{j:Str}{d:Scope}{f:Addr}{t:Value}{A:XU}{outer:List Env}{s F:X2}{H:Hp}{E:XK}{us:List Value}{vs:List V}
  (G:FnScope N ps d) (hd:c=true->A.handled=none) (h:Env0 P w K mg base A outer s H) (hl:vs.length=ps.length) (r:Vals vs us)
  (x:InCallC s s.heap.objs.size (bindL (ua j d s.heap.objs.size f t).kindOf (ps.zip us) λ _=>none) (QA (s.heap.objs.size+1) d.names []) (bindC (ua j d s.heap.objs.size f t).kindOf (ps.zip us) λ _=>none) F) (I:1<=F.toks):
  Inv (Dn c P w K mg base N j d f t A outer s H E) [] (start N vs) H F:=by
 have R:ps.length<=N.length:=by have:=congrArg Jh G.pre;rw [XE] at this;omega
 obtain ⟨z,tk,rfl,J⟩:=x.done;have m:∀b:Addr,b∉(Dn c P w K mg base N j d f t A outer s H E).ex:=λ b C=>absurd (show b∈([]:List Addr) from C) (by simp)
 refine ⟨⟨h.mod,G.kind,rfl,rfl,Zj _,λ y C c z g=>?_,λ y l=>?_,λ y c _ L=>?_,λ C=>hd C,XU.frames_deeper h.frames,.inr ⟨rfl,rfl⟩,λ b C=>absurd C (m b),h.bs,h.bsz,λ b _ _=>m b,λ b C=>absurd C (m b),h.funs,h.frf⟩,
  rfl,h.bare,Un.kept J,⟨_,x.toInCall.ns,λ i y v z g S=>?_⟩,λ y c L=>⟨_,x.cell y c L⟩,h.hok.fresh (Zj _),λ y c L=>?_,λ p o=>absurd (show p∈([]:List (Addr×Obj)) from o) (by simp),h.hok.kept J,?_,I⟩
 ·exact name_of_addr x.apart (Um z) (Um g)
 ·have l:d.names.lookup y=some .cell\/d.names.lookup y=some .free:=l;rcases l with l | l
  ·exact Tj l
  ·exact absurd rfl (G.nofree _ (Um l))
 ·exact XP (x.above y c (Um L))
 ·have B:i < vs.length:=by
   unfold start at g;by_cases B:i < vs.length
   ·exact B
   ·rw [xh (by simpa using B)] at g
    rw [List.getElem?_replicate] at g
    split at g<;>cases g
  have O:vs[i]?=some v:=by
   unfold start at g;rw [UR (by simpa using B),Ya] at g
   cases e:vs[i]? with
   | none=>rw [e] at g;cases g
   | some a=>rw [e] at g;cases g;rfl
  obtain ⟨u,M,Q⟩:=r.get O;have o:ps[i]?=some y:=by
   rw [<- G.pre,List.getElem?_take_of_lt (by omega)];exact z
  have D:ps.Nodup:=by rw [<- G.pre];exact G.nd.sublist (List.take_sublist _ _)
  refine ⟨u,Q,?_⟩;rcases G.par y (ZN o) with k | k
  ·exact .inl ⟨k,gG D o M k⟩
  ·obtain ⟨c,e⟩:=Tj (n:=s.heap.objs.size+1) k;refine .inr ⟨.inl k,c,e,?_⟩;have q:=x.cell y c e;rw [gr D o M (by show d.names.lookup y≠_;rw [k];decide)] at q
   exact q
 ·exact h.hok.fresh (XP (x.above y c (Um L)))
 ·unfold start;show _=N.length;rw [X9,Y3,yQ];omega
theorem KZ {c:Bool}{P:ZY}{w:World}{K:FrG}{mg:Str->Option Value}{base:Heap}{k:Nat}{f:Addr}{name d:Str}{h:Arguments}{j:List Stmt}{a:Scope}{L kV C M g ct a0:Value}{O a1:Option Addr}
  {R:Array (Option Value)} {N ps:List Str} {sp:Sp} (a2:K.lookup f=some ⟨a0,a1,.func (YN name d h j a L kV C M O g ct),R⟩) (S:YY K g d=true) (T:FnScope N ps a)
  (len:∀vs H Q E,sp vs H Q E->vs.length=ps.length)
  (z:∀(A:XU) (outer:List Env) (s:X2) (H:Hp) (vs:List V) (Q:VK) (E:XK),RoomB c k (A.deeper (ua d a s.heap.objs.size f g))->sp vs H Q E->
   ∃t,PSs (Dn c P w K mg base N d a f g A outer s H E) j t/\t { nx:=λ _ i=>Q .non i,rt:=Q } (start N vs) H):
  FnB P w K mg base c (k+1) f (YN name d h j a L kV C M O g ct) ps sp:=by
 refine ⟨len,λ A outer s H args us vs Q E I p a3 r D U=>?_⟩
 have hl:=len _ _ _ _ D;have X:K.In s.heap:=p.mod.kin.keeps λ b o e=>(p.bs b o e).1
 have lim:s.heap.NoLimit:=p.mod.nolimit.keeps λ b o e=>(p.bs b o e).1
 have B:∀y∈ps.zip us,a.names.lookup y.1=some .local\/(a.names.lookup y.1=some .cell/\((QA (s.heap.objs.size+1) a.names []).lookup y.1).isSome=true):=λ ⟨n,v⟩ a4=>by
  rcases T.par n (FR a4).1 with q | q
  ·exact .inl q
  ·exact .inr ⟨q,Fu _ _ _ (.inl q)⟩
 refine codeAny_call_function I.depth (X _ _ a2) rfl T.co T.gen rfl (PySem.W.codeRec_of X S) (a3 _ _ _ _ ?_);refine vD T.kind B (iR hl r U) λ env a5 Y x Z=>?_
 subst a5;refine ⟨lim.keeps x.toInCall.keep,codeAny_func ?_⟩;obtain ⟨t,ht,a6⟩:=z A outer s H vs Q E (I.deeper _) D;have a8:Inv (Dn c P w K mg base N d a f g A outer s H E) [] (start N vs) H Y:=xG T I.hd p hl r x Z;refine UI (ht [] Y (start N vs) H _ a8 a6) (λ a7 s' m=>?_) λ e s' m=>m
 have F:∀{l:St} {i:Hp} {v:V} {u:Value},Inv (Dn c P w K mg base N d a f g A outer s H E) [] l i s'->RelV v u->Q v i->CE outer P w H s Q u s':=
  λ {l i v u} G J q=>⟨v,i,G.os,G.bare,G.base,G.hok,J,q⟩
 cases a7 with
 | ret u=>
  obtain ⟨v,l,i,G,J,q⟩:=m;exact F G J q
 | next=>
  obtain ⟨l,i,G,q⟩:=m;exact F (v:=V.non) (u:=uj) G rfl q
 | brk=>
  obtain ⟨_,_,_,q⟩:=m;exact UH q
 | cont=>
  obtain ⟨_,_,_,q⟩:=m;exact UH q
structure CalB (P:ZY)(w:World)(K:FrG)(mg:Str->Option Value)(base:Heap)(c:Bool)(k:Nat)(x:Str)(ps:List Str)(sp:Sp):Prop where
 ex:∃(f:Addr) (fd:UE),FnB P w K mg base c k f fd ps sp/\mg x=some (.ref f)/\YE K (.ref f)=true/\Binds K fd ps []
theorem TopFn.calB {c:Bool}{P:ZY}{w:World}{K:FrG}{mg:Str->Option Value}{base:Heap}{x:Str}{st:Stmt}{N ps:List Str}{k:Nat}{sp:Sp}(T:TopFn K mg x st)(p:FnScope N ps (defScope st))
  (h:∀(kV d e:Value) (g:Option Addr) (a ct:Value) (us:List Value),us.length=ps.length->jo (YN x x (defArgs st) (defBody st) (defScope st) .none kV d e g a ct) ⟨us,[]⟩=pure (ps.zip us))
  (len:∀vs H Q E,sp vs H Q E->vs.length=ps.length)
  (b:∀(f:Addr) (a:Value) (A:XU) (outer:List Env) (s:X2) (H:Hp) (vs:List V) (Q:VK) (E:XK),RoomB c k (A.deeper (ua x (defScope st) s.heap.objs.size f a))->sp vs H Q E->
   ∃t,PSs (Dn c P w K mg base N x (defScope st) f a A outer s H E) (defBody st) t/\t { nx:=λ _ i=>Q .non i,rt:=Q } (start N vs) H):CalB P w K mg base c (k+1) x ps sp:=by
 obtain ⟨f,fd,j,m⟩:=T.ex;obtain ⟨q,r,kV,d,e,g,a,ct,o,rfl,l,n⟩:=id j.ex;exact ⟨f,_,KZ l n p len (b f a),m,j.kp,j.binds h⟩
theorem Ag {P:ZY}{w:World}{X:Cx}:Passes (GD P w) X E0:=λ _ _ _ _ _ _ _ a=>by
 obtain ⟨_,_,_,_,_,_,_,_,_,_,_,_,q⟩:=a;exact q.elim
section
variable {X:Cx}{c:Bool}{k:Nat}{ps:List Str}{sp:Sp}{x:Str}{p pos:Pos}{e:Expr}{es:List Expr}{t:TA}{E:XK}
theorem Vs {a:List (Addr×Obj)}{d:St}{H:Hp}{s:X2}{Q:VK}{us:List Value}{vs:List V}{f:Addr}{fd:UE}{g:Value->X2->Prop}(o:FnB X.prog X.w X.K X.mg X.base c k f fd ps sp)(j:RoomB c k X.A)(l:Binds X.K fd ps [])
  (h:Inv X a d H s) (r:Vals vs us) (q:sp (vs++[]) H Q E) (m:∀e s',GD X.prog X.w X.stack H s E e s'->1<=s'.toks->g e s'):wpAny (model X.prog X.w) X.A (call (.ref f) us) (EP X a d Q) g s:=by
 have i:Vals (vs++[]) (us++[]):=r.append .nil;have hl:(us++[]).length=ps.length:=by rw [<- i.length];exact o.len _ _ _ _ q
 refine wpAny_call (GL h.tk (qh (o.run X.A X.stack s H ⟨us,[]⟩ (us++[]) (vs++[]) Q E j h.env0 (l s us h.kIn hl) i q (.inl h.tk)) λ r s' b ht=>?_))
 cases r with
 | error e=>exact m e s' b ht
 | ok n=>
  cases n with
  | ret u=>exact h.after b
  | next=>exact UH b
  | brk=>exact UH b
  | cont=>exact UH b
theorem Ah (C:CalB X.prog X.w X.K X.mg X.base c k x ps sp)(i:RoomB c k X.A)(j:Passes (GD X.prog X.w) X E)(l:PA X (e::es) t)(m:Gl X x:=by rfl)(d:(x == ("__debug__":Str))=false:=by decide)
  (n:Xa (e::es) X.env=(false,eval e X.env)::Xa es X.env:=by rfl) (g:(yq pos (Xa es X.env)).any (·.1)=false:=by rfl):
  PE X (.Call (.Name x p) (e::es) [] pos) (tCall sp [] E t):=by
 obtain ⟨f,fd,F,o,u,v⟩:=C.ex;intro a s h H Q y z;refine UK (Kp y m o ?_ d);refine yk (h₀:=X.base) y.ok.mod.kin u (thn (l pos a s h H _ y z) λ us B ⟨vs,D,b,r,q⟩=>⟨b.kIn,?_⟩) n g
 exact Vs F i v b r q λ e s' z ht=>j a h D B e s' b z ht
end
section
variable {X:Cx}{pins:List (Addr×Obj)}{σ:St}{H:Hp}{s:X2}
theorem PA.any {es:List Expr}{t:TA}(e:PA X.nox es t){a:Value->X2->Prop}(pos:Pos){Q:List V->Hp->Prop}(f:Inv X pins σ H s)(q:t σ H Q):
  wpAny (model X.prog X.w) X.A (spliced (yq pos (Xa es X.env))) (AP X pins σ Q) a s:=
 UI (e pos pins s σ H Q (f.wish _) q) (λ us g ⟨vs,b,c,r,d⟩=>⟨vs,b,c.unwish,r,d⟩) λ _ _ h=>h.elim
end
end L2
namespace L2
open PySem PySem.Spec PySem.Calls PyProof.Rows PySem.W Builtin Builtin.ObjectAttr Builtin.Getset_descriptor
end L2
namespace L2
open PySem PySem.Spec PyProof.Rows PySem.Builtin PySem.Builtin.Str
section
variable {X:Cx}
def lY:V->List V->Hp->VK->Prop:=λ x vs H Q=>∃i j,x=.str i/\vs=[.str j]/\Q (.bl (qr i j)) H
theorem mH:MtM X "str.startswith" lY:=by
 intro a s e H x vs v us Q f b c g;obtain ⟨i,j,rfl,rfl,q⟩:=g;obtain ⟨t,rfl⟩:=b;obtain ⟨u,rfl,d⟩:=c.one;obtain ⟨t',rfl⟩:=d;exact SC.startswith ⟨.bl _,H,f,rfl,q⟩
theorem uW {s:X2}{a:Str}{Q:Value->X2->Prop}:∀(l:List (Str×Tok)),(∀p∈l,p.2≠0)->1<=s.toks->((wB a (l.map (·.1))).length<=Y7/\∀(t':NZ) k,1<=k->Q (.str (wB a (l.map (·.1))) t'.1) { s with toks:=k })->(joinMade a l).post Q s
 | [],_,b,c=>⟨c.1,c.2 ⟨_,WS b⟩ _ (YI _ _)⟩
 | [p],nz,b,c=>c.2 ⟨p.2,nz p ZD⟩ s.toks b
 | _::_::_,_,b,c=>⟨c.1,c.2 ⟨_,WS b⟩ _ (YI _ _)⟩
theorem yf {a:List Str}{its:List Value}{n:Nat}{v:Value}{x:Str}{t:Tok}(d:Vals (a.map V.str) its)(e:its[n]?=some v)(i:v=GV x t):t≠0:=by
 have b:=Vals.length d;have c:n < (a.map V.str).length:=by rw [b];exact (XT.mp e).1
 rw [Y3] at c;have h:(a.map V.str)[n]?=some (.str (a[n]'c)):=by
  rw [Ya,YO c];rfl
 obtain ⟨u,f,⟨t',g⟩⟩:=d.get h;rw [e] at f;cases f
 rw [i] at g;cases g
 exact t'.2
theorem jk {b:Type}{d:Model}{A:XU}{s:X2}{t:Sem b}{Q:b->X2->Prop}{E:Value->X2->Prop}{n:Nat}(c:n<=s.toks)(e:wpAny d A t (λ a s'=>n<=s'.toks->Q a s') E s):wpAny d A t Q E s:=UI (wpAny_toks_of c e) (λ _ _ x=>x.2 x.1) (λ _ _ x=>x.2)
theorem V1:∀(l:List (Str×Tok)),(∀p∈l,p.2≠0)->Vals ((l.map (·.1)).map V.str) (ul l)
 | [],_=>.nil
 | p::r,b=>.cons ⟨⟨p.2,b p ZD⟩,rfl⟩ (V1 r λ q a=>b q (ZT _ a))
theorem XM:∀(xs:List Str) (n:Nat),1<=n->∀p∈numbered n xs,p.2≠0
 | [],_,_,_,a=>nomatch a
 | x::r,n,b,p,a=>by
  rcases W4.mp a with rfl | c
  ·exact WS b
  ·exact XM r (n+1) (YI _ _) p c
theorem M7 {s:X2}{c:Prop}[Decidable c]{y e:Str}{t:NZ}{Q:Value->X2->Prop}(b:1<=s.toks)(f:(if c then y else e).length<=Y7/\∀(t':NZ) (k:Nat),1<=k->Q (.str (if c then y else e) t'.1) { s with toks:=k }):
  (if c then Made.val (.str y t.1) else Made.str e).post Q s:=by
 by_cases a:c
 ·rw [if_pos a];have q:=f.2 t s.toks b;rw [if_pos a] at q;exact q
 ·rw [if_neg a];have q:=f.2 ⟨s.toks,WS b⟩ (s.toks+1) (YI _ _);have d:=f.1;rw [if_neg a] at q d;exact ⟨d,q⟩
def AG3:V->List V->Hp->VK->Prop:=λ x vs H Q=>∃i j,x=.str i/\vs=[.str j]/\(j.length == 0)=false/\i.length+2<=Y7/\∀p,H p=none->Q (.ref p) (upd H p (.lst ((Xo i j).map V.str)))
theorem Fe:MtM X "str.split" AG3:=by
 intro c s k H x vs v us Q f m n y;obtain ⟨i,j,rfl,rfl,g,z,q⟩:=y;obtain ⟨t,rfl⟩:=m;obtain ⟨u,rfl,o⟩:=n.one;obtain ⟨t',rfl⟩:=o;have r:(xt i (Wc i j 0 i.length (i.length+1)) j.length).length<=Y7:=by
  have e1:=FT i j 0 i.length (i.length+1);rw [length_partsBetween];omega
 have b:∀(l:List (Str×Tok)) (tk:Nat),l.map (·.1)=Xo i j->l.length<=Y7->(∀p∈l,p.2≠0)->1<=tk->EP X c k Q (.ref s.heap.objs.size) { s with heap:=s.heap.push { cls:=.type "list",data:=.seq (ul l).toArray },toks:=tk }:=λ l tk e hl h w=>by
  refine ⟨.ref s.heap.objs.size,_,?_,rfl,q _ f.fresh⟩;rw [<- e];exact f.lnew (V1 l h) (by rw [Y3,Y3];exact hl)
 cases a:(decide (i.length < j.length) || decide (strKind i < strKind j))
 ·cases hf:(Wc i j 0 i.length (i.length+1)).isEmpty
  ·refine xk XI (yv _ _ _) Gx (qv _ _) (meets_str_split_sep i j t t' a g hf (by omega) r) ?_
   show wants _ _ _ { s with toks:=_,heap:=s.heap.push { cls:=.type "list",data:=.seq (strsFrom s.toks (xt i (Wc i j 0 i.length (i.length+1)) j.length)).toArray } }
   rw [strsFrom_eq];refine b (numbered s.toks _) _ ((NM _ _).trans ((if_neg (ne_true_of_eq_false a)).trans (if_neg (ne_true_of_eq_false hf))).symm) ?_ (XM _ _ f.tk) (by have:=f.tk;omega)
   have:=congrArg Jh (NM s.toks (xt i (Wc i j 0 i.length (i.length+1)) j.length));rw [Y3] at this;omega
  ·exact xk XI (yv _ _ _) Gx (qv _ _) (meets_str_split_not_found i j t t' a g hf)
    (b [(i,t)] s.toks ((if_neg (ne_true_of_eq_false a)).trans (if_pos hf)).symm (by show 1<=Y7;decide) (λ p d=>by rw [U0.mp d];exact t.2) f.tk)
 ·exact xk XI (yv _ _ _) Gx (qv _ _) (meets_str_split_cannot_occur i j t t' a)
   (b [(i,t)] s.toks (if_pos a).symm (by show 1<=Y7;decide) (λ p d=>by rw [U0.mp d];exact t.2) f.tk)
def xq:V->Option Int->Option Int->Hp->VK->Prop:=λ x lo a H Q=>∃b,x=.str b/\b.length<=Y7/\Q (.str (Wp b lo a)) H
theorem Hf:SlR X xq:=by
 intro e s p H x v B C lo g D Q h r w pl m E;obtain ⟨z,rfl,y,q⟩:=E;obtain ⟨t,rfl⟩:=r;refine ⟨"str",_,F.slot_str_getitem.lookup,yv _ _ _,?_⟩;obtain ⟨o,c,d,hd⟩:=w;have a:∀(t':NZ) k,1<=k->EP X e p Q (.str (Wp z lo g) t'.1) { s with toks:=k }:=λ t' k A=>⟨.str _,H,h.tok _,⟨t',rfl⟩,q⟩
 have b:=U1 (Txt.slice_le z lo g) y;cases pl with
 | none=>
  cases m with
  | none=>exact ya (l:=none) (u:=none) (st:=none) ⟨o,c,d,hd⟩ rfl (M7 h.tk ⟨b,a⟩)
  | int j f=>exact ya (l:=none) (u:=some (j,f)) (st:=none) ⟨o,c,d,hd⟩ rfl (M7 h.tk ⟨b,a⟩)
 | int i n=>
  cases m with
  | none=>exact ya (l:=some (i,n)) (u:=none) (st:=none) ⟨o,c,d,hd⟩ rfl (M7 h.tk ⟨b,a⟩)
  | int j f=>exact ya (l:=some (i,n)) (u:=some (j,f)) (st:=none) ⟨o,c,d,hd⟩ rfl (M7 h.tk ⟨b,a⟩)
def PJ (X:Cx)(es:List Expr)(t:Str->St->Hp->VK->Prop):Prop:=
 ∀(b:Str) (a:List (Addr×Obj)) (s:X2) (c:St) (H:Hp) (Q:VK),Inv X a c H s->t b c H Q->wpAny (model X.prog X.w) X.A (joinParts b (evalEach es X.env)) (EP X a c Q) X.xe s
def vW (x:V)(y:Str):Prop:=(∃i:Int,x=.int i/\i.natAbs.log2 < 1920/\y=((toString i:String):Str))\/(x=.str y/\y.length<=Y7)
variable {a:Expr}{ta:TE}{es:List Expr}{tr:Str->St->Hp->VK->Prop}{p pos:Pos}
theorem mK:PJ X [] (λ b _ H Q=>b.length<=Y7/\Q (.str b) H):=λ b _ s e H Q c d=>joinParts_nil ⟨.str b,H,c.tok _,⟨⟨_,WS c.tk⟩,rfl⟩,d.2⟩ d.1
theorem gW (k:PE X a ta)(g:PJ X es tr):PJ X (.FormattedValue a (-1) none p::es) (λ d c H Q=>ta c H λ x e=>∃y,vW x y/\(d++y).length<=Y7/\tr (d++y) c e Q):=by
 intro d b s c H Q n o;refine joinParts_cons (FormattedValue_plain (thn (k b s c H _ n o) λ v r ⟨x,e,f,h,y,l,j,q⟩=>?_))
 rcases l with ⟨i,rfl,hl,rfl⟩ | ⟨rfl,hl⟩
 ·obtain ⟨t,rfl⟩:=h;exact formatField_int_small hl ⟨j,g _ b _ c e Q (f.tok _) q⟩
 ·obtain ⟨t,rfl⟩:=h;exact Qa f.tk (formatField_str (λ t' tk m=>⟨j,g _ b _ c e Q (f.tok _) q⟩) hl)
theorem vp {e:Str}{k:Nat}(f:PJ X es tr):PJ X (.Constant (.str e) k p::es) (λ b c H Q=>(b++e).length<=Y7/\tr (b++e) c H Q):=by
 intro b d s c H Q h g;exact joinParts_cons (xZ ⟨g.1,f _ d _ c H Q (h.tok _) g.2⟩)
theorem AH8 {e1 e2:Expr}{t:Str->St->Hp->VK->Prop}(d:PJ X (e1::e2::es) t):PE X (.JoinedStr (e1::e2::es) pos) (t jA):=λ b s c H Q e q=>JoinedStr_many (d _ b s c H Q e q)
theorem Jt:CallR X (.type "int") (λ xs H Q=>∃x n,xs=[.str x]/\x.length<=640/\Jn x=some n/\Q (.int n) H):=by
 intro b s e H xs us Q f r g;obtain ⟨x,n,rfl,hl,c,q⟩:=g;obtain ⟨u,rfl,d⟩:=vals1 r;obtain ⟨t,rfl⟩:=d;exact call_int_1 (PySem.W.KIN.gives_text hl c).meets ⟨rfl,⟨.int n,H,f.tok _,⟨_,rfl⟩,q⟩⟩
theorem Mw (w:X.calm=true):CallR X (.builtin "all") (λ xs H Q=>∃(p:Addr) (bs:List Bool),xs=[.ref p]/\SqL X.K H p (bs.map V.bl)/\Q (.bl (bs.all id)) H):=by
 intro x s F H xs us Q t r G;obtain ⟨p,bs,rfl,h,q⟩:=G;obtain ⟨u,rfl,d⟩:=vals1 r;cases d
 obtain ⟨its,f,pl,y⟩:=t.list h;have c:its.toArray.size=bs.length:=by
  have:=f.length;rw [Y3] at this;rw [ZI];exact this.symm
 have j:p < s.heap.objs.size:=by
  obtain ⟨o,e,_⟩:=pl.isList;exact ZO e
 have z:X.A.in1.handled=none:=t.ok.hd w;refine Qa t.tk (call_all_walk (GG pl.isList ⟨s.heap.objs.size,_,_,_,_,_,λ i=>bs.getD i false,rfl,Walks.list z s.heap.objs.size p (XG j) its.toArray,⟨⟨_,XB _ rfl,rfl,rfl⟩,pl.isList.push _⟩,?_,λ h' tk k E=>?_⟩))
 ·intro i v I J L B C;have l:its[i]?=some v:=by simpa using B
  have g:bs[i]?=some (bs.getD i false)/\RelV (.bl (bs.getD i false)) v:=by
   have m:i < bs.length:=by
    have:=(XT.mp l).1;rw [<- c,ZI];exact this
   have e1:(bs.map V.bl)[i]?=some (.bl (bs.getD i false)):=by
    rw [Ya,qw,YO m];rfl
   obtain ⟨u,n,d⟩:=f.get e1;rw [l] at n;cases n
   refine ⟨?_,d⟩;rw [qw,YO m];rfl
  obtain ⟨_,d⟩:=g;cases d
  exact UQ C
 ·have e:(WC its.toArray.size).all (λ i=>bs.getD i false)=bs.all id:=by
   rw [c];clear c f q k h y
   induction bs with
   | nil=>rfl
   | cons b r D=>
    rw [X4,FB,GO,MG,GO,<- D];rfl
  rw [e];exact ⟨.bl _,H,t.kept (h':=h') (t':=tk) λ b o e=>k b o (by
   intro g;have:b=s.heap.objs.size:=by simpa using g
   exact absurd (ZO e) (by rw [this];exact Qr _)) (Za _ e),rfl,q⟩
end
theorem fV {c:Str}:∀{vs:List Value} {zs:List Str} {a:List Value},AreOf .str vs zs->xA (λ v r=>∃b t,v=.str b t/\r=.bool (!(Wc c b 0 c.length 1).isEmpty)) vs a->
  Vals (zs.map λ b=>V.bl (!(Wc c b 0 c.length 1).isEmpty)) a
 | _,_,_,.nil,r=>by cases r;exact .nil
 | _,_,_,.cons h d,r=>by
  cases r with
  | cons f g=>
   obtain ⟨t,rfl⟩:=h;obtain ⟨b,t',e,rfl⟩:=f;cases e
   exact .cons rfl (fV d g)
section
variable {X:Cx}
theorem Inv.laidN {d:List (Addr×Obj)}{g:St}{H:Hp}{s:X2}{a:Addr}{o:HO}{h':Heap}{tk:Nat}(l:Inv X d g H s)(k:∀b u,s.heap.get? b=some u->h'.get? b=some u)(h:s.heap.get? a=none)
  (i:ObjOk X.prog X.w (upd H a o) h' a o) (ht:1<=tk:=by first | assumption | exact Inv.tk (by assumption) | exact YI _ _ | omega):Inv X d g (upd H a o) { s with heap:=h',toks:=tk }:=by
 have f:H a=none:=l.hok.none_of h;refine jF (s':={ s with heap:=h',toks:=tk }) l rfl l.bare ⟨⟨λ b u e _ _ _=>k b u e,λ b u e _ _ _=>⟨u.slots,k b u e⟩,λ b u e n _=>?_,λ b u e _=>⟨u,k b u e⟩,λ b xs e=>?_,λ b u x e=>?_,λ b ps e=>?_⟩,λ b u e=>?_⟩
 ·have:b≠a:=λ m=>by rw [m,h] at e;cases e
  rw [BK this];exact n
 ·rw [BK (Bq e f)];exact e
 ·rw [BK (Bq e f)];exact e
 ·exact ⟨#[],by rw [BK (Bq e f),Array.append_empty];exact e⟩
 ·by_cases j:b=a
  ·subst j;rw [Al] at e;cases e
   exact i
  ·rw [BK j] at e;exact (l.hok b u e).stay (λ c v _ q=>k c v q) (λ c q=>by rw [BK (Bq q f)];exact q) λ c xs q=>by rw [BK (Bq q f)];exact q
theorem ak {x P:Str}{a7 a8 R a9 pos:Pos}{iter:Expr}{S:TE}{d:Scope}{E:Str}{b0:Tok}(b1:X.calm=true)(b2:PE X iter S)(b3:X.mg P=some (.str E b0))
  (w:∀y∈d.names,y.2≠.free) (hcell:∀y∈d.names,y.2≠.cell) (h:d.kind=.function) (n:∀y∈d.names,y.2=.local->d.names.lookup y.1=some .local)
  (T:d.names.lookup x=some .local) (b4:d.names.lookup P=some .globalImplicit) (hd:(x == ("__debug__":Str))=false) (U:(P == ("__debug__":Str))=false) (b5:∀x,ze iter X.env x=pure x:=by intro _;rfl) (W:xI .In (.Name P R)=false:=by rfl):
  PE X (.ListComp (.Compare (.Name x a8) [.In] [.Name P R] a9) [⟨.Name x a7,iter,[],0⟩] d pos)
   (λ F H Q=>S F H λ v G=>∃y,v=.str y/\y.length<=Y7/\∀p,G p=none->Q (.ref p) (upd G p (.lst ((signs y).map λ z=>V.bl (!(Wc E z 0 E.length 1).isEmpty))))):=by
 intro I s F H Q c2 c6;refine jk c2.tk (wpAny_ListComp_walk (λ _=>true) (λ v r=>∃z t,v=.str z t/\r=.bool (!(Wc E z 0 E.length 1).isEmpty)) w hcell h n T (thn (b2 I s F H _ c2 c6) λ c7 g ⟨v,G,m,b6,y,e,Y,q⟩=>?_) b5)
 subst e;obtain ⟨t,rfl⟩:=b6;refine wpAny_pyIter_str λ o St c8 Z=>?_
 have a0:∀(h':Heap),(∀b j,b∉[g.heap.objs.size]->(g.heap.push o).get? b=some j->h'.get? b=some j)->∀b j,g.heap.get? b=some j->h'.get? b=some j:=
  λ h' J b j e=>J b j (old_not_new e) (Za _ e)
 refine ⟨g.heap.objs.size,[g.heap.objs.size],[g.heap.objs.size],y.cps.size,SignAt y,St,rfl,c8 X.A (m.ok.hd b1),Y,Z,?_,⟨?_,?_⟩,?_⟩
 ·intro b b7;show b < (g.heap.push o).objs.size;rw [Jb,U0.mp b7];exact xo _
 ·intro C i v f K b8 B a1 D _ _;exact Yf ⟨rfl,f.heap,f.toks,rfl,λ _ _ e=>e⟩
 ·intro C i v f K b8 B c9 a1 D k _;obtain ⟨c,u,c3,rfl⟩:=B;have ns:f.heap.Ns Zi X.mg:=(m.mod.glob.keeps m.bk).keeps (a0 f.heap k);refine wpAny_Compare1 (wpAny_Name (jd h T a1 D ?_) hd) W;refine xa h b4 (GW (by show f.heap.Ns X.env.globals X.mg;rw [m.ok.glob];exact ns) b3 ?_) U
  exact in_str ⟨⟨_,_,rfl,rfl⟩,f.heap,f.toks,rfl,λ _ _ e=>e⟩
 ·intro L h' tk a2 vs M c4 N O B a3 J c5;have a4:g.heap.get? L=none:=by
   cases e:g.heap.get? L with
   | none=>rfl
   | some b9=>
    have z:(g.heap.push o).get? L=some b9:=Za _ e;have l:(g.heap.push o).get? L=none:=M;rw [z] at l;cases l
  have a5:xA (λ v r=>∃z t,v=.str z t/\r=.bool (!(Wc E z 0 E.length 1).isEmpty)) vs a2.toList:=by
   rw [List.filter_eq_self.mpr (λ _ _=>rfl)] at a3
   exact a3
  have c0:=fV (areOf_signs O B) a5;obtain ⟨c1,a6⟩:=N;refine ⟨.ref L,_,m.laidN (a:=L) (o:=.lst _) (tk:=tk) (a0 h' J) a4 ⟨?_,a2.toList,c1,c0,?_⟩,rfl,q L (m.hok.none_of a4)⟩
  ·rw [Y3,signs_length];exact Y
  ·rw [a6]
end
section
variable {X:Cx}{o:Expr}{to:TE}{y z:Str}{k1 k2:Nat}{p1 p2 apos cpos:Pos}
theorem uC (n:PE X o to)(l:(y == z)=false)
  (a:xJ o "replace" X.env (eval o X.env)=eval o X.env:=by rfl)
  (f:((yq cpos (Xa [.Constant (.str y) k1 p1,.Constant (.str z) k2 p2] X.env)).all (λ x=>!x.1) && (NL cpos (jp [] X.env)).all (λ x=>x.1.isSome)
   && decide (2+([]:List NU).length+(if ([]:List NU).isEmpty then 0 else 1) < 30))=true:=by rfl)
  (b:(apos.endLine == cpos.line)=true:=by rfl):
  PE X (.Call (.Attribute o "replace" apos) [.Constant (.str y) k1 p1,.Constant (.str z) k2 p2] [] cpos)
   (λ g H Q=>to g H λ x c=>∃i,x=.str i/\i.length+(i.length+1) * z.length<=16777216/\Q (.str (uL i y z)) c):=by
 intro h s g H Q B C;refine wpAny_Call_method_late a f b rfl (thn (n h s g H _ B C) λ v j ⟨x,c,d,p,i,e,r,q⟩=>?_)
 subst e;obtain ⟨t,rfl⟩:=p;obtain ⟨u,w⟩:=fX (T:="str") (x:=.str i) (v:=.str i t.1) d ⟨t,rfl⟩ rfl;refine ⟨"str","str.replace",ZU,PySem.F.slot_str_replace,PySem.F.type_str_replace,u,w,?_⟩;refine wt rfl (uI ?_);refine yi (xZ (k:=k1) (pos:=p1) (yi (xZ (k:=k2) (pos:=p2) (wq ?_))));have A:j.toks≠0:=WS d.tk;have hl:tooLong (i.length+(Wc i y 0 i.length (i.length+1)).length * z.length)=false:=by
  have e1:=FT i y 0 i.length (i.length+1);have e2:(Wc i y 0 i.length (i.length+1)).length * z.length<=(i.length+1) * z.length:=Yh _ e1;have e:(2:Nat) ^ 24=16777216:=by decide
  unfold tooLong Y7;exact decide_eq_false (by omega)
 refine call_gives F.slot_str_replace (yv _ _ _) F.entry_str_replace (F.args_str_replace_3 _ _ _) (gives_str_replace i y z t.1 j.toks (j.toks+1) λ _=>⟨by simp [A],by simp,l,hl⟩) ?_
 unfold uL at q;cases m:((Wc i y 0 i.length (i.length+1)).isEmpty || (y.length == 0 && z.length == 0))
 ·rw [m] at q;simp only [yl,if_false] at q ⊢;exact ⟨fits_replaced y r,.str _,c,d.tok _,⟨⟨_,Nat.succ_ne_zero _⟩,rfl⟩,q⟩
 ·rw [m] at q;simp only [if_true] at q ⊢;exact ⟨.str _,c,d.tok _,⟨t,rfl⟩,q⟩
end
end L2
namespace Tx
open PySem PySem.Builtin PySem.Builtin.Str PySem.NumText PyProof.Rows
abbrev cl (x:Y2):List Nat:=x.cps.toList
theorem ext {x y:Y2}(a:cl x=cl y):x=y:=Y2.ext' (Array.toList_inj.mp a)
theorem BV (x y:Y2):cl (x++y)=cl x++cl y:=PySem.W.KT.app_list x y
theorem Dc (x:Y2):(cl x).length=x.length:=WE
def dg (m:Nat):List Nat:=(FC 10 m).map Char.toNat
theorem G7 (m:Nat):NW (dg m):=by
 intro c b;obtain ⟨ch,a,e⟩:=WO.mp b;have r:=digit_range (Nat.isDigit_of_mem_toDigits (by decide) (by decide) a)
 rw [<- e];exact r
theorem N8 (m:Nat):dg m≠[]:=by
 intro e;have a:=toDigits_len_ge 10 m;rw [xy.mp e] at a;exact absurd a (by decide)
theorem Wh (m:Nat):digitsVal (dg m)=m:=PySem.W.KIN.val_back m
theorem Jg (i:Int):cl (Y1 (toString i))=(if i < 0 then [45] else [])++dg i.natAbs:=by
 cases i with
 | ofNat m=>
  rw [if_neg (by show ¬ ((m:Int) < 0);omega)]
  exact PySem.W.KIN.signs_num m
 | negSucc m=>
  rw [if_pos (by omega),cl,signs_ofString]
  show (("-"++Nat.repr (m+1)).toList.map Char.toNat)=_;rw [String.toList_append,ZH,Nat.toList_repr];rfl
def sh (q:Rat):List Nat:=(if q.num < 0 then [45] else [])++dg q.num.natAbs++(if q.den=1 then [] else 47::dg q.den)
def Aq (q:Rat):Y2:=⟨(sh q).toArray⟩
theorem Ha (q:Rat):cl (Aq q)=sh q:=zz
def cut (c:Nat):List Nat->List (List Nat)
 | []=>[[]]
 | a::r=>if a=c then []::cut c r else match cut c r with
  | []=>[[a]]
  | p::ps=>(a::p)::ps
theorem HF {c:Nat}:∀{p:List Nat},c∉p->cut c p=[p]
 | [],_=>rfl
 | a::r,f=>by
  have b:a≠c:=λ e=>f (e▸ZD ..)
  have d:c∉r:=λ e=>f (ZT _ e)
  unfold cut;rw [if_neg b,HF d]
theorem Eo {c:Nat}(r:List Nat):∀{p:List Nat},c∉p->cut c (p++c::r)=p::cut c r
 | [],_=>by
  show cut c (c::r)=_;rw [cut,if_pos rfl]
 | a::p,f=>by
  have b:a≠c:=λ e=>f (e▸ZD ..)
  have d:c∉p:=λ e=>f (ZT _ e)
  show cut c (a::(p++c::r))=_;rw [cut,if_neg b,Eo r d]
theorem JN {c:Nat}:∀{ps:List Y2},ps≠[]->(∀p∈ps,c∉cl p)->cut c (cl (ZE ⟨#[c]⟩ ps))=ps.map cl
 | [],a,_=>absurd rfl a
 | [p],_,a=>by
  rw [join_one,HF (a p (ZD ..))];rfl
 | p::q::r,_,a=>by
  rw [join_cons_cons,BV,BV];show cut c (cl p++[c]++cl (ZE ⟨#[c]⟩ (q::r)))=_;rw [YA];show cut c (cl p++c::cl (ZE ⟨#[c]⟩ (q::r)))=_;rw [Eo _ (a p (ZD ..)),JN (by simp) λ p b=>a p (ZT _ b)]
  rfl
theorem FN (x:Y2)(c:Nat):(Xo x ⟨#[c]⟩).map cl=cut c (cl x):=by
 have a:=split_pos x ⟨#[c]⟩;have b:=JN (c:=c) (ps:=Xo x ⟨#[c]⟩) (λ e=>by rw [e] at a;exact absurd a (by decide)) (StrLaws.split_free x c)
 rw [StrLaws.join_split] at b;exact b.symm
theorem mY (x:Y2)(c:Nat):qr x ⟨#[c]⟩=decide ((cl x).head?=some c):=by
 obtain ⟨⟨l⟩⟩:=x;cases l with
 | nil=>rfl
 | cons a r=>
  show (decide (0+1<=(a::r).toArray.size) && ((a::r).toArray.extract 0 (0+1) == #[c]))=decide (some a=some c);by_cases b:a=c
  ·subst b;simp
  ·simp [b]
theorem W9:∀r:List Nat,(WC r.length).filterMap (λ k=>r[k]?)=r
 | []=>rfl
 | a::r=>by
  rw [X4,FB,UY (by rfl),wa]
  show a::(WC r.length).filterMap (λ k=>r[k]?)=_
  rw [W9 r]
theorem qe (x:Y2):cl (Wp x (some 1) none)=(cl x).drop 1:=by
 obtain ⟨⟨l⟩⟩:=x;cases l with
 | nil=>rfl
 | cons a r=>
  have e:Qo (some 1) none 1 (r.length+1)=(WC r.length).map (·+1):=by
   unfold Qo we;simp only [show (1:Int) > 0 by decide,if_true]
   have b:max 0 (min (if (1:Int) < 0 then 1+((r.length+1:Nat):Int) else 1) ((r.length+1:Nat):Int))=1:=by
    rw [if_neg (by decide)]
    omega
   rw [b];have c:(if (1:Int) < ((r.length+1:Nat):Int) then (((r.length+1:Nat):Int) - 1+1 - 1) / 1 else 0).toNat=r.length:=by
    split<;>simp<;>omega
   rw [c]
   apply zC
   intro k _;omega
  have hl:(UB (a::r).toArray).length=r.length+1:=by
   show (a::r).toArray.size=_;simp
  show cl (Wp (UB (a::r).toArray) (some 1) none)=r;unfold Wp;rw [hl,e];rw [if_neg (by simp)]
  show ((((WC r.length).map (·+1)).filterMap (λ k=>(a::r).toArray[k]?)).toArray).toList=r
  rw [zz,wa];have:((λ k=>(a::r).toArray[k]?) ∘ λ x=>x+1)=λ k=>r[k]?:=by
   funext k
   simp
  rw [this,W9]
theorem nJ (c:Nat):(!(Wc (Y1 "0123456789") ⟨#[c]⟩ 0 (Y1 "0123456789").length 1).isEmpty)=decide (48<=c/\c<=57):=by
 rw [StrLaws.found_one,signs_ofString];show decide (c∈[48,49,50,51,52,53,54,55,56,57])=_
 apply decide_eq_decide.mpr
 simp only [W4,YV,or_false];omega
end Tx
namespace Fr
theorem Oj (i:Int):(if i < 0 then -i else i)=(i.natAbs:Int):=by omega
theorem ZF (m n:Nat):GA n (m % n)=GA m n:=by
 rw [MH n (m % n),<- Nat.gcd_rec n m,MH]
def gcd (a b:Int):Int:=((GA a.natAbs b.natAbs:Nat):Int)
theorem eG (a b:Int):0<=gcd a b:=Int.natCast_nonneg _
theorem UW {a b:Int}(c:b≠0):0 < gcd a b:=by
 unfold gcd;have:0 < GA a.natAbs b.natAbs:=Nat.gcd_pos_of_pos_right _ (by omega)
 omega
theorem aA {a b:Int}(c:b≠0):gcd a b<=(b.natAbs:Int):=by
 unfold gcd;have:GA a.natAbs b.natAbs<=b.natAbs:=Nat.gcd_le_right _ (by omega)
 omega
theorem Ss (a b:Int):gcd a b ∣ a:=by
 unfold gcd;exact Int.ofNat_dvd_left.mpr (Nat.gcd_dvd_left _ _)
theorem bC (a b:Int):gcd a b ∣ b:=by
 unfold gcd;exact Int.ofNat_dvd_left.mpr (Nat.gcd_dvd_right _ _)
def sg (t b:Int):Int:=if b < 0 then 0 - gcd t b else gcd t b
def lt (t b:Int):Int:=t.fdiv (sg t b)
def lb (t b:Int):Int:=b.fdiv (sg t b)
theorem JD {t b:Int}(c:b≠0):sg t b≠0:=by
 unfold sg;have:=UW (a:=t) c
 split<;>omega
theorem Wy {t b:Int}:(sg t b).natAbs=(gcd t b).natAbs:=by
 unfold sg
 split<;>omega
theorem jq (t b:Int):sg t b ∣ t:=by
 unfold sg
 split
 ·rw [wE];exact Int.neg_dvd.mpr (Ss t b)
 ·exact Ss t b
theorem sJ (t b:Int):sg t b ∣ b:=by
 unfold sg
 split
 ·rw [wE];exact Int.neg_dvd.mpr (bC t b)
 ·exact bC t b
theorem Z2 {a b:Int}(c:b ∣ a):a.fdiv b * b=a:=by
 rw [Int.fdiv_eq_ediv_of_dvd c];exact Int.ediv_mul_cancel c
theorem V7 (t b:Int):lt t b * sg t b=t:=Z2 (jq t b)
theorem Ut (t b:Int):lb t b * sg t b=b:=Z2 (sJ t b)
theorem km {t b:Int}(g:b≠0):0 < lb t b:=by
 have e:=Ut t b;have h:=UW (a:=t) g;have c:sg t b=if b < 0 then 0 - gcd t b else gcd t b:=rfl
 rcases GB (lb t b) 0 with d | d | d
 ·exfalso;by_cases f:b < 0
  ·rw [if_pos f] at c;have:0 < lb t b * sg t b:=by
    rw [c];exact Int.mul_pos_of_neg_of_neg d (by omega)
   omega
  ·rw [if_neg f] at c;have:lb t b * sg t b < 0:=by
    rw [c];exact Int.mul_neg_of_neg_of_pos d h
   omega
 ·rw [d] at e;omega
 ·exact d
theorem gw {n k:Nat}(c:n < 2 ^ k)(a:0 < k):n.log2 < k:=by
 by_cases b:n=0
 ·subst b;simpa using a
 ·exact (Nat.log2_lt b).mpr c
theorem wW {t b:Int}(d:b≠0):(lb t b).natAbs<=b.natAbs:=by
 have e:=Ut t b;have f:=JD (t:=t) d;have a:(lb t b).natAbs * (sg t b).natAbs=b.natAbs:=by rw [<- QE,e]
 have c:1<=(sg t b).natAbs:=by omega
 calc (lb t b).natAbs=(lb t b).natAbs * 1:=(Nat.mul_one _).symm
  _<=(lb t b).natAbs * (sg t b).natAbs:=Nat.mul_le_mul_left _ c
  _=b.natAbs:=a
end Fr
namespace Fr
theorem pN (t b:Int):((b.gcd t:Nat):Int)=gcd t b:=by
 unfold gcd Int.gcd;rw [MH]
theorem VM {t b:Int}(f:b≠0):lt t b=(XA t b).num:=by
 have i:=UW (a:=t) f;rw [Rat.num_divInt,pN];have e:=V7 t b;have d:gcd t b ∣ b.sign * t:=Int.dvd_mul_of_dvd_right (Ss t b);refine (Int.ediv_eq_of_eq_mul_left (by omega) ?_).symm
 have g:sg t b=b.sign * gcd t b:=by
  unfold sg;rcases GB b 0 with c | c | c
  ·rw [if_pos c,qy c];omega
  ·exact absurd c f
  ·rw [if_neg (by omega),FD c];omega
 have h:b.sign * b.sign=1:=by
  rcases GB b 0 with c | c | c
  ·rw [qy c];rfl
  ·exact absurd c f
  ·rw [FD c];rfl
 calc b.sign * t=b.sign * (lt t b * sg t b):=by rw [e]
  _=(b.sign * b.sign) * (lt t b * gcd t b):=by rw [g];grind
  _=lt t b * gcd t b:=by rw [h];omega
theorem fQ {t b:Int}(e:b≠0):lb t b=((XA t b).den:Int):=by
 have e1:=V7 t b;have e2:=Ut t b;have i:=JD (t:=t) e;have n:=VM (t:=t) e;have c:(XA t b).num * b=t * ((XA t b).den:Int):=by
  have j:XA (XA t b).num ((XA t b).den:Int)=XA t b:=qA _;have f:(((XA t b).den:Nat):Int)≠0:=by
   have:=(XA t b).den_nz;omega
  exact (Rat.divInt_eq_divInt_iff f e).mp j
 by_cases a:t=0
 ·subst a;have:XA 0 b=0:=Rat.zero_divInt b;rw [this];have k:gcd 0 b=(b.natAbs:Int):=by unfold gcd;simp
  have l:=km (t:=0) e;have d:(lb 0 b).natAbs * (sg 0 b).natAbs=b.natAbs:=by rw [<- QE,e2]
  rw [Wy,k] at d;have g:0 < b.natAbs:=by omega
  have m:(lb 0 b).natAbs=1:=by
   have:(lb 0 b).natAbs * b.natAbs=1 * b.natAbs:=by simpa using d
   exact Nat.eq_of_mul_eq_mul_right g this
  show lb 0 b=1;omega
 ·rw [<- n] at c;have h:t * lb t b=t * ((XA t b).den:Int):=by
   rw [<- c]
   calc t * lb t b=(lt t b * sg t b) * lb t b:=by rw [e1]
    _=lt t b * (lb t b * sg t b):=by grind
    _=lt t b * b:=by rw [e2]
  exact Int.eq_of_mul_eq_mul_left a h
theorem den_pos (q:Rat):0 < (q.den:Int):=by
 have:=q.den_pos;omega
theorem Ez (q:Rat):XA q.num (q.den:Int)=q:=qA q
theorem FW (q:Rat):(q.den:Int)≠0:=by have:=den_pos q;omega
theorem Xe (p q:Rat):XA (p.num * q.den+q.num * p.den) (p.den * q.den)=p+q:=by
 rw [<- FU _ _ (FW p) (FW q),Ez,Ez]
theorem YW (p q:Rat):XA (p.num * q.den - q.num * p.den) (p.den * q.den)=p - q:=by
 rw [<- Rat.divInt_sub_divInt _ _ (FW p) (FW q),Ez,Ez]
theorem Q6 (p q:Rat):XA (p.num * q.num) (p.den * q.den)=p * q:=by
 rw [<- ui,Ez,Ez]
theorem Mm (p q:Rat):XA (p.num * q.den) (p.den * q.num)=p / q:=by
 rw [Rat.div_def,<- ui,Ez]
 congr 1
 have:=Rat.inv_divInt q.num q.den;rw [Ez] at this;exact this.symm
theorem cN (p q:Rat):p.num * q.den < q.num * p.den↔p < q:=(Rat.lt_iff p q).symm
theorem Qz (q:Rat):q.num=0↔q=0:=Rat.num_eq_zero
end Fr
namespace Fr
theorem pF (t b:Int)(d:b≠0):(lt t b).natAbs<=t.natAbs:=by
 have e:=V7 t b;have f:=JD (t:=t) d;have a:(lt t b).natAbs * (sg t b).natAbs=t.natAbs:=by rw [<- QE,e]
 have c:1<=(sg t b).natAbs:=by omega
 calc (lt t b).natAbs=(lt t b).natAbs * 1:=(Nat.mul_one _).symm
  _<=(lt t b).natAbs * (sg t b).natAbs:=Nat.mul_le_mul_left _ c
  _=t.natAbs:=a
end Fr
namespace L2
open PySem PySem.Spec PyProof.Rows
theorem TopFn.calN {c:Bool}{P:ZY}{w:World}{K:FrG}{mg:Str->Option Value}{base:Heap}{x:Str}{st:Stmt}{N ps:List Str}{k:Nat}{sp:Sp}(T:TopFn K mg x st)(n:FnScope N ps (defScope st))
  (e:∀(kV d g:Value) (h:Option Addr) (a ct:Value) (us:List Value),us.length=ps.length->jo (YN x x (defArgs st) (defBody st) (defScope st) .none kV d g h a ct) ⟨us,[]⟩=pure (ps.zip us))
  (len:∀vs H Q E,sp vs H Q E->vs.length=ps.length)
  (b:∀(f:Addr) (a:Value) (A:XU) (outer:List Env) (s:X2) (H:Hp) (vs:List V) (Q:VK) (E:XK),RoomB c k (A.deeper (ua x (defScope st) s.heap.objs.size f a))->sp vs H Q E->
   ∃t,PSs (Dn c P w K mg base N x (defScope st) f a A outer s H E).nox (defBody st) t/\t { nx:=λ _ i=>Q .non i,rt:=Q } (start N vs) H):CalB P w K mg base c (k+1) x ps sp:=
 T.calB n e len λ f a A outer s H vs Q E j o=>by
  obtain ⟨t,l,m⟩:=b f a A outer s H vs Q E j o;exact ⟨t,l.nox,m⟩
theorem Fun.okB {c:Bool}{P:ZY}{w:World}{K:FrG}{mg:Str->Option Value}{base:Heap}{x:Str}{st:Stmt}{f:Addr}{fd:UE}{N ps:List Str}{k:Nat}{sp:Sp}(n:Fun K x x st f fd)(o:FnScope N ps (defScope st))
  (len:∀vs H Q E,sp vs H Q E->vs.length=ps.length)
  (b:∀(a:Value) (A:XU) (outer:List Env) (s:X2) (H:Hp) (vs:List V) (Q:VK) (E:XK),RoomB c k (A.deeper (ua x (defScope st) s.heap.objs.size f a))->sp vs H Q E->
   ∃t,PSs (Dn c P w K mg base N x (defScope st) f a A outer s H E).nox (defBody st) t/\t { nx:=λ _ d=>Q .non d,rt:=Q } (start N vs) H):FnB P w K mg base c (k+1) f fd ps sp:=by
 obtain ⟨p,q,kV,j,r,u,a,ct,m,rfl,l,e⟩:=id n.ex;exact KZ l e o len λ A outer s H vs Q E g v=>by
  obtain ⟨t,h,i⟩:=b a A outer s H vs Q E g v;exact ⟨t,h.nox,i⟩
end L2
namespace Lib
open PySem L2
def lim:Nat:=2 ^ 9000
theorem Yu {n:Nat}(a:n < lim):n.log2 < 9000:=Fr.gw a (by decide)
theorem Xw {n:Nat}(a:n < lim):n < 2 ^ 10000:=Qb a (by unfold lim;decide+kernel)
def zK:Sp:=λ vs H Q _=>∃a b:Int,vs=[.int a,.int b]/\Q (.int (Fr.gcd a b)) H
def spLaw (K:FrG):Sp:=λ vs H Q _=>∃(a:Addr) (ns:List Int),vs=[.ref a]/\SqL K H a (ns.map V.int)/\ns.length<=63/\∀b,Q (.bl true) b
theorem EY (i j:Int):decide (V.int i=V.int j)=decide (i=j):=by
 by_cases a:i=j
 ·subst a;simp
 ·have:¬ V.int i=V.int j:=λ b=>a (V.int.inj b)
  rw [decide_eq_false a,decide_eq_false this]
theorem Ih {xs:List V}{r:Int}(b:0<=r)(c:r < (xs.length:Int)):∃v,atI xs r=some v/\v∈xs:=by
 have a:r.toNat < xs.length:=by omega
 have e:((r.toNat:Nat):Int)=r:=by omega
 have q:atI xs ((r.toNat:Nat):Int)=some xs[r.toNat]:=Bm (YO a);rw [e] at q;exact ⟨_,q,List.getElem_mem a⟩
theorem oF (ns:List Int)(lo b:Option Int):∀x∈cutV (ns.map V.int) lo b,∃c:Int,x=.int c:=λ x a=>by
 unfold cutV at a;have d:=List.mem_of_mem_drop (List.mem_of_mem_take a);obtain ⟨c,_,rfl⟩:=WO.mp d;exact ⟨c,rfl⟩
theorem uR (a b c d:Int):xc (.tuple [.int a,.int b]) (.tuple [.int c,.int d])=(decide (a=c) && decide (b=d)):=by
 simp only [xc,Mb,Bool.and_true];by_cases e:a=c<;>by_cases f:b=d<;>simp [e,f]
abbrev wz (q:Rat):HO:=.tup [.int q.num,.int (q.den:Int)]
def Ca:Nat:=2 ^ 4000
theorem Pq:(10:Nat) ^ 40 < Ca:=by unfold Ca;decide+kernel
theorem fL:Ca < lim:=by unfold lim Ca;decide+kernel
theorem xT:Ca * Ca+Ca * Ca < lim:=by unfold lim Ca;decide+kernel
structure Sm (q:Rat):Prop where
 n:q.num.natAbs < Ca
 d:q.den < Ca
theorem Sm.neg {q:Rat}(a:Sm q):Sm (-q):=⟨by rw [No,wM];exact a.n,by rw [Nt];exact a.d⟩
theorem AI6 {a b:Nat}(c:a < Ca)(d:b < Ca):a * b < Ca * Ca:=Nat.mul_lt_mul'' c d
theorem Gz {x y:Int}(a:x.natAbs < Ca)(b:y.natAbs < Ca):(x * y).natAbs < lim:=by
 rw [QE];have:=AI6 a b;have:=xT;omega
theorem Cv {x y:Int}(a:x.natAbs < Ca)(b:y.natAbs < Ca):CMulW x y:=⟨Xw (Qb a fL),Xw (Qb b fL)⟩
theorem Sm.dn {q:Rat}(a:Sm q):((q.den:Int)).natAbs < Ca:=by rw [XW];exact a.d
theorem V8 (q:Rat):((q.den:Nat):Int)≠0:=by have:=q.den_nz;omega
theorem Il (q:Rat):(0:Int) < ((q.den:Nat):Int):=by have:=q.den_nz;omega
theorem Gj (p q:Rat):((p.den:Int)) * (q.den:Int)≠0:=yA (V8 p) (V8 q)
theorem mZ {t b:Int}(a:b≠0):(HO.tup [.int (Fr.lt t b),.int (Fr.lb t b)])=wz (XA t b):=by
 rw [Fr.VM a,Fr.fQ a]
theorem rW (q:Rat):Fr.gcd q.num (q.den:Int)=1:=by
 unfold Fr.gcd;have:=q.reduced;unfold Nat.Coprime at this;rw [XW,this];rfl
theorem Ia (p q:Rat):xc (.tuple [.int p.num,.int (p.den:Int)]) (.tuple [.int q.num,.int (q.den:Int)])=decide (p=q):=by
 rw [uR];by_cases b:p=q
 ·subst b;simp
 ·rw [decide_eq_false b];by_cases a:p.num=q.num
  ·have c:¬ ((p.den:Int)=(q.den:Int)):=λ d=>b (Rat.ext a (Int.ofNat.inj d))
   simp [c]
  ·simp [a]
end Lib
namespace Tx
open PySem PySem.Builtin PySem.Builtin.Str PySem.NumText PyProof.Rows
theorem Ei {m k:Nat}(a:0 < k):(dg m).length<=k↔m < 10 ^ k:=by
 unfold dg;rw [Y3];exact Nat.length_toDigits_le_iff (by decide) a
theorem vR (m:Nat):1<=(dg m).length:=by
 have:=N8 m;cases b:dg m with
 | nil=>exact absurd b this
 | cons a r=>simp
structure Short (q:Rat):Prop where
 n:q.num.natAbs < 10 ^ 15
 d:q.den < 10 ^ 15
theorem RZ (m:Nat):47∉dg m:=λ a=>by have:=G7 m 47 a;omega
theorem nT (m:Nat):45∉dg m:=λ a=>by have:=G7 m 45 a;omega
theorem vB (m:Nat)(r:List Nat):(dg m++r).head?≠some 45:=by
 cases c:dg m with
 | nil=>exact absurd c (N8 m)
 | cons a l=>
  intro e;have b:some a=some 45:=e;cases b
  exact nT m (by rw [c];exact ZD ..)
theorem zR (q:Rat):decide ((sh q).head?=some 45)=decide (q.num < 0):=by
 apply decide_eq_decide.mpr
 unfold sh;by_cases a:q.num < 0
 ·rw [if_pos a];simp [a]
 ·rw [if_neg a,JO];exact ⟨λ e=>absurd e (vB _ _),λ e=>absurd e a⟩
def bd (q:Rat):List Nat:=dg q.num.natAbs++(if q.den=1 then [] else 47::dg q.den)
theorem iV (q:Rat):(if q.num < 0 then (sh q).drop 1 else sh q)=bd q:=by
 unfold sh bd;by_cases a:q.num < 0
 ·rw [if_pos a,if_pos a];rfl
 ·rw [if_neg a,if_neg a];rfl
theorem kO (q:Rat):cut 47 (bd q)=if q.den=1 then [dg q.num.natAbs] else [dg q.num.natAbs,dg q.den]:=by
 unfold bd;by_cases a:q.den=1
 ·rw [if_pos a,if_pos a,WJ,HF (RZ _)]
 ·rw [if_neg a,if_neg a,Eo _ (RZ _),HF (RZ _)]
theorem bJ (q:Rat)(a:Short q):(sh q).length<=40:=by
 have b:=(Ei (m:=q.num.natAbs) (k:=15) (by decide)).mpr a.n
 have c:=(Ei (m:=q.den) (k:=15) (by decide)).mpr a.d
 unfold sh;rw [X9,X9]
 split<;>split<;>simp only [X4,YR]<;>omega
theorem qx (q:Rat):(jA++Y1 (toString q.num))++(Y1 "/")++Y1 (toString ((q.den:Nat):Int))=(⟨((if q.num < 0 then [45] else [])++dg q.num.natAbs++47::dg q.den).toArray⟩:Y2):=by
 apply ext
 rw [BV,BV,BV,Jg,Jg];show []++_++[47]++_=_;rw [cl,zz,if_neg (show ¬ (((q.den:Nat):Int) < 0) by omega)]
 simp
end Tx
namespace Lib
open PySem L2 Tx PySem.NumText
theorem AJ3 (x:Y2):((QI x).map λ a=>V.bl (!(Wc (Y1 "0123456789") a 0 (Y1 "0123456789").length 1).isEmpty))=((cl x).map λ c=>decide (48<=c/\c<=57)).map V.bl:=by
 unfold QI;rw [xr,xr]
 apply zC
 intro c _;show V.bl (!(Wc (Y1 "0123456789") ⟨#[c]⟩ 0 (Y1 "0123456789").length 1).isEmpty)=V.bl (decide (48<=c/\c<=57));rw [nJ]
theorem qu (l:List Nat):((l.map λ c=>decide (48<=c/\c<=57)).all id)=true↔NW l:=by
 unfold NW;rw [MG,GX];simp
theorem QH {i:Int}(d:i.natAbs.log2 < 1920):(Y1 (toString i)).length<=2000:=by
 rw [<- Dc,Jg,X9];have a:i.natAbs < 10 ^ 1900:=by
  by_cases c:i.natAbs=0
  ·rw [c];exact Nw (by decide)
  ·have b:i.natAbs < 2 ^ 1920:=(Nat.log2_lt c).mp d;exact Qb b (by decide+kernel)
 have e:=(Ei (m:=i.natAbs) (k:=1900) (by decide)).mpr a
 split<;>simp only [X4,YR]<;>omega
theorem Ck (x y:Y2):(x++y).length=x.length+y.length:=by
 rw [<- Dc,BV,X9,Dc,Dc]
theorem Br {n:Nat}(a:n<=10000):n<=Y7:=U1 a (by decide)
end Lib
namespace Tx
theorem oW:Y1 "-"=⟨#[45]⟩:=by rfl
theorem zc:Y1 "/"=⟨#[47]⟩:=by rfl
end Tx
namespace Lib
open PySem L2 Tx PySem.NumText
end Lib
namespace Lib
open PySem L2 Tx
theorem Sm.zero:Sm 0:=⟨by show (0:Int).natAbs < Ca;exact Qb (by decide) Pq,by show 1 < Ca;exact Qb (by decide) Pq⟩
theorem Sm.one:Sm 1:=⟨by show (1:Int).natAbs < Ca;exact Qb (by decide) Pq,by show 1 < Ca;exact Qb (by decide) Pq⟩
def uB:Sp:=λ vs H Q _=>∃t b:Int,vs=[.int t,.int b]/\b≠0/\b.natAbs < lim/\∀p,H p=none->Q (.ref p) (upd H p (.tup [.int (Fr.lt t b),.int (Fr.lb t b)]))
end Lib
namespace L2
open PySem PySem.Spec PyProof.Rows
section
variable {prog:ZY}{w:World}{A:XU}{R:Result->X2->Prop}{s:X2}
theorem nY {g a iter:Expr}{h:List Expr}{e:Scope}{pos:Pos}{it i:Value}{env:Env}(B:Nat->X2->Prop)
  (turn:∀n s,B n s->wpAny (model prog w) A (pyNext it) (λ r b=>match r with
   | none=>R (.ok .next) b
   | some v=>wpAny (model prog w) A (xS a it v) (λ _ f=>wpAny (model prog w) A (FI a env v) (λ _ j=>
     wpAny (model prog w) A (forIn h true λ c r=>if r=true then do let ok <- isTrue c env (eval c env);pure (JU ok) else pure (JU r)) (λ ok d=>
      if ok=true then wpAny (model prog w) A (eval g env) (λ x k=>
       wpAny (model prog w) A (call (.builtin "list.append") [i,x]) (λ _ l=>∃m,m < n/\B m l) (λ _ _=>False) k) (λ _ _=>False) d
      else ∃m,m < n/\B m d) (λ _ _=>False) j) (λ _ _=>False) f) (λ _ _=>False) b) (λ _ _=>False) s)
  (n:Nat) (D:B n s):
  uu (model prog w) A (.compLoop (.ListComp g [⟨a,iter,h,0⟩] e pos) 0 it i env) R s:=by
 refine codeAny_loop rfl B (λ n s C=>?_) n D
 show wpAny _ A ((compTurn (.ListComp g [⟨a,iter,h,0⟩] e pos) 0 it i env).onRaise (λ x=>do noteFrame x env;theTreesLotGoes x)) _ _ s
 refine wpAny_noted ?_;rw [compTurn_list];refine W1 (ut (W1 (UI (turn n s C) (λ r b o=>?_) λ _ _ p=>p.elim)))
 cases r with
 | none=>exact Yf o
 | some v=>
  refine W1 (UI o (λ _ f t=>?_) λ _ _ p=>p.elim)
  refine W1 (UI t (λ _ j u=>W1 (UI u (λ ok d q=>?_) λ _ _ p=>p.elim)) λ _ _ p=>p.elim)
  cases ok with
  | false=>exact Yf ⟨rfl,q⟩
  | true=>
   exact W1 (W1 (UI q (λ x k y=>W1 (UI y (λ _ l z=>Yf (Yf ⟨rfl,z⟩)) λ _ _ p=>p.elim)) λ _ _ p=>p.elim))
end
def Cd (X:Cx)(a:Scope)(cl:List (Str×Addr))(c:List Str)(C:Addr)(d:List Addr)(b:List (Addr×Obj))(e:X2)(f:Hp):Cx:=
 { X with N:=c,s₀:=e,H₀:=f,env:=NN a cl C X.env,outer:=X.stack,ex:=d,fn:=λ _=>false,pn:=X.pn++b,xe:=λ _ _=>False }
structure CapOk (X:Cx)(scope:Scope)(cl:List (Str×Addr)):Prop where
 clos:closureFor scope X.env=pure cl
 sub:∀y c,cl.lookup y=some c->X.env.cells.lookup y=some c
 has:∀y,((ub scope X.env).names.lookup y=some .cell\/(ub scope X.env).names.lookup y=some .free)->∃c,cl.lookup y=some c
theorem pK {a:Scope}{env:Env}(b:∀y∈a.names,y.2≠.free):(ub a env).names=a.names:=by
 unfold ub;exact map_eq_self (l:=a.names) λ x c=>by
  obtain ⟨n,k⟩:=x;have:(k == up)=false:=by simpa using b _ c
  simp [this]
theorem Ds {X:Cx}{a:Scope}(b:∀y∈a.names,y.2≠.free)(hcell:∀y∈a.names,y.2≠.cell):CapOk X a []:=by
 refine ⟨closureFor_none b,λ y c e=>(by simp at e),λ y e=>?_⟩
 rw [pK b] at e;exfalso;rcases e with e | e
 ·exact hcell _ (Um e) rfl
 ·exact b _ (Um e) rfl
def Ij (a:List (Option Nat))(b:St):St:=a.map λ o=>o.bind λ j=>(b[j]?).join
section
variable {X:Cx}{pins:List (Addr×Obj)}{σ:St}{H2:Hp}{s2:X2}{scope:Scope}{cl:List (Str×Addr)}{N':List Str}{C:Addr}{fp:List Addr}{caps:List (Option Nat)}
theorem Qd (d:Inv X pins σ H2 s2){b:Addr}(a:b≠X.env.locals)(c:b∉X.fs):b∉frs X.stack:=λ e=>(W4.mp (d.stkSub b e)).elim a c
theorem uv (f:Inv X pins σ H2 s2)(hf:∀b∈fp,FpOk X pins H2 b)(hl:∀b∈fp,b < s2.heap.objs.size)(H:scope.kind=.function)(a:CapOk X scope cl)(z:s2.heap.objs.size<=C){r:X2}(os:r.os=s2.os)(bare:wT r.gens)
  (k:∀b o,s2.heap.get? b=some o->r.heap.get? b=some o) (ns:r.heap.Ns C λ _=>none) (I:caps.length=N'.length)
  (A:∀(i j:Nat),caps[i]?=some (some j)->∃y:Str,N'[i]?=some y/\X.N[j]?=some y/\(ub scope X.env).names.lookup y=some .cell/\X.env.scope.names.lookup y=some .cell) (ht:1<=r.toks:=by first | assumption | exact Inv.tk (by assumption) | exact YI _ _ | omega):
  Inv (Cd X scope cl N' C fp pins s2 H2) [] (Ij caps σ) H2 r:=by
 have w:∀b:Addr,b < s2.heap.objs.size->b≠C:=λ b J=>XG (X1 J z)
 refine ⟨⟨f.ok.mod,?_,f.ok.glob,f.ok.blt,z,λ y h c s g=>f.ok.inj y h c (a.sub y c s) (a.sub h c g),λ y J=>a.has y J,(λ y c h=>nomatch h),f.ok.hd,f.ok.frames,.inl rfl,λ b l=>⟨w b (hl b l),λ y c e=>(hf b l).2.2.2.2.1 y c (a.sub y c e)⟩,
  λ b o e=>f.bs b o e,U1 f.ok.bsz f.sz,λ b o e l=>?_,λ b l=>Qd f (hf b l).2.1 (hf b l).2.2.1,f.stack,f.stkFree⟩,
  os,bare,Un.kept k,⟨_,ns,λ i y v s g U=>?_⟩,λ y c e=>?_,f.hok.fresh z,λ y c e=>f.freeC y c (a.sub y c e),λ p t=>?_,f.hok.kept k,?_,ht⟩
 ·show (ub scope X.env).kind=.function;exact H
 ·rcases (hf b l).2.2.2.1 with h | h
  ·exact f.ok.noex b o e h
  ·exact absurd (X1 (ZO e) (U1 f.ok.bsz h)) (Qr _)
 ·have s:N'[i]?=some y:=s;unfold Ij at g;rw [Ya] at g;cases B:caps[i]? with
  | none=>rw [B] at g;cases g
  | some o=>
   rw [B] at g;cases o with
   | none=>cases g
   | some j=>
    obtain ⟨V,e1,e2,D,E⟩:=A i j B;rw [s] at e1;cases e1
    have K:σ[j]?=some (some v):=by
     have h:(σ[j]?).join=some v:=by simpa using g
     cases q:σ[j]? with
     | none=>rw [q] at h;cases h
     | some W=>rw [q] at h;exact congrArg some h
    obtain ⟨m,Y,L⟩:=f.loc;obtain ⟨u,M,O⟩:=L j y v e2 K (.inr (.inl E));refine ⟨u,M,.inr ⟨.inl D,?_⟩⟩;rcases O with ⟨h,_⟩ | ⟨_,c,P,Q,F,G⟩
    ·rw [show X.env.kindOf y=X.env.scope.names.lookup y from rfl,E] at h;cases h
    ·obtain ⟨R,x⟩:=a.has y (.inl D);have:=a.sub y R x;rw [P] at this;cases this
     exact ⟨c,x,Q,k _ _ F,G⟩
 ·obtain ⟨v,o,S,hd⟩:=f.cell y c (a.sub y c e);exact ⟨v,o,k _ _ S,hd⟩
 ·have t:p∈(X.pn++pins)++[]:=t;rw [WJ] at t;obtain ⟨e,n,ne,T,d⟩:=f.pin p t;exact ⟨k _ _ e,n,w _ (ZO e),Qd f ne T,d⟩
 ·show (Ij caps σ).length=N'.length;unfold Ij;rw [Y3];exact I
theorem dZ {pl:List (Addr×Obj)}{t:St}{k:Hp}{s':X2}{p:Addr}{items:Array Value}{r:List V}{g:Heap}(M:Inv X pins σ H2 s2)(hf:∀b∈fp,FpOk X pins H2 b)(a:Inv (Cd X scope cl N' C fp pins s2 H2) pl t k s')
  (w:s'.heap.PlainList p items) (h:k p=none) (s:s2.heap.get? p=none) (x:p≠C) (z:Vals r items.toList) (A:r.length<=Y7) (i:yb C s'.heap g):Inv X pins σ (upd k p (.lst r)) { s' with heap:=g }:=by
 have B:s2.heap.objs.size<=C:=a.ok.above;have j:∀b o,s2.heap.get? b=some o->b≠C:=λ b o e=>XG (X1 (ZO e) B)
 have y:k C=none:=a.free;obtain ⟨D,E⟩:=w;refine M.call' (s':={ s' with heap:=g }) (ch:=fp) (ht:=a.tk) a.os ⟨λ b o e n d f=>i.extBut b o (j b o e) (a.base.keep b o e n d f),λ b o e n d f=>?_,λ b o e n f=>?_,λ b o e f=>?_,λ b xs e=>?_,λ b o u e=>?_,λ b ps e=>?_⟩ (λ b o e=>?_) a.bare λ b d=>?_
 ·obtain ⟨F,q⟩:=a.base.slot b o e n d f;exact ⟨F,i.extBut b _ (j b o e) q⟩
 ·have:b≠p:=λ l=>by rw [l,s] at e;cases e
  rw [BK this];exact a.base.free b o e n f
 ·obtain ⟨G,q⟩:=a.base.there b o e f;exact ⟨G,i.extBut b _ (j b o e) q⟩
 ·have q:=a.base.tups b xs e;rw [BK (Bq q h)];exact q
 ·have q:=a.base.frzs b o u e;rw [BK (Bq q h)];exact q
 ·obtain ⟨m,q⟩:=a.base.tbls b ps e;exact ⟨m,by rw [BK (Bq q h)];exact q⟩
 ·by_cases d:b=p
  ·subst d;rw [Al] at e;cases e
   exact ⟨A,items.toList,D,z,i.extBut _ _ x E⟩
  ·rw [BK d] at e;refine (a.hok b o e).stay (λ c v H q=>i.extBut c v ?_ q) (λ c q=>by rw [BK (Bq q h)];exact q) λ c xs q=>by rw [BK (Bq q h)];exact q
   intro l;subst l;rcases H with l | l
   ·rw [<- l,y] at e;cases e
   ·rw [y] at l;cases l
 ·obtain ⟨N,I,O,J,K,L⟩:=hf b d;exact ⟨J,I,K,L⟩
end
def Bv (X:Cx)(d:List Expr)(t:TT):Prop:=
 ∀(a:List (Addr×Obj)) (s:X2) (b:St) (H:Hp) (Q:Bool->Hp->Prop),Inv X a b H s->t b H Q->
  wpAny (model X.prog X.w) X.A (forIn d true λ c r=>if r=true then do let ok <- isTrue c X.env (eval c X.env);pure (JU ok) else pure (JU r)) (TP X a b Q) X.xe s
def Gv:TT:=λ _ H Q=>Q true H
theorem Eb {X:Cx}:Bv X [] Gv:=λ a s b H Q c d=>by
 simp only [List.forIn_nil];exact Yf ⟨H,c,d⟩
theorem dY {X:Cx}{c:Expr}{t:TT}(d:PT X c t):Bv X [c] t:=λ a s e H Q g h=>by
 simp only [QW,List.forIn_nil,if_true];exact W1 (W1 (UI (d a s e H Q g h) (λ b s' f=>Yf (Yf f)) λ _ _ x=>x))
def Hk (r:TG)(tt:TT)(j:TE)(k:It)(l:St)(n:Hp)(Q:VK):Prop:=∃h:Nat->Nat->St->List V->Hp->Prop,(∃m,h 0 m l [] n)/\∀i m e c H,h i m e c H->c.length<=Y7/\
 ((k.stop i H/\∀p,H p=none->Q (.ref p) (upd H p (.lst c)))\/
   (k.go i H/\∀x f,k.yld i H x f->r x e f λ a o=>tt a o λ b g=>if b=true then j a g λ y q=>∃d,d < m/\h (i+1) d a (c++[y]) q else ∃d,d < m/\h (i+1) d a c g))
def Jd (c:TI)(f:TG)(tt:TT)(d:TE)(a:List (Option Nat)):TE:=λ b H Q=>c b H λ g e=>Hk f tt d g (Ij a b) e Q
theorem bU {X:Cx}{tg a5 iter:Expr}{W:List Expr}{a:Scope}{pos:Pos}{f2:TI}{k6:TG}{tt:TT}{f3:TE}{cl:List (Str×Addr)}(z:List Str)(M:List (Option Nat))(f4:X.calm=true)(h2:PI X tg iter f2)
  (h3:∀C h g O k,PG (Cd X a cl z C h g O k) tg k6) (ht:∀C h g O k,Bv (Cd X a cl z C h g O k) W tt) (h4:∀C h g O k,PE (Cd X a cl z C h g O k) a5 f3)
  (a6:CapOk X a cl) (hcell:∀y∈a.names,y.2≠.cell) (P:a.kind=.function) (b2:∀y∈a.names,y.2=.local->a.names.lookup y.1=some .local) (h5:M.length=z.length)
  (d6:∀(i j:Nat),M[i]?=some (some j)->∃y:Str,z[i]?=some y/\X.N[j]?=some y/\(ub a X.env).names.lookup y=some .cell/\X.env.scope.names.lookup y=some .cell)
  (h6:∀x,ze iter X.env x=pure x) {g:List (Addr×Obj)} {s:X2} {b3:St} {H:Hp} {Q:VK} {use:Option (Value->Sem Unit)} {QQ:Value->X2->Prop}
  (f5:∀(C E:Addr) (h:List Addr) (O b1:X2) (k c1:Hp) (pl:List (Addr×Obj)) (D:St) (items:Array Value) (q:List V),Inv X g b3 k O->(∀b∈h,FpOk X g k b)->Inv (Cd X a cl z C h g O k) pl D c1 b1->b1.heap.PlainList E items->c1 E=none->O.heap.get? E=none->E≠C->
   Vals q items.toList->q.length<=Y7->(∀p,c1 p=none->Q (.ref p) (upd c1 p (.lst q)))->compPost (model X.prog X.w) X.A X.xe use QQ (.ref E) C (.ok .next) b1)
  (k9:Inv X g b3 H s) (l0:Jd f2 k6 tt f3 M b3 H Q):wpAny (model X.prog X.w) X.A (comprehension (.ListComp a5 [⟨tg,iter,W,0⟩] a pos) a X.env (firstIterPos [⟨tg,iter,W,0⟩] pos) (newList []) false (eval iter X.env) use) QQ X.xe s:=by
 refine wpAny_comprehension_free (use:=use) rfl h6 a6.clos P b2 (thn (h2 g s b3 H _ k9 l0) λ l1 a1 F=>thn F λ k7 f d7=>?_)
 obtain ⟨it,h,b4,l4,k,rfl,R,T,c8,c2,h7,⟨h8,h9⟩,turn⟩:=d7;have b5:∀b∈h,b < f.heap.objs.size:=λ b l=>by obtain ⟨o,e,_⟩:=T.obj _ _ c8 b l;exact ZO e
 refine zd (wpAny_newFunctionEnv hcell (by intro y i0;simp at i0) (λ F J G=>?_) P)
 dsimp only at J G ⊢
 generalize b6:f.heap.push { cls:=.type "list",dict:=none,data:=.seq ([]:List Value).toArray }=Y at J G ⊢;have d8:Y.objs.size=f.heap.objs.size+1:=by rw [<- b6,Jb]
 have a7:f.heap.objs.size≠Y.objs.size:=by rw [d8];exact XG (xo _)
 have d9:f.heap.objs.size<=Y.objs.size:=by rw [d8];exact wm _
 have a8:∀b,b < f.heap.objs.size->b≠Y.objs.size:=λ b l=>by rw [d8];exact XG (Nat.lt_succ_of_lt l)
 have c9:∀b o,f.heap.get? b=some o->F.get? b=some o:=λ b o e=>G.extBut b o (a8 b (ZO e)) (Za _ (b6▸Za _ e))
 have e0:F.PlainList f.heap.objs.size #[]:=⟨_,G.extBut _ _ a7 (Za _ (b6▸XB _ rfl))⟩;have S:f.heap.get? f.heap.objs.size=none:=Nj (Zj _);have f6:k f.heap.objs.size=none:=R.hok.fresh (Zj _);generalize a9:f.heap.objs.size=E at *;generalize k8:Y.objs.size=C at *;have d0:∀b∈h,b≠E:=λ b l=>XG (b5 b l)
 have U:∀{t:Hp} {pl:List (Addr×Obj)},(∀p∈pl,p.1=E)->(∀b∈h,t b=none)->∀b∈h,FpOk (Cd X a cl z C h g f k) pl t b:=λ {t pl} f7 i1 b l=>by
  obtain ⟨l2,i2,f8,l3,i3,i4⟩:=c2 b l;refine ⟨i1 b l,a8 b (b5 b l),Qd R i2 f8,.inl l,λ y c e=>i3 y c (a6.sub y c e),λ p I=>?_⟩
  rcases XO.mp I with I | I
  ·exact i4 p I
  ·rw [f7 p I];exact (d0 b l).symm
 have f9:∀n s',(∃i D q,∃(items:Array Value),∃t,Inv (Cd X a cl z C h g f k) [] D t s'/\b4 i s'.heap/\(∀b∈h,t b=none)/\s'.heap.PlainList E items/\Vals q items.toList/\t E=none/\h7 i n D q t)->
   wpAny (model X.prog X.w) X.A (pyNext (.ref it)) (λ r a1=>match r with
   | none=>compPost (model X.prog X.w) X.A X.xe use QQ (.ref E) C (.ok .next) a1
   | some v=>wpAny (model X.prog X.w) X.A (xS tg (.ref it) v) (λ _ c3=>wpAny (model X.prog X.w) X.A (FI tg (NN a cl C X.env) v) (λ _ c4=>
     wpAny (model X.prog X.w) X.A (forIn W true λ c r=>if r=true then do let ok <- isTrue c (NN a cl C X.env) (eval c (NN a cl C X.env));pure (JU ok) else pure (JU r)) (λ ok B=>
      if ok=true then wpAny (model X.prog X.w) X.A (eval a5 (NN a cl C X.env)) (λ x e1=>
       wpAny (model X.prog X.w) X.A (call (.builtin "list.append") [.ref E,x]) (λ _ a2=>∃m,m < n/\∃i D q,∃(items:Array Value),∃t,Inv (Cd X a cl z C h g f k) [] D t a2/\b4 i a2.heap/\(∀b∈h,t b=none)/\a2.heap.PlainList E items/\Vals q items.toList/\t E=none/\h7 i m D q t) (λ _ _=>False) e1) (λ _ _=>False) B
      else ∃m,m < n/\∃i D q,∃(items:Array Value),∃t,Inv (Cd X a cl z C h g f k) [] D t B/\b4 i B.heap/\(∀b∈h,t b=none)/\B.heap.PlainList E items/\Vals q items.toList/\t E=none/\h7 i m D q t) (λ _ _=>False) c4) (λ _ _=>False) c3) (λ _ _=>False) a1) (λ _ _=>False) s':=by
  rintro n e2 ⟨i,L,q,items,b7,i5,d1,d2,g0,b0,g1,i6⟩
  obtain ⟨i7,i8⟩:=turn i n L q b7 i6;obtain ⟨a3,c5⟩:=id g0;have e3:E∉frs X.stack:=λ e4=>by
   obtain ⟨_,o,e,_⟩:=R.stack.mem e4;rw [S] at e;cases e
  have d3:Inv (Cd X a cl z C h g f k) [(E,{ cls:=.type "list",data:=.seq items a3 })] L b7 e2:=i5.pins_of λ p I=>by
   have e:p=(E,{ cls:=.type "list",data:=.seq items a3 }):=by simpa using I
   subst e;exact ⟨c5,g1,a7,e3,λ v e4=>by cases e4⟩
  have one:∀p∈[(E,({ cls:=.type "list",data:=.seq items a3 }:Obj))],p.1=E:=λ p I=>by
   have e:p=(E,{ cls:=.type "list",data:=.seq items a3 }):=by simpa using I
   subst e;rfl
  rcases i8 with ⟨stop,i9⟩ | ⟨go,step⟩
  ·refine thn (T.done (Cd X a cl z C h g f k) rfl rfl rfl f4 i _ e2 L b7 (λ _ _=>False) d3 (U one d2) d1 stop) λ r b1 ⟨e5,g2⟩=>?_
   subst e5;obtain ⟨j0,g3,_⟩:=g2.pin _ (YP _ (U0.mpr rfl));exact f5 C E h f b1 k b7 _ L items q R c2 g2 ⟨a3,j0⟩ g3 (a9▸S) a7 b0 i7 i9
  ·refine thn (T.item (Cd X a cl z C h g f k) rfl rfl rfl f4 i _ e2 L b7 (λ _ _=>False) d3 (U one d2) d1 go) λ r b1 ⟨u,e5,j1⟩=>?_
   subst e5;refine thn j1 λ _ g4 ⟨x,g5,j2,j3,j4,b8,g6⟩=>?_
   have g7:=j2.pinned (U one g6) (T.obj _ _ b8);refine thn (h3 C h g f k _ g4 L g5 x u _ g7 j3 (step x g5 j4)) λ _ j5 ⟨K,j6,j7,j8⟩=>?_
   refine thn (ht C h g f k _ j5 K j6 _ j7 j8) λ b j9 ⟨g8,g9,c6⟩=>?_
   have b9:∀{Z:Hp} {a0:X2},Inv (Cd X a cl z C h g f k) ([(E,({ cls:=.type "list",data:=.seq items a3 }:Obj))]++pinsAt h g4.heap) K Z a0->
     Inv (Cd X a cl z C h g f k) [] K Z a0/\b4 (i+1) a0.heap/\(∀b∈h,Z b=none)/\a0.heap.PlainList E items/\Z E=none:=λ {Z a0} a4=>by
    refine ⟨a4.pins_of (λ p I=>nomatch I),T.keep _ _ _ b8 λ b l o e=>(a4.pin (b,o) (YP _ (YP _ (Pk l e)))).1,λ b l=>?_,?_,?_⟩
    ·obtain ⟨o,e,d⟩:=T.obj _ _ b8 b l;exact (a4.pin (b,o) (YP _ (YP _ (Pk l e)))).2.1
    ·exact ⟨a3,(a4.pin _ (YP _ (yY _ (U0.mpr rfl)))).1⟩
    ·exact (a4.pin _ (YP _ (yY _ (U0.mpr rfl)))).2.1
   cases b with
   | false=>
    rw [if_neg Zo] at c6;obtain ⟨e6,e7,k0⟩:=c6;obtain ⟨e8,e9,f0,f1,c7⟩:=b9 g9;rw [if_neg Zo];exact ⟨e6,e7,i+1,K,q,items,g8,e8,e9,f0,f1,b0,c7,k0⟩
   | true=>
    rw [if_pos rfl] at c6;rw [if_pos rfl];refine thn (h4 C h g f k _ j9 K g8 _ g9 c6) λ v a0 ⟨y,Z,a4,k1,e6,e7,k2⟩=>?_
    obtain ⟨e8,e9,f0,f1,c7⟩:=b9 a4;have h0:items.size<=Y7:=by
     have e:q.length=items.size:=by simpa using b0.length
     omega
    refine wpAny_list_append_plain (hsz:=h0) f1 λ k3 h1 d4=>?_
    have nc:∀y c,cl.lookup y=some c->c≠E:=λ y c e e4=>by
     obtain ⟨v,o,c5,_⟩:=R.cell y c (a6.sub y c e);rw [e4,S] at c5;cases c5
    have np:∀p∈(X.pn++g)++[],p.1≠E:=λ p I e4=>by
     rw [WJ] at I;have e:=(R.pin p I).1;rw [e4,S] at e;cases e
    have k4:Inv (Cd X a cl z C h g f k) [] K Z { a0 with heap:=k3 }:=e8.turned (it:=E) (t':=a0.toks) (λ b o l e=>d4.extBut b o l e) c7 a7 (.inr (My a9)) nc np
    refine ⟨e6,e7,i+1,K,q++[y],items.push v,Z,k4,T.keep _ _ _ e9 λ b l o e=>d4.extBut b o (d0 b l) e,f0,h1,?_,c7,k2⟩
    rw [Array.toList_push];exact b0.append (.cons k1 .nil)
 have k5:Inv (Cd X a cl z C h g f k) [] (Ij M b3) k { f with heap:=F,toks:=f.toks+([]:List (Str×Value)).length }:=
  uv R c2 (λ b l=>a9▸b5 b l) P a6 (by rw [a9];exact d9) rfl R.bare c9 J h5 d6 (ht:=R.tk)
 have d5:b4 0 F:=T.keep _ _ _ c8 λ b _ o e=>c9 b o e
 have c0:∀B:X2,B={ f with heap:=F,toks:=f.toks+([]:List (Str×Value)).length }->
   uu (model X.prog X.w) X.A (.compLoop (.ListComp a5 [⟨tg,iter,W,0⟩] a pos) 0 (.ref it) (.ref E) (NN a cl C X.env)) (compPost (model X.prog X.w) X.A X.xe use QQ (.ref E) C) B:=by
  rintro B rfl
  exact nY _ f9 h8 ⟨0,_,[],#[],k,k5,d5,λ b l=>(c2 b l).1,e0,.nil,f6,h9⟩
 exact codeAny_compStart_list (c0 _ rfl) (T.self X.A 0 _ _ _ d5 (c0 _ rfl))
theorem Ej {X:Cx}{tg l iter:Expr}{n:List Expr}{a:Scope}{pos:Pos}{q:TI}{R:TG}{tt:TT}{r:TE}{cl:List (Str×Addr)}(d:List Str)(c:List (Option Nat))(A:X.calm=true)(B:PI X tg iter q)
  (D:∀C e b f g,PG (Cd X a cl d C e b f g) tg R) (ht:∀C e b f g,Bv (Cd X a cl d C e b f g) n tt) (E:∀C e b f g,PE (Cd X a cl d C e b f g) l r)
  (t:CapOk X a cl) (hcell:∀y∈a.names,y.2≠.cell) (k:a.kind=.function) (h:∀y∈a.names,y.2=.local->a.names.lookup y.1=some .local) (F:c.length=d.length)
  (o:∀(i j:Nat),c[i]?=some (some j)->∃y:Str,d[i]?=some y/\X.N[j]?=some y/\(ub a X.env).names.lookup y=some .cell/\X.env.scope.names.lookup y=some .cell)
  (G:∀x,ze iter X.env x=pure x:=by intro _;rfl):
  PE X (.ListComp l [⟨tg,iter,n,0⟩] a pos) (Jd q R tt r c):=by
 intro b s U H Q V W;rw [eval_ListComp];refine bU (use:=none) d c A B D ht E t hcell k h F o G (λ C S e f Y g Z pl T items a0 I J u v w p z K L M=>?_) V W
 obtain ⟨m,O,_⟩:=u.loc;exact ⟨m,O,λ h' P=>⟨.ref S,_,dZ I J u v w p z K L P,rfl,M S w⟩⟩
def gj (i:Nat)(t:TE):TS:=λ c a H=>t a H λ v b=>c.nx (a.set i (some v)) b
theorem T7 {X:Cx}{tg l iter:Expr}{n:List Expr}{a:Scope}{pos w z:Pos}{T:TI}{c9:TG}{tt:TT}{U:TE}{cl:List (Str×Addr)}{y:Str}{i:Nat}(V:X.N.Nodup)(W:X.N[i]?=some y)(a7:Loc X.env.scope y)(q:List Str)(f:List (Option Nat))(a8:X.calm=true)(a9:PI X tg iter T)
  (b0:∀C r d h t,PG (Cd X a cl q C r d h t) tg c9) (ht:∀C r d h t,Bv (Cd X a cl q C r d h t) n tt) (b1:∀C r d h t,PE (Cd X a cl q C r d h t) l U)
  (Y:CapOk X a cl) (hcell:∀y∈a.names,y.2≠.cell) (E:a.kind=.function) (B:∀y∈a.names,y.2=.local->a.names.lookup y.1=some .local) (b2:f.length=q.length)
  (O:∀(i j:Nat),f[i]?=some (some j)->∃y:Str,q[i]?=some y/\X.N[j]?=some y/\(ub a X.env).names.lookup y=some .cell/\X.env.scope.names.lookup y=some .cell)
  (b3:∀x,ze iter X.env x=pure x:=by intro _;rfl) (Z:ql (.ListComp l [⟨tg,iter,n,0⟩] a pos) (some (.Name y z)) w.line X.env=pure true:=by rfl)
  (a0:X.fn y=true\/X.env.scope.names.lookup y=some .local:=by first | exact .inl rfl | exact .inr rfl | assumption):
  PS X (.Assign [.Name y z] (.ListComp l [⟨tg,iter,n,0⟩] a pos) w) (gj i (Jd T c9 tt U f)):=by
 intro d s P H d2 d3 d4;rw [exec_Assign_Name_used _ _ _ _ Z];refine W1 (ut (W1 ?_));show wpAny _ X.A (do let _ <- comprehension (.ListComp l [⟨tg,iter,n,0⟩] a pos) a X.env _ (newList []) false (eval iter X.env) (some (FI (.Name y z) X.env))) _ _ s
 refine W1 (UI (bU (use:=some (FI (.Name y z) X.env)) (QQ:=λ _ s'=>SP X d d2 .next s') q f a8 a9 b0 ht b1 Y hcell E B b2 O b3
  (λ C g r h Q t F pl d0 items G u b4 I a1 a2 R L b5 b6 b7=>?_) d3 d4) (λ _ s' b8=>Yf (Yf b8)) λ _ _ e=>e)
 have D:h.heap.objs.size<=C:=I.ok.above;obtain ⟨m,b9,_⟩:=I.loc;obtain ⟨J,es,c0,a3,M,K⟩:=id b9;have d1:Inv X d P (upd F g (.lst G)) Q:=dZ u b4 I a1 a2 R L b5 b6 (MI ..);have a4:upd F g (.lst G) C=none:=by rw [BK (QO L)];exact I.free
 have c1:C≠X.env.locals:=WS (X1 u.lt D);have c2:C∉X.fs:=u.nofs D;have c3:Inv X (d++[(C,J)]) P (upd F g (.lst G)) Q:=d1.pins_of λ p k=>by
  rcases XO.mp k with k | k
  ·exact d1.pin p (YP _ k)
  ·have e:p=(C,J):=by simpa using k
   subst e;exact ⟨a3,a4,c1,c2,λ v S=>by rw [M] at S;cases S⟩
 show wpAny _ X.A (FI (.Name y z) X.env (.ref g)) _ _ Q;refine wpAny_assign_Name (JG c3 V W a7 (show RelV (.ref g) (WG g) from rfl) (λ a5 a6=>?_) a0)
 obtain ⟨c4,_⟩:=a6.pin (C,J) (YP _ (YP _ (U0.mpr rfl)));refine ⟨m,⟨J,es,c0,c4,M,K⟩,λ h' c5=>?_⟩
 have c6:Inv X d (P.set i (some (.ref g))) (upd F g (.lst G)) a5:=a6.unpinned;refine ⟨_,_,c6.turned (it:=C) (t':=a5.toks) (λ b o c7 e=>c5.extBut b o c7 e) a4 c1 (.inr (U1 u.sz D)) (λ x c e S=>?_) (λ p k S=>?_),b7 g a2⟩
 ·obtain ⟨v,o,c8,_⟩:=u.cell x c e;exact absurd (ZO c8) (by rw [S];exact Nat.not_lt.mpr D)
 ·have e:=(u.pin p k).1;exact absurd (ZO e) (by rw [S];exact Nat.not_lt.mpr D)
theorem SqT.keep {K:FrG}{H c:Hp}{a:Addr}{xs:List V}(s:Same H c)(b:SqT K H a xs):SqT K c a xs:=by
 rcases b with (b | ⟨o,b⟩) | b
 ·exact .inl (.inl (s _ _ b))
 ·exact .inl (.inr ⟨o,s _ _ b⟩)
 ·exact .inr b
theorem SqL.keep {K:FrG}{H b:Hp}{a:Addr}{xs:List V}(s:Same H b)(c:SqL K H a xs):SqL K b a xs:=s.seq c
mutual
theorem DV.keep {K:FrG}{H a:Hp}(s:Same H a):∀{v:V} {d:ZB},DV K H v d->DV K a v d
 | _,_,.non=>.non
 | _,_,.bl b=>.bl b
 | _,_,.int i=>.int i
 | _,_,.str x=>.str x
 | _,_,.lst c q=>.lst (c.keep s) (DVs.keep s q)
 | _,_,.tup c q=>.tup (c.keep s) (DVs.keep s q)
 | _,_,.dct c=>.dct (s _ _ c)
theorem DVs.keep {K:FrG}{H a:Hp}(s:Same H a):∀{vs:List V} {ds:List ZB},DVs K H vs ds->DVs K a vs ds
 | _,_,.nil=>.nil
 | _,_,.cons b q=>.cons (DV.keep s b) (DVs.keep s q)
end
section
variable {K:FrG}{H:Hp}{v:V}{vs:List V}{d d1 d2 d3 d4:ZB}{ds:List ZB}
theorem DVs.len:∀{vs:List V} {ds:List ZB},DVs K H vs ds->vs.length=ds.length
 | _,_,.nil=>rfl
 | _,_,.cons _ q=>by rw [X4,X4,DVs.len q]
theorem DVs.nil_of (a:DVs K H vs []):vs=[]:=by cases a;rfl
theorem DVs.cons_of (a:DVs K H vs (d::ds)):∃x xs,vs=x::xs/\DV K H x d/\DVs K H xs ds:=by
 cases a with
 | cons a q=>exact ⟨_,_,rfl,a,q⟩
theorem DV.tup_of (b:DV K H v (.tuple ds)):∃a xs,v=.ref a/\SqT K H a xs/\DVs K H xs ds:=by
 cases b with
 | tup b q=>exact ⟨_,_,rfl,b,q⟩
theorem DV.lst_of (b:DV K H v (.list ds)):∃a xs,v=.ref a/\SqL K H a xs/\DVs K H xs ds:=by
 cases b with
 | lst b q=>exact ⟨_,_,rfl,b,q⟩
theorem DVs.one (a:DVs K H vs [d1]):∃x,vs=[x]/\DV K H x d1:=by
 cases a with
 | cons a q=>cases q;exact ⟨_,rfl,a⟩
theorem DVs.two (a:DVs K H vs [d1,d2]):∃x y,vs=[x,y]/\DV K H x d1/\DV K H y d2:=by
 cases a with
 | cons a q=>
  obtain ⟨y,rfl,b⟩:=q.one;exact ⟨_,_,rfl,a,b⟩
theorem DVs.three (a:DVs K H vs [d1,d2,d3]):∃x y b,vs=[x,y,b]/\DV K H x d1/\DV K H y d2/\DV K H b d3:=by
 cases a with
 | cons a q=>
  obtain ⟨y,b,rfl,c,e⟩:=q.two;exact ⟨_,_,_,rfl,a,c,e⟩
theorem DVs.four (a:DVs K H vs [d1,d2,d3,d4]):∃x y b u,vs=[x,y,b,u]/\DV K H x d1/\DV K H y d2/\DV K H b d3/\DV K H u d4:=by
 cases a with
 | cons a q=>
  obtain ⟨y,b,u,rfl,c,e,f⟩:=q.three;exact ⟨_,_,_,_,rfl,a,c,e,f⟩
theorem DV.t2 (f:DV K H v (.tuple [d1,d2])):∃a x y,v=.ref a/\SqT K H a [x,y]/\DV K H x d1/\DV K H y d2:=by
 obtain ⟨a,xs,rfl,b,q⟩:=f.tup_of;obtain ⟨x,y,rfl,c,e⟩:=q.two;exact ⟨a,x,y,rfl,b,c,e⟩
theorem DV.t3 (h:DV K H v (.tuple [d1,d2,d3])):∃a x y b,v=.ref a/\SqT K H a [x,y,b]/\DV K H x d1/\DV K H y d2/\DV K H b d3:=by
 obtain ⟨a,xs,rfl,c,q⟩:=h.tup_of;obtain ⟨x,y,b,rfl,e,f,g⟩:=q.three;exact ⟨a,x,y,b,rfl,c,e,f,g⟩
theorem DV.t4 (i:DV K H v (.tuple [d1,d2,d3,d4])):∃a x y b u,v=.ref a/\SqT K H a [x,y,b,u]/\DV K H x d1/\DV K H y d2/\DV K H b d3/\DV K H u d4:=by
 obtain ⟨a,xs,rfl,c,q⟩:=i.tup_of;obtain ⟨x,y,b,u,rfl,e,f,g,h⟩:=q.four;exact ⟨a,x,y,b,u,rfl,c,e,f,g,h⟩
theorem DV.int_of {i:Int}(a:DV K H v (.int i)):v=.int i:=by cases a;rfl
theorem DV.str_of {x:Str}(a:DV K H v (.str x)):v=.str x:=by cases a;rfl
theorem DV.bl_of {b:Bool}(a:DV K H v (.bool b)):v=.bl b:=by cases a;rfl
theorem DV.non_of (a:DV K H v .none):v=.non:=by cases a;rfl
theorem DVs.get:∀{vs:List V} {ds:List ZB} {i:Nat} {v:V},DVs K H vs ds->vs[i]?=some v->∃d,ds[i]?=some d/\DV K H v d
 | _,_,_,_,.nil,e=>by simp at e
 | _,_,0,_,.cons c _,e=>by simp at e;subst e;exact ⟨_,rfl,c⟩
 | _,_,i+1,v,.cons _ q,e=>by
  obtain ⟨d,a,b⟩:=DVs.get (i:=i) (v:=v) q (by simpa using e)
  exact ⟨d,by simpa using a,b⟩
theorem DVs.append:∀{vs a:List V} {ds es:List ZB},DVs K H vs ds->DVs K H a es->DVs K H (vs++a) (ds++es)
 | _,_,_,_,.nil,q=>q
 | _,_,_,_,.cons b t,q=>.cons b (DVs.append t q)
end
def J7:ZB->String
 | .none=>"NoneType"
 | .bool _=>"bool"
 | .int _=>"int"
 | .str _=>"str"
 | .list _=>"list"
 | .tuple _=>"tuple"
 | .dict _=>"dict"
section
variable {X:Cx}
theorem Ed:CallR X (.builtin "isinstance") (λ xs H Q=>∃x d c b,xs=[x,.ty c]/\DV X.K H x d/\Bo (J7 d) c=some b/\Q (.bl b) H):=by
 intro j s m H xs us Q h r k;obtain ⟨x,d,c,b,rfl,hd,e,q⟩:=k;obtain ⟨u,v,rfl,f,l⟩:=vals2 r;cases (show v=qn c from l)
 have g:=o6 (K:=X.K) e;refine Qa h.tk ?_;have a:∀tk,1<=tk->EP X j m Q (.bool b) { s with toks:=tk }:=λ tk t=>⟨.bl b,H,h.tok _,rfl,q⟩
 cases hd with
 | non=>exact K3 h f .non g a
 | bl b=>exact K3 h f (.bl b) g a
 | int i=>exact K3 h f (.int i) g a
 | str x=>exact K3 h f (.str x) g a
 | lst k _=>
  cases f
  obtain ⟨its,l,⟨o,n,e1,e2,_⟩,_⟩:=h.list k;exact WU Go h.kIn ⟨o,e1,e2⟩ g (λ p=>nomatch p) a
 | tup k _=>
  cases f
  obtain ⟨its,l,⟨o,e1,e2,_⟩,_⟩:=h.tuple k;exact WU Mi h.kIn ⟨o,e1,e2⟩ g (λ p=>nomatch p) a
 | dct k=>exact K3 h f (.dK k) g a
end
section
variable {X:Cx}{K:FrG}
theorem W0 (a:X.K=K:=by rfl):IxR X (rIxT K):=a▸ix_tup
theorem iT (a:X.A.units+64 < cLine)(b:X.K=K:=by rfl):OpR X (UN .NotEq) (Jr K):=b▸Gy a
end
def Ko (K:FrG)(a:Addr):It:=
 ⟨λ i H=>∃xs x,SqL K H a xs/\xs[i]?=some x,λ i H x b=>∃p v,H p=none/\x=.ref p/\(∀xs,SqL K H a xs->xs[i]?=some v)/\b=upd H p (.tup [.int i,v]),λ i H=>∃xs,SqL K H a xs/\xs.length<=i⟩
theorem lE {P:ZY}{w:World}{K:FrG}{M:List Expr}{x1}{N:Pos}(a e it:Addr)(J:e≠it):Turn P w K (.Tuple M x1 N) (Ko K a) [e,it] e (λ i a1=>(∃g,IsEnum a1 e it (i:Int) g)/\a1.IsListIter it a i) where
 mem:=by simp
 obj:=λ i a1 ⟨⟨g,st⟩,b3,b4,c8,d'⟩ b h=>by
  rcases W4.mp h with d | d
  ·subst d;exact ⟨_,st,λ v q=>by cases q⟩
  ·have d:b=it:=by simpa using d
   subst d;exact ⟨b3,b4,λ v q=>by rw [d'] at q;cases q⟩
 keep:=λ i a1 h' ⟨⟨g,st⟩,j⟩ k=>⟨⟨g,k e (by simp) _ st⟩,j.at λ o q=>k it (by simp) o q⟩
 item:=by
  intro X O Q R a2 i t s a3 H E C hf ⟨⟨g,st⟩,j⟩ S;subst O Q R;obtain ⟨xs,x,D,T⟩:=S;obtain ⟨its,U,p,b5⟩:=C.list D;obtain ⟨u,b6,b7⟩:=U.get T;obtain ⟨a4,a5,c9,b8,b9,c0⟩:=hf e (by simp)
  obtain ⟨F,G,c1,V,W,Y⟩:=hf it (by simp)
  refine wpAny_pyNext_enum_item st j p.isList (x:=u) (by simpa using b6) J λ d0 a6 Z a7 c7 a8=>?_
  refine ⟨_,rfl,?_⟩;refine wpAny_letOwnedTupleGo_enum a6 λ a0 a9 z=>?_
  have A:∀b o,s.heap.get? b=some o->b≠s.heap.objs.size:=λ b o q=>XG (ZO q)
  have B:∀b o,b≠e->b≠it->s.heap.get? b=some o->a0.get? b=some o:=λ b o L b0 q=>z.extBut b o L (a8 b o L b0 q)
  have I:∀b o,H b=some o->b≠e/\b≠it:=λ b o q=>⟨(λ d=>by rw [d,a4] at q;cases q),λ d=>by rw [d,F] at q;cases q⟩
  have l:H s.heap.objs.size=none:=C.hok.fresh (Zj _);have b1:a0.get? s.heap.objs.size=some { cls:=.type "tuple",data:=.seq #[.int i s.toks,u] }:=z.extBut _ _ (WS (ZO st)) a7;have d1:Inv X t a3 (upd H s.heap.objs.size (.tup [.int i,x])) { s with heap:=a0,toks:=s.toks+1 }:=by
   refine C.step (g':=s.gens) (d':=s.drawn) (ch:=[e,it]) (λ b h=>?_) (λ b o _ _ f q n=>B b o (λ d=>f (by simp [d])) (λ d=>f (by simp [d])) q) (λ b o _ _ f q n=>⟨o.slots,B b o (λ d=>f (by simp [d])) (λ d=>f (by simp [d])) q⟩)
    (λ b o _ q n=>by rw [BK (A b o q)];exact n) (λ b o f q=>⟨o,B b o (λ d=>f (by simp [d])) (λ d=>f (by simp [d])) q⟩)
    (λ b b2 q=>by rw [BK (Bq q l)];exact q) (λ b o y q=>by rw [BK (Bq q l)];exact q) (λ b ps q=>⟨#[],by rw [BK (Bq q l),q];simp⟩) (λ m c2=>?_) (λ b o q=>?_) C.bare
   ·rcases W4.mp h with d | d
    ·subst d;exact ⟨b8,a5,b9,c0⟩
    ·have d:b=it:=by simpa using d
     subst d;exact ⟨V,G,W,Y⟩
   ·obtain ⟨o,es,c3,c4,r⟩:=c2;exact ⟨o,es,c3,B _ o (QO a5) (QO G) c4,r⟩
   ·by_cases h:b=s.heap.objs.size
    ·subst h;rw [Al] at q;cases q
     exact ⟨by show 2<=Y7;decide,[.int i s.toks,u],.cons ⟨_,rfl⟩ (.cons b7 .nil),_,b1,rfl,_,rfl⟩
    ·rw [BK h] at q;refine (C.hok b o q).stay (λ c v f d=>B c v ?_ ?_ d) (λ c d=>by rw [BK (Bq d l)];exact d) λ c b2 d=>by rw [BK (Bq d l)];exact d
     ·rcases f with d | d
      ·rw [d];exact (I b o q).1
      ·exact (I c _ d).1
     ·rcases f with d | d
      ·rw [d];exact (I b o q).2
      ·exact (I c _ d).2
  refine ⟨.ref s.heap.objs.size,_,d1,rfl,⟨s.heap.objs.size,x,l,rfl,(λ b2 c5=>by rw [C.list_inj c5 D];exact T),rfl⟩,⟨⟨u,?_⟩,?_⟩,λ b h=>?_⟩
  ·have d:((i+1:Nat):Int)=(i:Int)+1:=by push_cast;rfl
   rw [d];exact a9
  ·exact Z.extBut z.extBut (QO J)
  ·rcases W4.mp h with d | d
   ·subst d;rw [BK (A _ _ st)];exact a4
   ·have d:b=it:=by simpa using d
    subst d;obtain ⟨o,q,_⟩:=j;rw [BK (A _ _ q)];exact F
 done:=by
  intro X O Q R a2 i t s a3 H E C hf ⟨⟨g,st⟩,j⟩ S;subst O Q R;obtain ⟨xs,D,T⟩:=S;obtain ⟨its,U,p,b5⟩:=C.list D;obtain ⟨F,G,c1,V,W,Y⟩:=hf it (by simp)
  have hl:=U.length;exact wpAny_pyNext_enum_end (C.ok.hd a2) st j p.isList (by simp;omega) λ h' c6=>⟨rfl,C.turned (t':=s.toks) (λ b o h e=>c6 b o h e) F G V W Y⟩
 self:=λ _ _ _ _ _ ⟨⟨g,st⟩,_⟩ a1=>wpAny_pyIter_enum st a1
section
variable {X:Cx}{elts:List Expr}{x1:Nat}{tpos:Pos}
def ur (K:FrG)(c:TA):TI:=λ d H e=>c d H λ vs b=>∃a,vs=[.ref a]/\(∃xs,SqL K b a xs)/\e (Ko K a) b
theorem aJ {a:Expr}{g:TA}{p pos:Pos}(l:Gl X "enumerate")(m:X.mg "enumerate"=none)(n:PA X [a] g)(o:Xa [a] X.env=[(false,eval a X.env)]:=by rfl):PI X (.Tuple elts x1 tpos) (.Call (.Name "enumerate" p) [a] [] pos) (ur X.K g):=by
 intro f s h H F B C;refine Call_ (Gk B l m boot_enumerate (Us (thn (n pos f s h H _ B C) λ us c ⟨vs,i,d,t,v⟩=>?_) o rfl))
 obtain ⟨a,e,⟨xs,w⟩,q⟩:=v;subst e;obtain ⟨u,rfl,r⟩:=vals1 t;cases r
 obtain ⟨its,D,p,E⟩:=d.list w;refine call_enumerate_list p.isList λ h' j x hsz y=>?_
 have z:Inv X f h i { c with heap:=h' }:=d.kept (t':=c.toks) y
 refine wpAny_pyIter_enum j ⟨c.heap.objs.size+1,[c.heap.objs.size+1,c.heap.objs.size],_,_,i,rfl,z,lE a _ _ (Nat.succ_ne_self _),⟨⟨_,j⟩,x⟩,λ b A=>?_,q⟩
 rcases W4.mp A with k | k
 ·subst k;exact d.fpOk (wm _) (d.hok.fresh (wm _))
 ·have k:b=c.heap.objs.size:=by simpa using k
  subst k;exact d.fpOk (Zj _) (d.hok.fresh (Zj _))
end
theorem fM {K:FrG}{a:Addr}{xs:List V}{z:TG}{tb:TS}{k:Ends}{b:St}{H:Hp}(c:Nat->St->Hp->Prop)(o:c 0 b H)(hl:∀i b H,i<=xs.length->c i b H->SqL K H a xs)
  (s:∀i x b H p,xs[i]?=some x->c i b H->H p=none->z (.ref p) b (upd H p (.tup [.int i,x])) λ f j=>tb { k with nx:=c (i+1),ct:=c (i+1),bk:=k.nx } f j) (hd:∀b H,c xs.length b H->k.nx b H):
  ∃t:Nat->Nat->St->Hp->Prop,(∃m,t 0 m b H)/\∀i m b H,t i m b H->
   ((Ko K a).stop i H/\k.nx b H)\/((Ko K a).go i H/\∃N:St->Hp->Prop,(∀g d,N g d->∃l,l < m/\t (i+1) l g d)/\∀x d,(Ko K a).yld i H x d->z x b d λ f j=>tb { k with nx:=N,ct:=N,bk:=k.nx } f j):=by
 refine ⟨λ i m b H=>m=xs.length - i/\i<=xs.length/\c i b H,⟨xs.length,by simp,Ul _,o⟩,?_⟩
 rintro i m b H ⟨rfl,u,p⟩
 have q:=hl i b H u p;by_cases h:i < xs.length
 ·refine .inr ⟨⟨xs,xs[i],q,by simp [h]⟩,c (i+1),λ g d w=>⟨xs.length - (i+1),by omega,rfl,h,w⟩,λ x d y=>?_⟩
  obtain ⟨r,v,n,rfl,y,rfl⟩:=y;exact s i v b H r (y xs q) p n
 ·have e:i=xs.length:=by omega
  subst e;exact .inl ⟨⟨xs,q,Zj _⟩,hd b H p⟩
def Nx (n:Nat)(b:Nat->St->List V->Hp->Prop)(i:Nat)(c:St)(d:List V)(H:Hp):Prop:=∃a,a < n - i/\(a=n - (i+1)/\i+1<=n/\b (i+1) c d H)
theorem nx {n:Nat}{a:Nat->St->List V->Hp->Prop}{i:Nat}{b:St}{c:List V}{H:Hp}(d:i < n)(e:a (i+1) b c H):Nx n a i b c H:=⟨n - (i+1),by omega,rfl,d,e⟩
theorem CK {a:Type}{xs:List a}{i:Nat}{x:a}(b:xs[i]?=some x):i < xs.length:=(XT.mp b).1
theorem XC {K:FrG}{a:Addr}{xs:List V}{z:TG}{tt:TT}{j:TE}{Q:VK}{d:St}{H:Hp}(f:Nat->St->List V->Hp->Prop)(o:f 0 d [] H)(s:∀i d c H,i<=xs.length->f i d c H->c.length<=Y7/\SqL K H a xs)
  (t:∀i x d c H,xs[i]?=some x->f i d c H->z x d H λ g u=>tt g u λ b k=>if b=true then j g k λ y v=>Nx xs.length f i g (c++[y]) v else Nx xs.length f i g c k)
  (hd:∀d c H p,f xs.length d c H->H p=none->Q (.ref p) (upd H p (.lst c))):
  Hk z tt j (Itl K a) d H Q:=by
 refine ⟨λ i m d c H=>m=xs.length - i/\i<=xs.length/\f i d c H,⟨xs.length,by simp,Ul _,o⟩,?_⟩
 rintro i m h c H ⟨rfl,w,p⟩
 obtain ⟨A,q⟩:=s i h c H w p;refine ⟨A,?_⟩;by_cases l:i < xs.length
 ·refine .inr ⟨⟨xs,xs[i],q,by simp [l]⟩,λ x B y=>?_⟩
  obtain ⟨rfl,y⟩:=y;exact t i x h c _ (y xs q) p
 ·have e:i=xs.length:=by omega
  subst e;exact .inl ⟨⟨xs,q,Zj _⟩,λ r n=>hd h c _ r p n⟩
theorem yz {K:FrG}{a:Addr}{xs:List V}{z:TG}{tt:TT}{j:TE}{Q:VK}{d:St}{H:Hp}(f:Nat->St->List V->Hp->Prop)(o:f 0 d [] H)(s:∀i d c H,i<=xs.length->f i d c H->c.length<=Y7/\SqT K H a xs)
  (t:∀i x d c H,xs[i]?=some x->f i d c H->z x d H λ g u=>tt g u λ b k=>if b=true then j g k λ y v=>Nx xs.length f i g (c++[y]) v else Nx xs.length f i g c k)
  (hd:∀d c H p,f xs.length d c H->H p=none->Q (.ref p) (upd H p (.lst c))):
  Hk z tt j (Itt K a) d H Q:=by
 refine ⟨λ i m d c H=>m=xs.length - i/\i<=xs.length/\f i d c H,⟨xs.length,by simp,Ul _,o⟩,?_⟩
 rintro i m h c H ⟨rfl,w,p⟩
 obtain ⟨A,q⟩:=s i h c H w p;refine ⟨A,?_⟩;by_cases l:i < xs.length
 ·refine .inr ⟨⟨xs,xs[i],q,by simp [l]⟩,λ x B y=>?_⟩
  obtain ⟨rfl,y⟩:=y;exact t i x h c _ (y xs q) p
 ·have e:i=xs.length:=by omega
  subst e;exact .inl ⟨⟨xs,q,Zj _⟩,λ r n=>hd h c _ r p n⟩
theorem AK0 {lo:Int}{n:Nat}{v:TG}{tt:TT}{j:TE}{Q:VK}{c:St}{H:Hp}(d:Nat->St->List V->Hp->Prop)(l:d 0 c [] H)(o:∀i c a H,i<=n->d i c a H->a.length<=Y7)
  (q:∀i c a H,i < n->d i c a H->v (.int (lo+i)) c H λ f s=>tt f s λ b k=>if b=true then j f k λ y t=>Nx n d i f (a++[y]) t else Nx n d i f a k)
  (hd:∀c a H p,d n c a H->H p=none->Q (.ref p) (upd H p (.lst a))):
  Hk v tt j (Itr lo n) c H Q:=by
 refine ⟨λ i m c a H=>m=n - i/\i<=n/\d i c a H,⟨n,by simp,Ul _,l⟩,?_⟩
 rintro i m g a H ⟨rfl,u,p⟩
 refine ⟨o i g a H u p,?_⟩;by_cases h:i < n
 ·refine .inr ⟨h,λ x w y=>?_⟩
  obtain ⟨rfl,rfl⟩:=y;exact q i g a _ h p
 ·have e:i=n:=by omega
  subst e;exact .inl ⟨Zj _,λ r n=>hd g a _ r p n⟩
theorem HQ {K:FrG}{a:Addr}{xs:List V}{o:TG}{f:TE}{Q:VK}{b:St}{H:Hp}(d:Nat->St->List V->Hp->Prop)(g:d 0 b [] H)(h:∀i b c H,i<=xs.length->d i b c H->c.length<=Y7/\SqL K H a xs)
  (j:∀i x b c H,xs[i]?=some x->d i b c H->o x b H λ e k=>f e k λ y l=>Nx xs.length d i e (c++[y]) l)
  (hd:∀b c H p,d xs.length b c H->H p=none->Q (.ref p) (upd H p (.lst c))):Hk o Gv f (Itl K a) b H Q:=
 XC d g h (λ i x b c H m n=>by
  have:=j i x b c H m n
  simpa only [Gv,if_true] using this) hd
theorem JR {K:FrG}{a:Addr}{xs:List V}{o:TG}{f:TE}{Q:VK}{b:St}{H:Hp}(d:Nat->St->List V->Hp->Prop)(g:d 0 b [] H)(h:∀i b c H,i<=xs.length->d i b c H->c.length<=Y7/\SqT K H a xs)
  (j:∀i x b c H,xs[i]?=some x->d i b c H->o x b H λ e k=>f e k λ y l=>Nx xs.length d i e (c++[y]) l)
  (hd:∀b c H p,d xs.length b c H->H p=none->Q (.ref p) (upd H p (.lst c))):Hk o Gv f (Itt K a) b H Q:=
 yz d g h (λ i x b c H m n=>by
  have:=j i x b c H m n
  simpa only [Gv,if_true] using this) hd
theorem xF {lo:Int}{n:Nat}{o:TG}{e:TE}{Q:VK}{a:St}{H:Hp}(c:Nat->St->List V->Hp->Prop)(f:c 0 a [] H)(g:∀i a b H,i<=n->c i a b H->b.length<=Y7)
  (h:∀i a b H,i < n->c i a b H->o (.int (lo+i)) a H λ d j=>e d j λ y k=>Nx n c i d (b++[y]) k)
  (hd:∀a b H p,c n a b H->H p=none->Q (.ref p) (upd H p (.lst b))):Hk o Gv e (Itr lo n) a H Q:=
 AK0 c f g (λ i a b H l m=>by
  have:=h i a b H l m
  simpa only [Gv,if_true] using this) hd
theorem Dt {a:List (Option Nat)}{P:Nat->Nat->Prop}(b:a.all (·.isNone)=true):∀i j,a[i]?=some (some j)->P i j:=λ i j e=>by
 have:=GX.mp b _ (ZN e);cases this
theorem RoomB.room {k:Nat}{A:XU}(r:RoomB true k A):Room k A:=⟨r.hd rfl,r.dp,r.un⟩
structure MC (P:ZY)(w:World)(K:FrG)(mg:Str->Option Value)(base:Heap)(k:Nat)(C:Addr)(m:Str)(ps:List Str)(sp:Sp):Prop where
 ex:∃(f:Addr) (fd:UE),FnB P w K mg base true k f fd ps sp/\Meth K C m f/\Binds K fd ps []
 cl:Cls K C
structure MtFn (K:FrG)(C:Addr)(m qual:Str)(st:Stmt):Prop where
 ex:∃(f:Addr) (fd:UE),Fun K m qual st f fd/\Meth K C m f
 cl:Cls K C
theorem MtFn.mc {P:ZY}{w:World}{K:FrG}{mg:Str->Option Value}{base:Heap}{C:Addr}{m b:Str}{st:Stmt}{N ps:List Str}{k:Nat}{sp:Sp}(T:MtFn K C m b st)(v:FnScope N ps (defScope st))
  (h:∀(kV d e:Value) (g:Option Addr) (a ct:Value) (us:List Value),us.length=ps.length->jo (YN m b (defArgs st) (defBody st) (defScope st) .none kV d e g a ct) ⟨us,[]⟩=pure (ps.zip us))
  (len:∀vs H Q E,sp vs H Q E->vs.length=ps.length)
  (c:∀(f:Addr) (a:Value) (A:XU) (outer:List Env) (s:X2) (H:Hp) (vs:List V) (Q:VK) (E:XK),RoomB true k (A.deeper (ua b (defScope st) s.heap.objs.size f a))->sp vs H Q E->
   ∃t,PSs (Dn true P w K mg base N b (defScope st) f a A outer s H E).nox (defBody st) t/\t { nx:=λ _ i=>Q .non i,rt:=Q } (start N vs) H):MC P w K mg base (k+1) C m ps sp:=by
 obtain ⟨f,fd,r,j⟩:=T.ex;obtain ⟨x,y,kV,d,e,g,a,ct,u,rfl,l,n⟩:=id r.ex;refine ⟨⟨f,_,KZ l n v len λ A outer s H vs Q E o z=>?_,j,r.binds h⟩,T.cl⟩
 obtain ⟨t,p,q⟩:=c f a A outer s H vs Q E o z;exact ⟨t,p.nox,q⟩
structure MkC (P:ZY)(w:World)(K:FrG)(mg:Str->Option Value)(base:Heap)(k:Nat)(x:Str)(C:Addr)(ps:List Str)(sp:Sp):Prop where
 ex:∃(f:Addr) (fd:UE),FnB P w K mg base true k f fd ps sp/\Mk K C f/\Binds K fd ps []
 mg:mg x=some (.ref C)
structure MkFn (K:FrG)(mg:Str->Option Value)(x:Str)(C:Addr)(qual:Str)(st:Stmt):Prop where
 ex:∃(f:Addr) (fd:UE),Fun K "__init__" qual st f fd/\Mk K C f
 mg:mg x=some (.ref C)
theorem MkFn.mkc {P:ZY}{w:World}{K:FrG}{mg:Str->Option Value}{base:Heap}{x:Str}{C:Addr}{b:Str}{st:Stmt}{N ps:List Str}{k:Nat}{sp:Sp}(T:MkFn K mg x C b st)(u:FnScope N ps (defScope st))
  (h:∀(kV d e:Value) (g:Option Addr) (a ct:Value) (us:List Value),us.length=ps.length->jo (YN "__init__" b (defArgs st) (defBody st) (defScope st) .none kV d e g a ct) ⟨us,[]⟩=pure (ps.zip us))
  (len:∀vs H Q E,sp vs H Q E->vs.length=ps.length)
  (c:∀(f:Addr) (a:Value) (A:XU) (outer:List Env) (s:X2) (H:Hp) (vs:List V) (Q:VK) (E:XK),RoomB true k (A.deeper (ua b (defScope st) s.heap.objs.size f a))->sp vs H Q E->
   ∃t,PSs (Dn true P w K mg base N b (defScope st) f a A outer s H E).nox (defBody st) t/\t { nx:=λ _ i=>Q .non i,rt:=Q } (start N vs) H):MkC P w K mg base (k+1) x C ps sp:=by
 obtain ⟨f,fd,q,j⟩:=T.ex;obtain ⟨v,y,kV,d,e,g,a,ct,r,rfl,l,m⟩:=id q.ex;refine ⟨⟨f,_,KZ l m u len λ A outer s H vs Q E n z=>?_,j,q.binds h⟩,T.mg⟩
 obtain ⟨t,o,p⟩:=c f a A outer s H vs Q E n z;exact ⟨t,o.nox,p⟩
section
variable {X:Cx}{k:Nat}{C:Addr}{ps:List Str}{sp:Sp}{x m:Str}{p pos apos:Pos}{e o:Expr}{es:List Expr}{ta:TE}{t:TA}
def Yw (P:ZY)(w:World)(K:FrG)(mg:Str->Option Value)(base:Heap)(k:Nat)(m:Str)(ta:TE)(t:TA):TE:=λ b H Q=>ta b H λ x c=>∃a C d fs ps sp,x=.ref a/\c a=some (.ins C d fs)/\fs.lookup m=none/\
 MC P w K mg base k C m ps sp/\t b c λ vs f=>sp (x::vs) f Q E0
theorem Bb {pl:Sem Bool}(v:PE X o ta)(y:RoomB true k X.A)(z:PA X (e::es) t)
  (c:Xa (e::es) X.env=(false,eval e X.env)::Xa es X.env:=by rfl) (d:(yq pos (Xa es X.env)).any (·.1)=false:=by rfl)
  (ht:eval (.Call (.Attribute o m apos) (e::es) [] pos) X.env=(do
   let g <- eval o X.env
   standAt apos.atName
   let (f,first) <- holding [g] (getMethod g m pl)
   callWith pos f first (yq pos (Xa (e::es) X.env)) (NL pos (jp [] X.env))):=by rfl):
  PE X (.Call (.Attribute o m apos) (e::es) [] pos) (Yw X.prog X.w X.K X.mg X.base k m ta t):=by
 intro b s h H Q L N;refine FV (pl:=pl) (thn (v b s h H _ L N) λ u B ⟨x,D,i,F,a,C,O,fs,ps,sp,ex,G,l,M,q⟩=>?_) ht
 subst ex;obtain rfl:u=WG a:=F;obtain ⟨f,fd,P,j,I⟩:=M.ex;refine fZ i G M.cl j l ?_;refine yk (first:=[.ref a]) (h₀:=X.base) L.ok.mod.kin j.kp (thn (z pos b B h D _ i q) λ us R ⟨vs,S,n,r,J⟩=>⟨n.kIn,?_⟩) c d
 exact fU (us:=.ref a::us) (vs:=.ref a::vs) (dvs:=[]) (ds:=[]) (E:=E0) P.ok y.room I .nil Ag n (.cons rfl r) (by rw [WJ];exact J)
theorem Hm {pl:Sem Bool}(h:PE X o ta)(i:RoomB true k X.A)
  (ht:eval (.Call (.Attribute o m apos) [] [] pos) X.env=(do
   let d <- eval o X.env
   standAt apos.atName
   let (f,first) <- holding [d] (getMethod d m pl)
   callWith pos f first (yq pos (Xa [] X.env)) (NL pos (jp [] X.env))):=by rfl):
  PE X (.Call (.Attribute o m apos) [] [] pos) (Yw X.prog X.w X.K X.mg X.base k m ta tNil):=by
 intro b s j H Q z B;refine FV (pl:=pl) (thn (h b s j H _ z B) λ u D ⟨x,F,c,n,a,C,G,fs,ps,sp,ex,r,l,y,q⟩=>?_) ht
 subst ex;obtain rfl:u=WG a:=n;obtain ⟨f,fd,I,g,v⟩:=y.ex;refine fZ c r y.cl g l ?_;exact NX (first:=[.ref a]) c.kIn g.kp (fU (us:=[.ref a]) (vs:=[.ref a]) (dvs:=[]) (ds:=[]) (E:=E0) I.ok i.room v .nil Ag c (.cons rfl .nil) q)
theorem Nr (l:MkC X.prog X.w X.K X.mg X.base k x C ps sp)(c:RoomB true (k+1) X.A)(d:PA X (e::es) t)(g:Gl X x:=by rfl)(a:(x == ("__debug__":Str))=false:=by decide)
  (h:Xa (e::es) X.env=(false,eval e X.env)::Xa es X.env:=by rfl) (b:(yq pos (Xa es X.env)).any (·.1)=false:=by rfl):
  PE X (.Call (.Name x p) (e::es) [] pos) (tMake C sp [] E0 t):=by
 obtain ⟨f,fd,n,i,j⟩:=l.ex;exact rJ i n.ok c.room g l.mg j .nil Ag d a h b
theorem Eh {f:Str}(a:PE X e ta)(b:xJ e f X.env (eval e X.env)=eval e X.env:=by rfl):PE X (.Attribute e f pos) (tFld X.K ta f):=yZ a b
theorem Hu {f:Str}{b:Pos}{a:Expr}{c:TE}(d:PE X o ta)(hv:PE X a c)(g:ql a (some (.Attribute o f b)) pos.line X.env=pure false:=by rfl):PS X (.Assign [.Attribute o f b] a pos) (sFld X.K ta c f):=AK7 d hv g
end
end L2
namespace Fr
theorem j5 {r:Rat}{t b:Int}(d:b≠0)(e:r=XA t b):r.num.natAbs<=t.natAbs/\r.den<=b.natAbs:=by
 subst e;have a:=pF t b d;have c:=wW (t:=t) d;rw [VM d] at a;rw [fQ d,XW] at c;exact ⟨a,c⟩
structure Bd (k:Nat)(q:Rat):Prop where
 n:q.num.natAbs < 2 ^ k
 d:q.den < 2 ^ k
theorem Cz {m n:Nat}(a:m<=n):2 ^ m<=2 ^ n:=Jp (by decide) a
theorem Bd.mono {m n:Nat}{q:Rat}(a:Bd m q)(le:m<=n):Bd n q:=⟨X1 a.n (Cz le),X1 a.d (Cz le)⟩
theorem Bd.neg {n:Nat}{q:Rat}(a:Bd n q):Bd n (-q):=⟨by rw [No,wM];exact a.n,by rw [Nt];exact a.d⟩
theorem Bd.of {n:Nat}{t b:Int}(a:b≠0)(ht:t.natAbs < 2 ^ n)(c:b.natAbs < 2 ^ n):Bd n (XA t b):=by
 obtain ⟨d,e⟩:=j5 a (rfl:XA t b=XA t b);exact ⟨by omega,by omega⟩
theorem Vf {a b m n:Nat}(c:a < 2 ^ m)(d:b < 2 ^ n):a * b < 2 ^ (m+n):=by
 rw [Nat.pow_add];exact Nat.mul_lt_mul'' c d
theorem Dv {x y:Int}{m n:Nat}(a:x.natAbs < 2 ^ m)(b:y.natAbs < 2 ^ n):(x * y).natAbs < 2 ^ (m+n):=by
 rw [QE];exact Vf a b
theorem ZP {x y:Int}{n:Nat}(a:x.natAbs < 2 ^ n)(b:y.natAbs < 2 ^ n):(x+y).natAbs < 2 ^ (n+1):=by
 have:=Int.natAbs_add_le x y;rw [ML];omega
theorem pQ {x y:Int}{n:Nat}(a:x.natAbs < 2 ^ n)(b:y.natAbs < 2 ^ n):(x - y).natAbs < 2 ^ (n+1):=by
 rw [ML];omega
theorem Bd.dn {n:Nat}{q:Rat}(a:Bd n q):((q.den:Int)).natAbs < 2 ^ n:=by rw [XW];exact a.d
theorem Wg (p q:Rat):(p.den:Int) * (q.den:Int)≠0:=yA (FW p) (FW q)
section
variable {m n:Nat}{p q:Rat}(hp:Bd m p)(hq:Bd n q)
include hp hq
theorem Bd.add:Bd (m+n+1) (p+q):=by
 rw [<- Xe];refine Bd.of (Wg p q) (ZP (Dv hp.n hq.dn) ?_) (X1 (Dv hp.dn hq.dn) (Cz (by omega)))
 have:=Dv hq.n hp.dn;rw [qc m n];exact this
theorem Bd.sub:Bd (m+n+1) (p - q):=by
 rw [<- YW];refine Bd.of (Wg p q) (pQ (Dv hp.n hq.dn) ?_) (X1 (Dv hp.dn hq.dn) (Cz (by omega)))
 have:=Dv hq.n hp.dn;rw [qc m n];exact this
theorem Bd.mul:Bd (m+n) (p * q):=by
 rw [<- Q6];exact Bd.of (Wg p q) (Dv hp.n hq.n) (Dv hp.dn hq.dn)
theorem Bd.div (a:q≠0):Bd (m+n) (p / q):=by
 rw [<- Mm];refine Bd.of (yA (FW p) λ e=>a ((Qz q).mp e)) (Dv hp.n hq.dn) (Dv hp.dn hq.n)
end
structure Rb (n:Nat)(y u:Rat):Prop where
 ex:∃(Y U:Int) (N:Nat),N≠0/\N < 2 ^ n/\Y.natAbs < 2 ^ n/\U.natAbs < 2 ^ n/\y=XA Y N/\u=XA U N
theorem Rb.mono {m n:Nat}{y u:Rat}(d:Rb m y u)(le:m<=n):Rb n y u:=by
 obtain ⟨e,U,N,a,f,g,h,b,c⟩:=d.ex;have:=Cz le;exact ⟨e,U,N,a,by omega,by omega,by omega,b,c⟩
theorem Rb.y {n:Nat}{y u:Rat}(c:Rb n y u):Bd n y:=by
 obtain ⟨h,U,N,d,e,a,f,b,g⟩:=c.ex;rw [b];exact Bd.of (by omega) a (by omega)
theorem Rb.u {n:Nat}{y u:Rat}(c:Rb n y u):Bd n u:=by
 obtain ⟨h,U,N,d,e,f,a,g,b⟩:=c.ex;rw [b];exact Bd.of (by omega) a (by omega)
theorem Rb.of {n:Nat}{y u:Rat}(a:Bd n y)(b:Bd n u):Rb (n+n) y u:=by
 refine ⟨y.num * (u.den:Int),u.num * (y.den:Int),y.den * u.den,?_,?_,Dv a.n b.dn,Dv b.n a.dn,?_,?_⟩
 ·exact Nat.mul_ne_zero y.den_nz u.den_nz
 ·exact Vf a.d b.d
 ·rw [show ((y.den * u.den:Nat):Int)=(y.den:Int) * (u.den:Int) by simp,xi (FW u),Ez]
 ·rw [show ((y.den * u.den:Nat):Int)=(u.den:Int) * (y.den:Int) by simp [Int.mul_comm],xi (FW y),Ez]
theorem qY (b U dn:Int)(N dd:Int)(a:N≠0)(c:dd≠0):XA b N+XA dn dd * XA U N=XA (b * dd+dn * U) (N * dd):=by
 rw [ui,FU _ _ a (yA c a)];rw [show b * (dd * N)+dn * U * N=(b * dd+dn * U) * N by rw [Int.add_mul,Int.mul_assoc b],show N * (dd * N)=(N * dd) * N by rw [Int.mul_assoc],xi a]
theorem lA (b dd N:Int)(c:N≠0)(a:dd≠0):XA b N=XA (b * dd) (N * dd):=(xi a).symm
theorem Rb.gap {n m:Nat}{y u d:Rat}(j:Rb n y u)(hd:Bd m d):Rb (n+m+1) (y+d * u) u:=by
 obtain ⟨i,U,N,e,f,g,a,h,b⟩:=j.ex;have c:(N:Int)≠0:=by omega
 refine ⟨i * (d.den:Int)+d.num * U,U * (d.den:Int),N * d.den,Nat.mul_ne_zero e d.den_nz,X1 (Vf f hd.d) (Cz (by omega)),ZP (Dv g hd.dn) ?_,X1 (Dv a hd.dn) (Cz (by omega)),?_,?_⟩
 ·have:=Dv hd.n a;rw [qc n m];exact this
 ·have:=qY i U d.num N (d.den:Int) c (FW d);rw [Ez,<- h,<- b] at this;rw [this];simp
 ·rw [b,lA U (d.den:Int) N c (FW d)];simp
theorem Rb.swap {n:Nat}{y u:Rat}(g:Rb n y u):Rb n u y:=by
 obtain ⟨h,U,N,a,b,c,d,e,f⟩:=g.ex;exact ⟨U,h,N,a,b,d,c,f,e⟩
theorem Rb.glass {n m:Nat}{y u d:Rat}(a:Rb n y u)(hd:Bd m d):Rb (n+m+1) y (u - d * y):=by
 have:=(a.swap.gap hd.neg).swap;rw [show u - d * y=u+-d * y by rw [Rat.neg_mul,Rat.sub_eq_add_neg]]
 exact this
end Fr
namespace Op
open Fr
inductive Pc where
 | gap (d:Rat)
 | glass (p:Rat)
 | stop (lo hi:Rat)
abbrev Ay:=Rat×Rat
def Pc.lets:Pc->Ay->Bool
 | .stop lo a,r=>!decide (r.1 < lo) && !decide (a < r.1)
 | _,_=>true
def Pc.bent:Pc->Ay->Ay
 | .gap d,r=>(r.1+d * r.2,r.2)
 | .glass p,r=>(r.1,r.2 - p * r.1)
 | .stop _ _,r=>r
def Pc.ok:Pc->Prop
 | .stop lo a=>¬ a < lo
 | _=>True
def Pc.bd (m:Nat):Pc->Prop
 | .gap d=>Bd m d
 | .glass p=>Bd m p
 | .stop lo a=>Bd m lo/\Bd m a
abbrev RB (n:Nat)(r:Ay):Prop:=Rb n r.1 r.2
theorem Kh {n m:Nat}{r:Ay}:∀{p:Pc},p.bd m->RB n r->RB (n+m+1) (p.bent r)
 | .gap _,b,a=>Rb.gap a b
 | .glass _,b,a=>Rb.glass a b
 | .stop _ _,_,a=>Rb.mono a (by omega)
def wk:Nat->List Pc->Ay->List Ay×Option Nat
 | _,[],_=>([],none)
 | i,p::ps,r=>if p.lets r=true then (p.bent r::(wk (i+1) ps (p.bent r)).1,(wk (i+1) ps (p.bent r)).2) else ([],some i)
def walk (ps:List Pc)(r:Ay):List Ay×Option Nat:=(r::(wk 0 ps r).1,(wk 0 ps r).2)
theorem Fq {i:Nat}{p:Pc}{ps:List Pc}{r:Ay}(a:p.lets r=true):wk i (p::ps) r=(p.bent r::(wk (i+1) ps (p.bent r)).1,(wk (i+1) ps (p.bent r)).2):=by
 rw [wk,if_pos a]
theorem GF {i:Nat}{p:Pc}{ps:List Pc}{r:Ay}(a:p.lets r=false):wk i (p::ps) r=([],some i):=by
 rw [wk,if_neg (by rw [a];exact Zo)]
structure At (ps:List Pc)(r:Ay)(i:Nat)(tr:List Ay)(cur:Ay):Prop where
 eq:wk 0 ps r=(tr++(wk i (ps.drop i) cur).1,(wk i (ps.drop i) cur).2)
 last:(r::tr).getLast?=some cur
theorem AH4 (ps:List Pc)(r:Ay):At ps r 0 [] r:=⟨rfl,rfl⟩
theorem At.step {ps:List Pc}{r b:Ay}{i:Nat}{c:List Ay}{p:Pc}(a:At ps r i c b)(d:ps[i]?=some p)(g:p.lets b=true):At ps r (i+1) (c++[p.bent b]) (p.bent b):=by
 obtain ⟨f,e⟩:=XT.mp d;have hd:ps.drop i=p::ps.drop (i+1):=by rw [<- e];exact xw f
 refine ⟨?_,?_⟩
 ·rw [a.eq,hd,Fq g];simp
 ·rw [<- Qy];exact uS
theorem At.stop {ps:List Pc}{r b:Ay}{i:Nat}{c:List Ay}{p:Pc}(a:At ps r i c b)(d:ps[i]?=some p)(g:p.lets b=false):walk ps r=(r::c,some i):=by
 obtain ⟨f,e⟩:=XT.mp d;have hd:ps.drop i=p::ps.drop (i+1):=by rw [<- e];exact xw f
 unfold walk;rw [a.eq,hd,GF g];simp
theorem At.done {ps:List Pc}{r b:Ay}{c:List Ay}(a:At ps r ps.length c b):walk ps r=(r::c,none):=by
 unfold walk;rw [a.eq,List.drop_eq_nil_of_le (Zj _)];simp [wk]
theorem xg {m:Nat}(ps:List Pc):∀(i n:Nat) (r:Ay),(∀p∈ps,p.bd m)->RB n r->∀x∈(wk i ps r).1,RB (n+ps.length * (m+1)) x:=by
 induction ps with
 | nil=>intro i n r _ _ x a;simp [wk] at a
 | cons p ps d=>
  intro i n r b g x a;cases hl:p.lets r with
  | false=>rw [GF hl] at a;simp at a
  | true=>
   rw [Fq hl] at a;have c:=Kh (b p ZD) g;have e:(ps.length+1) * (m+1)=ps.length * (m+1)+(m+1):=by rw [wn,Nat.one_mul]
   rcases W4.mp a with rfl | a
   ·exact Rb.mono c (by rw [X4,e];omega)
   ·exact Rb.mono (d (i+1) _ _ (λ q f=>b q (ZT _ f)) c x a) (by rw [X4,e];omega)
theorem vP {m n:Nat}{ps:List Pc}{r:Ay}(b:∀p∈ps,p.bd m)(c:RB n r):∀x∈(walk ps r).1,RB (n+ps.length * (m+1)) x:=by
 intro x a;rcases W4.mp a with rfl | a
 ·exact Rb.mono c (by omega)
 ·exact xg ps 0 n r b c x a
end Op
namespace Lib
open PySem L2 Fr Op
def Ai (q:Rat):ZB:=.tuple [.int q.num,.int (q.den:Int)]
def Cu (r:Ay):ZB:=.tuple [Ai r.1,Ai r.2]
def Bh:Pc->ZB
 | .gap d=>.tuple [.str "gap",Ai d]
 | .glass p=>.tuple [.str "glass",Ai p]
 | .stop lo a=>.tuple [.str "stop",Ai lo,Ai a]
def Fj (ps:List Pc):ZB:=.list (ps.map Bh)
def Qi:Option Nat->ZB
 | none=>.none
 | some i=>.int (i:Int)
section
variable {K:FrG}{H:Hp}{v:V}
theorem _root_.L2.DV.fr {q:Rat}(e:DV K H v (Ai q)):∃a,v=.ref a/\SqT K H a [.int q.num,.int (q.den:Int)]:=by
 obtain ⟨a,x,y,rfl,b,c,d⟩:=DV.t2 e;rw [c.int_of,d.int_of] at b;exact ⟨a,rfl,b⟩
theorem AK5 {q:Rat}{a:Addr}(b:SqT K H a [.int q.num,.int (q.den:Int)]):DV K H (.ref a) (Ai q):=.tup b (.cons (.int _) (.cons (.int _) .nil))
theorem Fw {t b:Int}{p:Addr}(a:b≠0):DV K (upd H p (.tup [.int (Fr.lt t b),.int (Fr.lb t b)])) (.ref p) (Ai (XA t b)):=by
 rw [mZ a];exact AK5 (SqT.of Al)
end
theorem _root_.Fr.Bd.sm {n:Nat}{q:Rat}(b:Bd n q)(a:n<=4000):Sm q:=⟨X1 b.n (by unfold Ca;exact Cz a),X1 b.d (by unfold Ca;exact Cz a)⟩
structure Flat (n:Nat)(d:ZB):Prop where
 c:d.canLay0=true
 d:d.depth<=n
theorem Flat.sh {n:Nat}{d:ZB}(b:Flat n d)(a:n<=64):wx d=true:=by
 unfold wx;rw [b.c,Bool.true_and];exact decide_eq_true (U1 b.d a)
theorem Ku {n:Nat}:∀{ds:List ZB},(∀d∈ds,Flat n d)->wv ds=true/\ZB.depthAll ds<=n
 | [],_=>⟨rfl,Ul _⟩
 | d::ds,g=>by
  obtain ⟨b,e⟩:=Ku (λ x f=>g x (ZT _ f))
  have a:=g d ZD;refine ⟨?_,?_⟩
  ·rw [wv,a.c,b];rfl
  ·rw [ZB.depthAll];exact Nat.max_le.mpr ⟨a.d,e⟩
theorem pR {n:Nat}{ds:List ZB}(a:∀d∈ds,Flat n d):Flat (n+1) (.tuple ds):=⟨(Ku a).1,by rw [ZB.depth];exact zS (Ku a).2⟩
theorem JF {n:Nat}{ds:List ZB}(a:∀d∈ds,Flat n d):Flat (n+1) (.list ds):=⟨(Ku a).1,by rw [ZB.depth];exact zS (Ku a).2⟩
theorem oU (i:Int):Flat 0 (.int i):=⟨rfl,Zj _⟩
theorem flat_non:Flat 0 .none:=⟨rfl,Zj _⟩
theorem Flat.mono {m n:Nat}{d:ZB}(a:Flat m d)(le:m<=n):Flat n d:=⟨a.c,U1 a.d le⟩
theorem GQ (q:Rat):Flat 1 (Ai q):=⟨rfl,by show 1<=1;exact Zj _⟩
theorem Qc {a:Type}{n:Nat}{f:a->ZB}(b:∀x,Flat n (f x))(l:List a):∀d∈l.map f,Flat n d:=λ d hd=>by
 obtain ⟨x,_,rfl⟩:=WO.mp hd;exact b x
section
variable {K:FrG}{H:Hp}{x y:V}{d:ZB}{Q:VK}
theorem az {n:Nat}(b:DV K H x d)(e:DV K H y d)(f:Flat n d)(k:Q (.bl true) H)(a:n<=64:=by decide):HR K x y H Q:=
 ⟨d,d,b,e,f.sh a,f.sh a,by rw [SeqAt.eqv_refl d f.c];exact k⟩
theorem Km {n:Nat}(b:DV K H x d)(e:DV K H y d)(f:Flat n d)(k:Q (.bl false) H)(a:n<=64:=by decide):Jr K x y H Q:=
 ⟨d,d,b,e,f.sh a,f.sh a,by rw [SeqAt.eqv_refl d f.c];exact k⟩
theorem uP {p q:Rat}(a:DV K H x (Ai p))(b:DV K H y (Ai q))(k:Q (.bl (decide (p=q))) H):HR K x y H Q:=
 ⟨_,_,a,b,(GQ p).sh (by decide),(GQ q).sh (by decide),by unfold Ai;rw [Ia];exact k⟩
theorem bj {p q:Rat}(a:DV K H x (Ai p))(b:DV K H y (Ai q))(k:Q (.bl (!decide (p=q))) H):Jr K x y H Q:=
 ⟨_,_,a,b,(GQ p).sh (by decide),(GQ q).sh (by decide),by unfold Ai;rw [Ia];exact k⟩
end
mutual
def HD:ZB->Bool
 | .list _=>false
 | .dict _=>false
 | .tuple ds=>Ho ds
 | .none=>true
 | .bool _=>true
 | .int _=>true
 | .str _=>true
def Ho:List ZB->Bool
 | []=>true
 | d::ds=>HD d && Ho ds
end
def G8 (H a:Hp):Prop:=∀b xs,(H b=some (.tup xs)->a b=some (.tup xs))/\∀o,H b=some (.frz o (.tup xs))->a b=some (.frz o (.tup xs))
theorem Qs {H:Hp}{l:Addr}{xs:List V}(c:H l=some (.lst xs))(o:HO):G8 H (upd H l o):=λ b d=>⟨λ e=>by rw [BK (λ a=>by rw [a,c] at e;cases e)];exact e,λ o e=>by rw [BK (λ a=>by rw [a,c] at e;cases e)];exact e⟩
mutual
theorem G9 {K:FrG}{H c:Hp}(s:G8 H c):∀{v:V} {d:ZB},HD d=true->DV K H v d->DV K c v d
 | _,_,_,.non=>.non
 | _,_,_,.bl b=>.bl b
 | _,_,_,.int i=>.int i
 | _,_,_,.str x=>.str x
 | _,_,n,.lst a q=>nomatch n
 | _,_,n,.tup a q=>.tup (by
   rcases a with (a | ⟨o,a⟩) | a
   ·exact .inl (.inl ((s _ _).1 a))
   ·exact .inl (.inr ⟨o,(s _ _).2 o a⟩)
   ·exact .inr a) (Eg s n q)
 | _,_,n,.dct a=>nomatch n
theorem Eg {K:FrG}{H a:Hp}(s:G8 H a):∀{vs:List V} {ds:List ZB},Ho ds=true->DVs K H vs ds->DVs K a vs ds
 | _,_,_,.nil=>.nil
 | _,_,n,.cons b q=>.cons (G9 s (by rw [Ho] at n;exact (zb.mp n).1) b) (Eg s (by rw [Ho] at n;exact (zb.mp n).2) q)
end
theorem Eu {a:Type}{f:a->ZB}(b:∀x,HD (f x)=true):∀l:List a,Ho (l.map f)=true
 | []=>rfl
 | x::l=>by rw [YU,Ho,b x,Eu b l];rfl
theorem dW (r:Ay):HD (Cu r)=true:=rfl
theorem Kz:∀p:Pc,HD (Bh p)=true
 | .gap _=>rfl
 | .glass _=>rfl
 | .stop _ _=>rfl
def PR (K:FrG)(b:List ZB->ZB->Prop):Sp:=λ vs H Q _=>∃ds d,DVs K H vs ds/\b ds d/\∀v a,Same H a->DV K a v d->Q v a
def IV (a:Rat->Rat->Rat):List ZB->ZB->Prop:=λ ds d=>∃p q,ds=[Ai p,Ai q]/\Sm p/\Sm q/\d=Ai (a p q)
def dq:List ZB->ZB->Prop:=λ ds d=>∃p q,ds=[Ai p,Ai q]/\Sm p/\Sm q/\d=.bool (decide (p < q))
theorem DV.upd2 {K:FrG}{H:Hp}{r:Addr}{x y:V}{a b:ZB}(c:H r=none)(d:DV K H x a)(e:DV K H y b):DV K (upd H r (.tup [x,y])) (.ref r) (.tuple [a,b]):=
 .tup (SqT.of Al) (.cons (d.keep (Aj c _)) (.cons (e.keep (Aj c _)) .nil))
theorem DV.upd3 {K:FrG}{H:Hp}{r:Addr}{x y h:V}{b c d:ZB}(a:H r=none)(e:DV K H x b)(f:DV K H y c)(g:DV K H h d):DV K (upd H r (.tup [x,y,h])) (.ref r) (.tuple [b,c,d]):=
 .tup (SqT.of Al) (.cons (e.keep (Aj a _)) (.cons (f.keep (Aj a _)) (.cons (g.keep (Aj a _)) .nil)))
theorem DV.upd4 {K:FrG}{H:Hp}{r:Addr}{x y j u:V}{b c d e:ZB}(a:H r=none)(f:DV K H x b)(g:DV K H y c)(h:DV K H j d)(i:DV K H u e):DV K (upd H r (.tup [x,y,j,u])) (.ref r) (.tuple [b,c,d,e]):=
 .tup (SqT.of Al) (.cons (f.keep (Aj a _)) (.cons (g.keep (Aj a _)) (.cons (h.keep (Aj a _)) (.cons (i.keep (Aj a _)) .nil))))
def AL9:ZB->Bool
 | .tuple [.int t,.int b]=>decide (1<=b) && decide (Fr.gcd t b=1)
 | _=>false
def Le:ZB->Bool
 | .int _=>true
 | _=>false
def xx:ZB->Bool
 | .tuple _=>true
 | _=>false
theorem xj (d:ZB):∃b c,Bo (J7 d) "int"=some b/\Bo (J7 d) "bool"=some c/\(b && !c)=Le d:=by
 cases d with
 | none=>exact ⟨false,false,by show Bo "NoneType" "int"=_;decide+kernel,by show Bo "NoneType" "bool"=_;decide+kernel,rfl⟩
 | bool b=>exact ⟨true,true,by show Bo "bool" "int"=_;decide+kernel,by show Bo "bool" "bool"=_;decide+kernel,rfl⟩
 | int i=>exact ⟨true,false,by show Bo "int" "int"=_;decide+kernel,by show Bo "int" "bool"=_;decide+kernel,rfl⟩
 | str x=>exact ⟨false,false,by show Bo "str" "int"=_;decide+kernel,by show Bo "str" "bool"=_;decide+kernel,rfl⟩
 | list xs=>exact ⟨false,false,by show Bo "list" "int"=_;decide+kernel,by show Bo "list" "bool"=_;decide+kernel,rfl⟩
 | tuple xs=>exact ⟨false,false,by show Bo "tuple" "int"=_;decide+kernel,by show Bo "tuple" "bool"=_;decide+kernel,rfl⟩
 | dict xs=>exact ⟨false,false,by show Bo "dict" "int"=_;decide+kernel,by show Bo "dict" "bool"=_;decide+kernel,rfl⟩
theorem WX (d:ZB):Bo (J7 d) "tuple"=some (xx d):=by
 cases d with
 | none=>show Bo "NoneType" "tuple"=some false;decide+kernel
 | bool b=>show Bo "bool" "tuple"=some false;decide+kernel
 | int i=>show Bo "int" "tuple"=some false;decide+kernel
 | str x=>show Bo "str" "tuple"=some false;decide+kernel
 | list xs=>show Bo "list" "tuple"=some false;decide+kernel
 | tuple xs=>show Bo "tuple" "tuple"=some true;decide+kernel
 | dict xs=>show Bo "dict" "tuple"=some false;decide+kernel
def AH2:ZB->Bool
 | .list _=>true
 | _=>false
theorem AH0 (d:ZB):Bo (J7 d) "list"=some (AH2 d):=by
 cases d with
 | none=>show Bo "NoneType" "list"=some false;decide+kernel
 | bool b=>show Bo "bool" "list"=some false;decide+kernel
 | int i=>show Bo "int" "list"=some false;decide+kernel
 | str x=>show Bo "str" "list"=some false;decide+kernel
 | list xs=>show Bo "list" "list"=some true;decide+kernel
 | tuple xs=>show Bo "tuple" "list"=some false;decide+kernel
 | dict xs=>show Bo "dict" "list"=some false;decide+kernel
def Mx:ZB->Bool
 | .str _=>true
 | _=>false
theorem rK {d:ZB}(a:Mx d=true):∃x,d=.str x:=by
 cases d with
 | str i=>exact ⟨i,rfl⟩
 | _=>cases a
theorem Gp (d:ZB):Bo (J7 d) "str"=some (Mx d):=by
 cases d with
 | none=>show Bo "NoneType" "str"=some false;decide+kernel
 | bool b=>show Bo "bool" "str"=some false;decide+kernel
 | int i=>show Bo "int" "str"=some false;decide+kernel
 | str x=>show Bo "str" "str"=some true;decide+kernel
 | list xs=>show Bo "list" "str"=some false;decide+kernel
 | tuple xs=>show Bo "tuple" "str"=some false;decide+kernel
 | dict xs=>show Bo "dict" "str"=some false;decide+kernel
def pU (K:FrG):Sp:=λ vs H Q _=>∃v d,vs=[v]/\DV K H v d/\Q (.bl (Le d)) H
def bN:List ZB->ZB->Prop:=λ ds d=>∃p q,ds=[Ai p,Ai q]/\Sm p/\Sm q/\q≠0/\d=Ai (p / q)
theorem Bg {b:Bool}{A c:Prop}(a:b=true)(d:A):if b=true then A else c:=by rw [if_pos a];exact d
theorem BR {b:Bool}{A c:Prop}(a:b=false)(d:c):if b=true then A else c:=by rw [if_neg (by rw [a];exact Zo)];exact d
theorem PL (n d:Nat):HT.sIx n d (some 1)=min 1 n:=HT.Ff n d 1
theorem RN (xs:List V):cutV xs (some 1) none=xs.drop 1:=by
 unfold cutV;rw [PL,HT.Ni];cases xs with
 | nil=>rfl
 | cons x r=>
  rw [show min 1 (x::r).length=1 by simp only [X4];omega]
  exact UP (by simp)
theorem By (x y:Str):decide (V.str x=V.str y)=decide (x=y):=by
 by_cases a:x=y
 ·subst a;simp
 ·have:¬ V.str x=V.str y:=λ b=>a (V.str.inj b)
  rw [decide_eq_false a,decide_eq_false this]
inductive ObAt (K:FrG)(CG CL CS:Addr)(H:Hp):V->Pc->Prop
 | gap {a dx:Addr} {x:V} {d:Rat}:H a=some (.ins CG dx [("length",x)])->DV K H x (Ai d)->ObAt K CG CL CS H (.ref a) (.gap d)
 | glass {a dx:Addr} {x:V} {d:Rat}:H a=some (.ins CL dx [("strength",x)])->DV K H x (Ai d)->ObAt K CG CL CS H (.ref a) (.glass d)
 | stop {a dx:Addr} {x y:V} {lo hi:Rat}:H a=some (.ins CS dx [("low",x),("high",y)])->DV K H x (Ai lo)->DV K H y (Ai hi)->ObAt K CG CL CS H (.ref a) (.stop lo hi)
theorem ObAt.keep {K:FrG}{a b c:Addr}{H d:Hp}(s:Same H d):∀{v:V} {p:Pc},ObAt K a b c H v p->ObAt K a b c d v p
 | _,_,.gap e x=>.gap (s _ _ e) (x.keep s)
 | _,_,.glass e x=>.glass (s _ _ e) (x.keep s)
 | _,_,.stop e x y=>.stop (s _ _ e) (x.keep s) (y.keep s)
def Zz (C:Addr)(f:Str):Sp:=λ vs H Q _=>∃a b x,vs=[.ref a,x]/\H a=some (.ins C b [])/\Q .non (upd H a (.ins C b [(f,x)]))
def mF (C:Addr)(f c:Str):Sp:=λ vs H Q _=>∃a b x y,vs=[.ref a,x,y]/\H a=some (.ins C b [])/\Q .non (upd H a (.ins C b [(f,x),(c,y)]))
def cT:Sp:=λ vs H Q _=>∃x y,vs=[x,y]/\Q (.bl true) H
def uc:Sp:=λ vs H Q _=>∃x y,vs=[x,y]/\Q y H
def Rv (K:FrG)(b c d:Addr)(e:Pc->Ay->ZB)(C:Pc->Prop):Sp:=λ vs H Q _=>∃(o y:V) (p:Pc) (r:Ay) (n m:Nat),vs=[o,y]/\C p/\ObAt K b c d H o p/\DV K H y (Cu r)/\RB n r/\p.bd m/\n+m<=3900/\∀v a,Same H a->DV K a v (e p r)->Q v a
def xO:Pc->Prop
 | .gap _=>True
 | _=>False
def qH:Pc->Prop
 | .glass _=>True
 | _=>False
def isStop:Pc->Prop
 | .stop _ _=>True
 | _=>False
def uE (K:FrG)(c d e:Addr):Sp:=λ vs H Q _=>∃v p,vs=[v]/\DV K H v (Bh p)/\∀a b,Same H b->ObAt K c d e b (.ref a) p->Q (.ref a) b
structure Good (m:Nat)(ps:List Pc):Prop where
 len:ps.length<=60
 ok:∀p∈ps,p.ok
 bd:∀p∈ps,p.bd m
def AI8 (K:FrG):Sp:=λ vs H Q _=>∃v ps m,vs=[v]/\DV K H v (Fj ps)/\Good m ps/\m<=4000/\∀a,Same H a->Q .non a
def mV (K:FrG):Sp:=λ vs H Q _=>∃(b y:V) (ps:List Pc) (r:Ay) (n m:Nat),vs=[b,y]/\DV K H b (Fj ps)/\Good m ps/\DV K H y (Cu r)/\RB n r/\n+ps.length * (m+1)+m<=3900/\
 ∀t l c at_ a,Same H a->H l=none->a l=some (.lst c)->a t=some (.tup [.ref l,at_])->DVs K a c ((walk ps r).1.map Cu)->DV K a at_ (Qi (walk ps r).2)->Q (.ref t) a
theorem HB {ps:List Pc}{i:Nat}{d:ZB}(a:(ps.map Bh)[i]?=some d):∃p,ps[i]?=some p/\d=Bh p:=by
 rw [Ya] at a;cases e:ps[i]? with
 | none=>rw [e] at a;cases a
 | some p=>rw [e] at a;exact ⟨p,rfl,(XY a).symm⟩
theorem pZ (xs:List V)(lo a:Nat):(cutV xs (some (lo:Int)) (some (a:Int))).length<=a - lo:=by
 unfold cutV;rw [HT.Ff,HT.Ff,XE];omega
theorem qi (xs:List V)(a:Nat):(cutV xs none (some (a:Int))).length<=a:=by
 unfold cutV;rw [HT.Ff,HT.Ni,XE];omega
theorem tX (ns:List Int)(lo a:Option Int):∃b:List Int,cutV (ns.map V.int) lo a=b.map V.int:=by
 unfold cutV;rw [<- List.map_drop,<- List.map_take];exact ⟨_,rfl⟩
theorem jG (i:Int):Ai (i:Rat)=.tuple [.int i,.int 1]:=by
 unfold Ai;rw [Rat.num_intCast,Rat.den_intCast];rfl
theorem lK (q:Rat):Ai (-q)=.tuple [.int (0 - q.num),.int (q.den:Int)]:=by
 unfold Ai;rw [No,Nt,wE]
theorem AL2 {vs:List V}{v:V}(b:vs.getLast?=some v):atI vs (-1)=some v:=by
 obtain ⟨a,rfl⟩:=List.getLast?_eq_some_iff.mp b;exact qI a v
theorem DVs.last {K:FrG}{H:Hp}{vs:List V}{ds:List ZB}{d:ZB}(c:DVs K H vs ds)(hd:ds.getLast?=some d):∃v,vs.getLast?=some v/\DV K H v d:=by
 have hl:=c.len;have e:ds[ds.length - 1]?=some d:=by rw [<- qL];exact hd
 have a:ds.length - 1 < vs.length:=by
  have:=(XT.mp e).1;omega
 obtain ⟨d',b,hv⟩:=DVs.get c (YO a);rw [e] at b;cases b
 refine ⟨_,?_,hv⟩;rw [qL,hl];exact YO a
theorem jW (a:Str):(if false=true then !inV (.str a) [.str "gap",.str "glass"] else inV (.str a) [.str "gap",.str "glass"])=(decide (a="gap") || decide (a="glass")):=by
 rw [if_neg Zo];unfold inV;simp only [xD,List.any_nil,Bool.or_false];have b:∀w:Str,eqV (.str w) (.str a)=decide (a=w):=λ w=>by
  show decide (w=a)=decide (a=w);exact decide_eq_decide.mpr ⟨Eq.symm,Eq.symm⟩
 rw [b,b]
theorem Ek {x:V}{xs:List V}:atI (x::xs) 0=some x:=Bm (j:=0) rfl
end Lib
namespace Op
open Fr
theorem dG (k:Nat)(ps:List Pc):∀(i:Nat) (r:Ay),wk (i+k) ps r=((wk i ps r).1,(wk i ps r).2.map (·+k)):=by
 induction ps with
 | nil=>intro i r;rfl
 | cons p ps b=>
  intro i r;cases a:p.lets r with
  | true=>
   rw [Fq a,Fq a,show i+k+1=(i+1)+k by omega,b]
  | false=>rw [GF a,GF a];rfl
def lastOf (w:List Ay)(r:Ay):Ay:=(r::w).getLast (by simp)
theorem YT (a r:Ay)(w:List Ay):lastOf (a::w) r=lastOf w a:=by
 unfold lastOf;rw [List.getLast_cons (by simp)]
theorem jB (w:List Ay)(r:Ay):(r::w).getLast?=some (lastOf w r):=List.getLast?_eq_some_getLast _
theorem YJ (qs:List Pc)(ps:List Pc):∀(i:Nat) (r:Ay),wk i (ps++qs) r=if (wk i ps r).2=none then ((wk i ps r).1++(wk (i+ps.length) qs (lastOf (wk i ps r).1 r)).1,(wk (i+ps.length) qs (lastOf (wk i ps r).1 r)).2) else wk i ps r:=by
 induction ps with
 | nil=>intro i r;simp [wk,lastOf]
 | cons p ps c=>
  intro i r;cases b:p.lets r with
  | true=>
   rw [Qy,Fq b,Fq b,c];by_cases a:(wk (i+1) ps (p.bent r)).2=none
   ·rw [if_pos a,if_pos a];simp only [YT,X4,show i+1+ps.length=i+(ps.length+1) by omega,Qy]
   ·rw [if_neg a,if_neg a]
  | false=>
   rw [Qy,GF b,GF b,if_neg (by simp)]
theorem tL (ps:List Pc):∀(i:Nat) (r:Ay) (j:Nat),(wk i ps r).2=some j->i<=j/\j < i+ps.length/\(wk i ps r).1.length=j - i:=by
 induction ps with
 | nil=>intro i r j b;cases b
 | cons p ps c=>
  intro i r j a;cases b:p.lets r with
  | true=>
   rw [Fq b] at a ⊢;obtain ⟨e,f,d⟩:=c _ _ _ a;simp only [X4,d];omega
  | false=>
   rw [GF b] at a ⊢;cases a
   simp
theorem Je (ps:List Pc)(r:Ay):(walk ps r).1.getLast?=some (lastOf (wk 0 ps r).1 r):=jB _ _
theorem U4 {ps qs:List Pc}{r:Ay}(a:(walk ps r).2=none):walk (ps++qs) r=((walk ps r).1++((walk qs (lastOf (wk 0 ps r).1 r)).1.drop 1),(walk qs (lastOf (wk 0 ps r).1 r)).2.map (·+ps.length)):=by
 unfold walk at a ⊢;rw [YJ,if_pos a,dG ps.length qs 0];simp
theorem kj {ps qs:List Pc}{r:Ay}{j:Nat}(a:(walk ps r).2=some j):walk (ps++qs) r=walk ps r:=by
 unfold walk at a ⊢;have h':(wk 0 ps r).2=some j:=a;rw [YJ,if_neg (by rw [h'];simp)]
theorem Uq {ps:List Pc}{r:Ay}{j:Nat}(a:(walk ps r).2=some j):j < ps.length/\(walk ps r).1.length=j+1:=by
 obtain ⟨b,c,d⟩:=tL ps 0 r j a;refine ⟨by omega,?_⟩
 show ((wk 0 ps r).1).length+1=_;omega
end Op
namespace Lib
open PySem L2 Fr Op
theorem AG9 {K:FrG}{H:Hp}{v:V}:∀{o:Option Nat},DV K H v (Qi o)->decide (v=.non)=o.isNone
 | none,a=>by obtain rfl:=a.non_of;rfl
 | some i,a=>by obtain rfl:=a.int_of;rfl
end Lib
namespace Op
open Fr
def Pc.isStop:Pc->Bool
 | .stop _ _=>true
 | _=>false
def BX (ps:List Pc)(r:Ay):Ay:=ps.foldl (λ r p=>p.bent r) r
def both (r s:Ay):Ay:=(r.1+s.1,r.2+s.2)
def times (k:Rat)(r:Ay):Ay:=(k * r.1,k * r.2)
theorem wQ (p:Pc)(r s:Ay):p.bent (both r s)=both (p.bent r) (p.bent s):=by
 cases p with
 | gap d=>simp only [Pc.bent,both];refine xB ?_ rfl;show r.1+s.1+d * (r.2+s.2)=r.1+d * r.2+(s.1+d * s.2);grind
 | glass d=>simp only [Pc.bent,both];refine xB rfl ?_;show r.2+s.2 - d * (r.1+s.1)=r.2 - d * r.1+(s.2 - d * s.1);grind
 | stop _ _=>rfl
theorem uU (p:Pc)(k:Rat)(r:Ay):p.bent (times k r)=times k (p.bent r):=by
 cases p with
 | gap d=>simp only [Pc.bent,times];refine xB ?_ rfl;show k * r.1+d * (k * r.2)=k * (r.1+d * r.2);grind
 | glass d=>simp only [Pc.bent,times];refine xB rfl ?_;show k * r.2 - d * (k * r.1)=k * (r.2 - d * r.1);grind
 | stop _ _=>rfl
theorem yM (ps:List Pc):∀r s:Ay,BX ps (both r s)=both (BX ps r) (BX ps s):=by
 induction ps with
 | nil=>intro r s;rfl
 | cons p ps a=>intro r s;show BX ps (p.bent (both r s))=_;rw [wQ,a];rfl
theorem ao (ps:List Pc):∀(k:Rat) (r:Ay),BX ps (times k r)=times k (BX ps r):=by
 induction ps with
 | nil=>intro k r;rfl
 | cons p ps a=>intro k r;show BX ps (p.bent (times k r))=_;rw [uU,a];rfl
theorem uA (ps:List Pc):∀(i:Nat) (r:Ay),(wk i ps r).2=none->lastOf (wk i ps r).1 r=BX ps r:=by
 induction ps with
 | nil=>intro i r _;rfl
 | cons p ps b=>
  intro i r a;cases c:p.lets r with
  | true=>
   rw [Fq c] at a ⊢;rw [YT,b _ _ a];rfl
  | false=>rw [GF c] at a;cases a
theorem aL {n m:Nat}(ps:List Pc):∀(n:Nat) (r:Ay),(∀p∈ps,p.bd m)->RB n r->RB (n+ps.length * (m+1)) (BX ps r):=by
 induction ps with
 | nil=>intro n r _ b;simpa [BX] using b
 | cons p ps c=>
  intro n r a b;have d:=Kh (a p ZD) b;have:=c _ _ (λ q e=>a q (ZT _ e)) d
  refine Rb.mono this ?_;rw [X4,wn,Nat.one_mul];omega
end Op
namespace Lib
open PySem L2 Fr Op
end Lib
namespace L2
open PySem PySem.Spec PyProof.Rows
theorem jH (env:Env):∀(l:List (Str×QN)) (b:List (Str×Addr)),(∀y∈l,y.2=.free->∃c,env.cells.lookup y.1=some c)->
  ∃cl,(forIn l b λ (x:Str×QN) (cs:List (Str×Addr))=>(if (x.2 == up)=true then (cellOf env x.1 >>= λ a=>pure (JU ((x.1,a)::cs))) else pure (JU cs):Sem (ForInStep (List (Str×Addr)))))=pure cl/\
   (∀y c,cl.lookup y=some c->b.lookup y=some c\/env.cells.lookup y=some c)/\(∀y c,b.lookup y=some c->∃h,cl.lookup y=some h)/\∀y∈l,y.2=.free->∃c,cl.lookup y.1=some c:=by
 intro l
 induction l with
 | nil=>intro b _;exact ⟨b,rfl,λ y c e=>.inl e,λ y c e=>⟨c,e⟩,λ _ t=>nomatch t⟩
 | cons x r p=>
  intro b t;obtain ⟨n,k⟩:=x;have q:∀y∈r,y.2=.free->∃c,env.cells.lookup y.1=some c:=λ y d=>t y (ZT _ d)
  rw [QW];by_cases j:k=.free
  ·subst j;obtain ⟨c,s⟩:=t (n,.free) ZD rfl;have u:cellOf env n=pure c:=by unfold cellOf;rw [show env.cells.lookup n=some c from s]
   rw [if_pos (by rfl),u,pure_bind,pure_bind]
   obtain ⟨cl,e,m,i,o⟩:=p ((n,c)::b) q;refine ⟨cl,e,λ y h d=>?_,λ y h d=>?_,λ y d hf=>?_⟩
   ·rcases m y h d with f | f
    ·rw [List.lookup_cons] at f
     split at f
     ·rename_i g
      have g:y=n:=by simpa using g
      subst g;cases f
      exact .inr s
     ·exact .inl f
    ·exact .inr f
   ·by_cases g:y=n
    ·subst g;exact i y c (by simp)
    ·have v:(y == n)=false:=by simpa using g
     exact i y h (by rw [List.lookup_cons,v];exact d)
   ·rcases W4.mp d with f | f
    ·subst f;exact i n c (by simp)
    ·exact o y f hf
  ·have w:¬ (k == up)=true:=by simpa using j
   rw [if_neg w,pure_bind];obtain ⟨cl,e,m,i,o⟩:=p b q;refine ⟨cl,e,m,i,λ y d hf=>?_⟩
   rcases W4.mp d with f | f
   ·subst f;exact absurd hf j
   ·exact o y f hf
theorem AJ2 {X:Cx}{a:Scope}(hcell:∀y∈a.names,y.2≠.cell)(hf:∀y∈a.names,y.2=.free->∃c,X.env.cells.lookup y.1=some c):∃cl,CapOk X a cl:=by
 obtain ⟨cl,e,l,r,m⟩:=jH X.env a.names [] hf;refine ⟨cl,?_,λ y c g=>?_,λ y g=>?_⟩
 ·unfold closureFor;rw [show (pure cl:Sem _)=(pure cl >>= λ cs=>pure cs) by rw [pure_bind],<- e]
 ·rcases l y c g with d | d
  ·simp at d
  ·exact d
 ·have f:∃k,(y,k)∈(ub a X.env).names/\(k=.cell\/k=.free):=by
   rcases g with d | d
   ·exact ⟨_,Um d,.inl rfl⟩
   ·exact ⟨_,Um d,.inr rfl⟩
  obtain ⟨k,f,o⟩:=f;unfold ub at f;obtain ⟨⟨n,h⟩,i,b⟩:=WO.mp f;have j:h=.free:=by
   by_cases d:h=.free
   ·exact d
   ·have p:(h == up)=false:=by simpa using d
    simp only [p,wo,yl,if_false,Prod.mk.injEq] at b;obtain ⟨_,rfl⟩:=b;rcases o with rfl | rfl
    ·exact absurd rfl (hcell _ i)
    ·exact absurd rfl d
  subst j;have q:n=y:=by
   dsimp only at b
   split at b
   ·exact (Prod.mk.inj b).1
   ·exact (Prod.mk.inj b).1
  subst q;exact m _ i rfl
theorem lu {X:Cx}{a:Scope}{n:Nat}(b:X.env.cells=QA n X.env.scope.names []:=by rfl)(hcell:∀y∈a.names,y.2≠.cell)(hf:∀y∈a.names,y.2=.free->X.env.scope.names.lookup y.1=some .cell):∃cl,CapOk X a cl:=
 AJ2 hcell λ y c d=>by
  rw [b];exact Tj (hf y c d)
section
variable {X:Cx}{tg elt iter:Expr}{ifs:List Expr}{scope:Scope}{pos spos py:Pos}{wi:TI}{g:TG}{tt:TT}{te:TE}
theorem tY {y:Str}{i:Nat}(n:X.N.Nodup)(o:X.N[i]?=some y)(r:Loc X.env.scope y)(c:List Str)(b:List (Option Nat))(s:X.calm=true)(t:PI X tg iter wi)
  (u:∀cl C d a e f,PG (Cd X scope cl c C d a e f) tg g) (ht:∀cl C d a e f,Bv (Cd X scope cl c C d a e f) ifs tt) (v:∀cl C d a e f,PE (Cd X scope cl c C d a e f) elt te)
  (h:∃cl,CapOk X scope cl) (hcell:∀y∈scope.names,y.2≠.cell) (l:scope.kind=.function) (k:∀y∈scope.names,y.2=.local->scope.names.lookup y.1=some .local) (w:b.length=c.length)
  (m:∀(i j:Nat),b[i]?=some (some j)->∃y:Str,c[i]?=some y/\X.N[j]?=some y/\(ub scope X.env).names.lookup y=some .cell/\X.env.scope.names.lookup y=some .cell)
  (z:∀x,ze iter X.env x=pure x:=by intro _;rfl) (p:ql (.ListComp elt [⟨tg,iter,ifs,0⟩] scope pos) (some (.Name y py)) spos.line X.env=pure true:=by rfl)
  (q:X.fn y=true\/X.env.scope.names.lookup y=some .local:=by first | exact .inl rfl | exact .inr rfl | assumption):
  PS X (.Assign [.Name y py] (.ListComp elt [⟨tg,iter,ifs,0⟩] scope pos) spos) (gj i (Jd wi g tt te b)):=by
 obtain ⟨cl,h⟩:=h;exact T7 n o r c b s t (u cl) (ht cl) (v cl) h hcell l k w m z p q
end
end L2
namespace Lib
open PySem L2 Fr Op
theorem flat_nil:Flat 1 (.list []):=JF λ _ a=>nomatch a
def zr (K:FrG):Sp:=λ vs H Q _=>∃v q,vs=[v]/\DV K H v (Ai q)/\Q (.bl true) H
def yo (K:FrG):Sp:=λ vs H Q _=>∃(v:V) (p:Pc) (m:Nat),vs=[v]/\DV K H v (Bh p)/\p.ok/\p.bd m/\m<=4000/\∀a,Same H a->Q (.bl true) a
inductive PSh (m:Nat):Str->List Rat->Prop where
 | stop {lo hi:Rat}:¬ hi < lo->Bd m lo->Bd m hi->PSh m "stop" [lo,hi]
 | one {w:Str} {d:Rat}:decide (w="stop")=false->(decide (w="gap") || decide (w="glass"))=true->PSh m w [d]
theorem xY {m:Nat}:∀{p:Pc},p.ok->p.bd m->∃w es,Bh p=.tuple (.str w::es.map Ai)/\PSh m w es
 | .gap d,_,_=>⟨"gap",[d],rfl,.one (by decide) (by decide)⟩
 | .glass d,_,_=>⟨"glass",[d],rfl,.one (by decide) (by decide)⟩
 | .stop lo a,c,b=>⟨"stop",[lo,a],rfl,.stop c b.1 b.2⟩
theorem PSh.len {m:Nat}{w:Str}{es:List Rat}:PSh m w es->0 < es.length/\es.length<=2
 | .stop ..=>⟨by simp,by simp⟩
 | .one ..=>⟨by simp,by simp⟩
theorem vd (n:Nat):(Xt n true).all id=true:=by simp
theorem o8 (n:Nat):(Xt n true).map V.bl=Xt n (V.bl true):=by simp
theorem bO {es:List Rat}{i:Nat}{d:ZB}(a:(es.map Ai)[i]?=some d):∃q,d=Ai q:=by
 rw [Ya] at a;cases e:es[i]? with
 | none=>rw [e] at a;cases a
 | some q=>rw [e] at a;cases a;exact ⟨q,rfl⟩
theorem Qj {K:FrG}{H:Hp}{x y:V}{p q:Rat}{a:List (Option V)}{Q:VK}(b:DV K H x (Ai p))(c:DV K H y (Ai q))(k:Q (.bl (decide (p=q))) H):tC y a H (λ y d=>HR K x y d Q):=uP b c k
end Lib
namespace Op
open Fr
structure Tab where
 a:Rat
 b:Rat
 c:Rat
 d:Rat
def Tab.det (t:Tab):Rat:=t.a * t.d - t.b * t.c
def Tab.by (t:Tab)(r:Ay):Ay:=(t.a * r.1+t.b * r.2,t.c * r.1+t.d * r.2)
def e1:Ay:=(1,0)
def e2:Ay:=(0,1)
def tabOf (ps:List Pc):Tab:=⟨(BX ps e1).1,(BX ps e2).1,(BX ps e1).2,(BX ps e2).2⟩
theorem zL (r:Ay):r=both (times r.1 e1) (times r.2 e2):=by
 unfold both times e1 e2;refine xB ?_ ?_
 ·show r.1=r.1 * 1+r.2 * 0;grind
 ·show r.2=r.1 * 0+r.2 * 1;grind
theorem Iu (ps:List Pc)(r:Ay):BX ps r=(tabOf ps).by r:=by
 have e:BX ps r=both (times r.1 (BX ps e1)) (times r.2 (BX ps e2)):=by
  rw [<- ao,<- ao,<- yM,<- zL]
 rw [e];unfold both times Tab.by tabOf
 refine xB ?_ ?_
 ·show r.1 * (BX ps e1).1+r.2 * (BX ps e2).1=(BX ps e1).1 * r.1+(BX ps e2).1 * r.2;grind
 ·show r.1 * (BX ps e1).2+r.2 * (BX ps e2).2=(BX ps e1).2 * r.1+(BX ps e2).2 * r.2;grind
theorem qj (p:Pc)(r s:Ay):(p.bent r).1 * (p.bent s).2 - (p.bent s).1 * (p.bent r).2=r.1 * s.2 - s.1 * r.2:=by
 cases p with
 | gap d=>show (r.1+d * r.2) * s.2 - (s.1+d * s.2) * r.2=_;grind
 | glass d=>show r.1 * (s.2 - d * s.1) - s.1 * (r.2 - d * r.1)=_;grind
 | stop _ _=>rfl
theorem z8 (ps:List Pc):∀r s:Ay,(BX ps r).1 * (BX ps s).2 - (BX ps s).1 * (BX ps r).2=r.1 * s.2 - s.1 * r.2:=by
 induction ps with
 | nil=>intro r s;rfl
 | cons p ps a=>intro r s;show (BX ps (p.bent r)).1 * (BX ps (p.bent s)).2 - (BX ps (p.bent s)).1 * (BX ps (p.bent r)).2=_;rw [a,qj]
theorem HW (ps:List Pc):(tabOf ps).det=1:=by
 have:=z8 ps e1 e2;unfold Tab.det tabOf;show (BX ps e1).1 * (BX ps e2).2 - (BX ps e2).1 * (BX ps e1).2=1;rw [this];unfold e1 e2
 grind
theorem Mu (ps qs:List Pc)(r:Ay):BX (ps++qs) r=BX qs (BX ps r):=List.foldl_append ..
def Tab.then (t u:Tab):Tab:=⟨u.a * t.a+u.b * t.c,u.a * t.b+u.b * t.d,u.c * t.a+u.d * t.c,u.c * t.b+u.d * t.d⟩
theorem Hj (ps qs:List Pc):tabOf (ps++qs)=(tabOf ps).then (tabOf qs):=by
 unfold Tab.then;have a:BX (ps++qs) e1=(tabOf qs).by (BX ps e1):=by rw [Mu,Iu qs]
 have b:BX (ps++qs) e2=(tabOf qs).by (BX ps e2):=by rw [Mu,Iu qs]
 show Tab.mk _ _ _ _=_;rw [a,b];rfl
structure Tb (n:Nat)(t:Tab):Prop where
 a:Bd n t.a
 b:Bd n t.b
 c:Bd n t.c
 d:Bd n t.d
theorem cj {m:Nat}{ps:List Pc}(a:∀p∈ps,p.bd m):Tb (2+ps.length * (m+1)) (tabOf ps):=by
 have d:RB 2 e1:=⟨1,0,1,by decide,by decide,by decide,by decide,by decide+kernel,by decide+kernel⟩
 have e:RB 2 e2:=⟨0,1,1,by decide,by decide,by decide,by decide,by decide+kernel,by decide+kernel⟩
 have b:=aL (n:=0) ps 2 e1 a d;have c:=aL (n:=0) ps 2 e2 a e;exact ⟨b.y,c.y,b.u,c.u⟩
end Op
namespace Lib
open PySem L2 Fr Op
def CV (t:Tab):ZB:=.tuple [Ai t.a,Ai t.b,Ai t.c,Ai t.d]
theorem iI (t:Tab):Flat 2 (CV t):=pR λ d hd=>by
 simp only [W4,YV,or_false] at hd;rcases hd with rfl | rfl | rfl | rfl<;>exact GQ _
def fj:Option Rat->ZB
 | none=>.none
 | some q=>Ai q
def sS:List ZB->ZB->Prop:=λ ds d=>∃t n,ds=[CV t]/\Tb n t/\n<=1900/\d=.bool (decide (t.det=1))
def kW:List ZB->ZB->Prop:=λ ds d=>∃t n,ds=[CV t]/\Tb n t/\n<=1900/\t.det=1/\d=.none
def lC:List ZB->ZB->Prop:=λ ds d=>∃r s:Ay,ds=[Cu r,Cu s]/\d=CV ⟨r.1,s.1,r.2,s.2⟩
def ji:List ZB->ZB->Prop:=λ ds d=>∃ps m,ds=[Fj ps]/\Good m ps/\2+ps.length * (m+1)+m<=3900/\d=CV (tabOf ps)
def mj:List ZB->ZB->Prop:=λ ds d=>∃t r n,ds=[CV t,Cu r]/\Tb n t/\Bd n r.1/\Bd n r.2/\n<=1900/\d=Cu (t.by r)
def m8:List ZB->ZB->Prop:=λ ds d=>∃t u n,ds=[CV t,CV u]/\Tb n t/\Tb n u/\n<=1900/\d=CV (t.then u)
def spread (t:Tab)(s:Rat):Ay:=(t.a * s+t.b,t.c * s+t.d)
def yX:List ZB->ZB->Prop:=λ ds d=>∃t s n,ds=[CV t,Ai s]/\Tb n t/\Bd n s/\n<=1900/\d=Cu (spread t s)
def img (t:Tab)(s:Rat):Option Rat:=if (spread t s).2=0 then none else some (0 - (spread t s).1 / (spread t s).2)
def Oh (t:Tab)(s:Rat):Option Rat:=if (spread t s).2=0 then none else some (1 / (spread t s).2)
def tO:List ZB->ZB->Prop:=λ ds d=>∃t s n,ds=[CV t,Ai s]/\Tb n t/\t.det=1/\Bd n s/\n<=450/\d=fj (img t s)
def jy:List ZB->ZB->Prop:=λ ds d=>∃t s n,ds=[CV t,Ai s]/\Tb n t/\t.det=1/\Bd n s/\n<=450/\d=fj (Oh t s)
theorem GR (n:Nat)(a:1<=n):Bd n (0:Rat):=⟨by show (0:Int).natAbs < 2 ^ n;exact Nw (by decide),X1 (by decide:(0:Rat).den < 2 ^ 1) (Cz a)⟩
theorem G6 (n:Nat)(a:1<=n):Bd n (1:Rat):=⟨X1 (by decide:(1:Rat).num.natAbs < 2 ^ 1) (Cz a),X1 (by decide:(1:Rat).den < 2 ^ 1) (Cz a)⟩
theorem cD {t:Tab}{s:Rat}{n:Nat}(f:Tb n t)(e:Bd n s):Bd (3 * n+1) (spread t s).1/\Bd (3 * n+1) (spread t s).2:=⟨((f.a.mul e).add f.b).mono (by omega),((f.c.mul e).add f.d).mono (by omega)⟩
theorem Gw {t u:Tab}(a:t.a=u.a)(b:t.b=u.b)(c:t.c=u.c)(d:t.d=u.d):t=u:=by
 cases t;cases u;cases a;cases b;cases c;cases d;rfl
theorem lU (n i m:Nat):n+i * (m+1)+m+1<=n+(i+1) * (m+1):=by rw [wn];omega
theorem mJ {a:Type}{b:List a}{i:Nat}{x:a}(c:b.length<=i):(b++[x]).length<=i+1:=by rw [X9];exact zS c
theorem xQ {n i m k:Nat}(b:n+k * (m+1)+m<=3900)(a:i < k):n+i * (m+1)+m<=3900:=by
 have:i * (m+1)<=k * (m+1):=Yh _ (XP a);omega
theorem Ir {n m:Nat}(a:n+m<=3900):n<=4000:=by omega
theorem Mr {n m:Nat}(a:n+m<=3900):m<=4000:=by omega
theorem Ye {n m:Nat}(a:n+m<=3900):m+n<=4000:=by omega
theorem vV {K:FrG}{H:Hp}{vs:List V}{r:Ay}{a:List Ay}(b:DVs K H vs ((r::a).map Cu))(ht:a.length<=60):vs.length < Y7:=by
 have:=b.len;rw [Y3,X4] at this;exact small1000 (by omega)
theorem Bl {b:Type}{p:List b->Prop}(c:∀a,p [a]):∀us:List b,us.length=1->p us
 | [_],_=>c _
theorem Ba {c:Type}{p:List c->Prop}(d:∀a b,p [a,b]):∀us:List c,us.length=2->p us
 | [_,_],_=>d _ _
theorem Gb {d:Type}{p:List d->Prop}(e:∀a b c,p [a,b,c]):∀us:List d,us.length=3->p us
 | [_,_,_],_=>e _ _ _
theorem wX {f:Type}{p:List f->Prop}(g:∀a b c d e,p [a,b,c,d,e]):∀us:List f,us.length=5->p us
 | [_,_,_,_,_],_=>g _ _ _ _ _
def SD (d:Addr)(H a:Hp):Prop:=∀b o,b≠d->H b=some o->a b=some o
theorem SD.refl (d:Addr)(H:Hp):SD d H H:=λ _ _ _ a=>a
theorem SD.trans {d:Addr}{H e f:Hp}(a:SD d H e)(b:SD d e f):SD d H f:=λ c o n g=>b c o n (a c o n g)
theorem SD.t {d:Addr}{H a:Hp}{xs:List V}(s:SD d H a)(f:H d=some (.lst xs)):G8 H a:=λ b g=>⟨λ e=>s b _ (λ c=>by rw [c,f] at e;cases e) e,λ o e=>s b _ (λ c=>by rw [c,f] at e;cases e) e⟩
theorem N5 {H:Hp}{d:Addr}{o:HO}:SD d H (upd H d o):=λ b u n a=>by rw [BK n];exact a
def wL (K:FrG):Sp:=λ vs H Q _=>∃(a:Addr) (ns:List Int) (k:Int),vs=[.ref a,.int k]/\SqL K H a (ns.map V.int)/\0<=k/\∀b:Int,Q (.int b) H
def pX:Sp:=λ vs H Q _=>∃t b:Int,vs=[.int t,.int b]/\0 < b/\b.natAbs < lim/\∀p,H p=none->Q (.ref p) (upd H p (.tup [.int (Fr.lt t b),.int (Fr.lb t b)]))
theorem Rk (q:Rat):HD (Ai q)=true:=rfl
def turn (t:Tab):Tab:=⟨t.d,t.b,t.c,t.a⟩
theorem YZ (t u:Tab):turn (t.then u)=(turn u).then (turn t):=by
 refine Gw ?_ ?_ ?_ ?_
 ·show u.c * t.b+u.d * t.d=t.d * u.d+t.b * u.c;grind
 ·show u.a * t.b+u.b * t.d=t.d * u.b+t.b * u.a;grind
 ·show u.c * t.a+u.d * t.c=t.c * u.d+t.a * u.c;grind
 ·show u.a * t.a+u.b * t.c=t.c * u.b+t.a * u.a;grind
theorem sO (p:Pc):turn (tabOf [p])=tabOf [p]:=by
 cases p with
 | gap e=>
  refine Gw ?_ rfl rfl ?_
  ·show (1:Rat)=1+e * 0;grind
  ·show 1+e * 0=(1:Rat);grind
 | glass e=>
  refine Gw ?_ rfl rfl ?_
  ·show 1 - e * 0=(1:Rat);grind
  ·show (1:Rat)=1 - e * 0;grind
 | stop lo a=>exact Gw rfl rfl rfl rfl
theorem Xz:∀ps:List Pc,tabOf ps.reverse=turn (tabOf ps)
 | []=>Gw rfl rfl rfl rfl
 | p::ps=>by
  rw [JI,Hj,Xz ps,<- sO p,<- YZ];refine congrArg turn ?_;rw [<- Hj];rfl
section
variable {K:FrG}{H H1 H2 H':Hp}{v x y z u:V}{p:Addr}{d d1 d2 d3 d4:ZB}{xs:List V}{o:HO}
theorem W5 (a:DV K H v d)(s:Same H H'):DV K H' v d:=a.keep s
end
theorem sY (e:Rat):tabOf [.gap e]=⟨1,e,0,1⟩:=by
 refine Gw ?_ ?_ rfl rfl
 ·show 1+e * 0=(1:Rat);grind
 ·show 0+e * 1=e;grind
theorem oA (e:Rat):tabOf [.glass e]=⟨1,0,-e,1⟩:=by
 refine Gw rfl rfl ?_ ?_
 ·show 0 - e * 1=-e;grind
 ·show 1 - e * 0=(1:Rat);grind
theorem Tb.mono {n m:Nat}{t:Tab}(e:Tb n t)(le:n<=m):Tb m t:=⟨e.a.mono le,e.b.mono le,e.c.mono le,e.d.mono le⟩
end Lib
namespace Op
open Fr
def Tab.id:Tab:=⟨1,0,0,1⟩
def Tab.pow (t:Tab):Nat->Tab
 | 0=>Tab.id
 | n+1=>(t.pow n).then t
theorem Tab.ext' {t u:Tab}(a:t.a=u.a)(b:t.b=u.b)(c:t.c=u.c)(d:t.d=u.d):t=u:=by
 cases t;cases u;cases a;cases b;cases c;cases d;rfl
theorem rQ (t:Tab):t.pow 1=t:=by
 refine Tab.ext' ?_ ?_ ?_ ?_
 ·show t.a * 1+t.b * 0=t.a;grind
 ·show t.a * 0+t.b * 1=t.b;grind
 ·show t.c * 1+t.d * 0=t.c;grind
 ·show t.c * 0+t.d * 1=t.d;grind
theorem gb (x:Rat):x * ((x.den:Int):Rat)=(x.num:Rat):=by
 have b:((x.den:Int):Rat)≠0:=λ d=>by
  have:((x.den:Int):Rat)=((0:Int):Rat):=d;have:=Rat.intCast_inj.mp this;have:=x.den_nz;omega
 have c:x=(x.num:Rat) / ((x.den:Int):Rat):=by
  rw [<- Rat.divInt_eq_div];exact (qA x).symm
 have a:(x.num:Rat) / ((x.den:Int):Rat) * ((x.den:Int):Rat)=(x.num:Rat):=Rat.div_mul_cancel b;rw [<- c] at a;exact a
end Op
namespace Lib
open PySem L2 Fr Op
structure Tq (n:Nat)(t:Tab):Prop where
 ex:∃(N A B C D:Int),N≠0/\N.natAbs < 2 ^ n/\A.natAbs < 2 ^ n/\B.natAbs < 2 ^ n/\C.natAbs < 2 ^ n/\D.natAbs < 2 ^ n/\t.a * (N:Rat)=(A:Rat)/\t.b * (N:Rat)=(B:Rat)/\t.c * (N:Rat)=(C:Rat)/\t.d * (N:Rat)=(D:Rat)
theorem Tq.mono {n m:Nat}{t:Tab}(b:Tq n t)(le:n<=m):Tq m t:=by
 obtain ⟨N,A,c,C,d,a,f,g,h,i,j,e⟩:=b.ex;have p:2 ^ n<=2 ^ m:=Cz le;exact ⟨N,A,c,C,d,a,by omega,by omega,by omega,by omega,by omega,e⟩
theorem j4 {N:Int}(a:N≠0):(N:Rat)≠0:=λ b=>a (Rat.intCast_inj.mp (show (N:Rat)=((0:Int):Rat) from b))
theorem Lh {n:Nat}{q:Rat}{N A:Int}(a:N≠0)(b:N.natAbs < 2 ^ n)(c:A.natAbs < 2 ^ n)(e:q * (N:Rat)=(A:Rat)):Bd n q:=by
 have:q=XA A N:=by
  rw [Rat.divInt_eq_div,<- e];exact (qB (j4 a)).symm
 rw [this];exact Bd.of a c b
theorem Tq.tb {n:Nat}{t:Tab}(i:Tq n t):Tb n t:=by
 obtain ⟨N,A,j,C,k,a,b,c,d,e,f,e1,e2,g,h⟩:=i.ex;exact ⟨Lh a b c e1,Lh a b d e2,Lh a b e g,Lh a b f h⟩
theorem UT {x y n m:Nat}(a:x < 2 ^ n)(b:y < 2 ^ m):x * y < 2 ^ (n+m):=by
 rw [Nat.pow_add];exact Nat.mul_lt_mul_of_lt_of_lt a b
theorem Mq {a b c d:Int}{n m:Nat}(e:a.natAbs < 2 ^ n)(f:b.natAbs < 2 ^ m)(g:c.natAbs < 2 ^ n)(hd:d.natAbs < 2 ^ m):(a * b+c * d).natAbs < 2 ^ (n+m+1):=by
 have h:(a * b).natAbs < 2 ^ (n+m):=by rw [QE];exact UT e f
 have i:(c * d).natAbs < 2 ^ (n+m):=by rw [QE];exact UT g hd
 have j:=Int.natAbs_add_le (a * b) (c * d);have k:2 ^ (n+m+1)=2 ^ (n+m) * 2:=by rw [ML]
 omega
theorem Tq.then {n m:Nat}{t u:Tab}(K:Tq n t)(k:Tq m u):Tq (m+n+1) (t.then u):=by
 obtain ⟨N,A,E,C,F,G,H,j,l,o,p,e1,e2,q,r⟩:=K.ex;obtain ⟨e,f,g,h,i,I,J,s,v,w,x,y,z,B,D⟩:=k.ex;refine ⟨e * N,f * A+g * C,f * E+g * F,h * A+i * C,h * E+i * F,yA I G,?_,Mq s j v o,Mq s l v p,Mq w j x o,Mq w l x p,?_,?_,?_,?_⟩
 ·rw [QE];exact X1 (UT J H) (Cz (by omega))
 ·show (u.a * t.a+u.b * t.c) * ((e * N:Int):Rat)=((f * A+g * C:Int):Rat);rw [jC,Uf,Uf,Uf,<- e1,<- q,<- y,<- z];grind
 ·show (u.a * t.b+u.b * t.d) * ((e * N:Int):Rat)=((f * E+g * F:Int):Rat);rw [jC,Uf,Uf,Uf,<- e2,<- r,<- y,<- z];grind
 ·show (u.c * t.a+u.d * t.c) * ((e * N:Int):Rat)=((h * A+i * C:Int):Rat);rw [jC,Uf,Uf,Uf,<- e1,<- q,<- B,<- D];grind
 ·show (u.c * t.b+u.d * t.d) * ((e * N:Int):Rat)=((h * E+i * F:Int):Rat);rw [jC,Uf,Uf,Uf,<- e2,<- r,<- B,<- D];grind
theorem tq_id:Tq 1 Tab.id:=⟨1,1,0,0,1,by decide,by decide,by decide,by decide,by decide,by decide,uT _,FE _,FE _,uT _⟩
theorem Tq.pow {n:Nat}{t:Tab}(a:Tq n t):∀k,Tq (1+k * (n+1)) (t.pow k)
 | 0=>tq_id.mono (by omega)
 | k+1=>(Tq.then (a.pow k) a).mono (by rw [wn];omega)
theorem w5 {m:Nat}:∀{p:Pc},p.bd m->Tq (m+1) (tabOf [p])
 | .gap e,(b:Bd m e)=>by
  rw [sY];have a:e.num.natAbs < 2 ^ (m+1):=X1 b.n (Cz (by omega))
  have hd:(e.den:Int).natAbs < 2 ^ (m+1):=by rw [XW];exact X1 b.d (Cz (by omega))
  refine ⟨e.den,e.den,e.num,0,e.den,by have:=e.den_nz;omega,hd,hd,a,Nw (by decide),hd,uT _,gb e,FE _,uT _⟩
 | .glass e,(b:Bd m e)=>by
  rw [oA];have a:(-e.num).natAbs < 2 ^ (m+1):=by rw [wM];exact X1 b.n (Cz (by omega))
  have hd:(e.den:Int).natAbs < 2 ^ (m+1):=by rw [XW];exact X1 b.d (Cz (by omega))
  refine ⟨e.den,e.den,0,-e.num,e.den,by have:=e.den_nz;omega,hd,hd,Nw (by decide),a,hd,uT _,FE _,?_,uT _⟩
  show -e * ((e.den:Int):Rat)=((-e.num:Int):Rat);rw [Rat.intCast_neg,<- gb e];grind
 | .stop lo c,_=>by
  have e:tabOf [.stop lo c]=Tab.id:=rfl;rw [e];exact tq_id.mono (by omega)
theorem ZL {m:Nat}:∀{ps:List Pc},(∀p∈ps,p.bd m)->Tq (1+ps.length * (m+2)) (tabOf ps)
 | [],_=>by
  have e:tabOf []=Tab.id:=rfl;rw [e];exact tq_id.mono (by simp)
 | p::ps,b=>by
  have e:tabOf (p::ps)=(tabOf [p]).then (tabOf ps):=Hj [p] ps;rw [e];exact (Tq.then (w5 (b p ZD)) (ZL λ q a=>b q (ZT _ a))).mono (by rw [X4,wn];omega)
instance:DecidableEq Tab:=λ t u=>decidable_of_iff (t.a=u.a/\t.b=u.b/\t.c=u.c/\t.d=u.d) ⟨λ ⟨a,b,c,d⟩=>by (cases t;cases u;cases a;cases b;cases c;cases d;rfl),λ e=>by rw [e];exact ⟨rfl,rfl,rfl,rfl⟩⟩
def lst (t:Tab):Nat->Option Nat
 | 0=>none
 | n+1=>match lst t n with
  | some k=>some k
  | none=>if t.pow (n+1)=Tab.id then some (n+1) else none
theorem Lp {t:Tab}{n k:Nat}(a:lst t n=some k):∀m,n<=m->lst t m=some k:=by
 intro m
 induction m with
 | zero=>
  intro le;have:n=0:=by omega
  rw [this] at a;exact a
 | succ m b=>
  intro le;by_cases e:n=m+1
  ·rw [<- e];exact a
  ·show (match lst t m with | some k=>some k | none=>_)=_
   rw [b (by omega)]
theorem Mp {t:Tab}{n:Nat}(a:lst t n=none):lst t (n+1)=if t.pow (n+1)=Tab.id then some (n+1) else none:=by
 show (match lst t n with | some k=>some k | none=>if t.pow (n+1)=Tab.id then some (n+1) else none)=_
 rw [a]
theorem qJ (t u:Tab):xc (CV t) (CV u)=decide (t=u):=by
 have e:xc (CV t) (CV u)=(decide (t.a=u.a) && (decide (t.b=u.b) && (decide (t.c=u.c) && decide (t.d=u.d)))):=by
  rw [<- Ia,<- Ia,<- Ia,<- Ia];simp [CV,Ai,xc,Mb]
 rw [e];by_cases f:t=u
 ·subst f;simp
 ·rw [decide_eq_false f];by_cases a:t.a=u.a
  ·by_cases b:t.b=u.b
   ·by_cases c:t.c=u.c
    ·by_cases d:t.d=u.d
     ·exact absurd (Gw a b c d) f
     ·simp [d]
    ·simp [c]
   ·simp [b]
  ·simp [a]
theorem AI2 {K:FrG}{H:Hp}{x y:V}{t u:Tab}{Q:VK}(a:DV K H x (CV t))(b:DV K H y (CV u))(k:Q (.bl (decide (t=u))) H):HR K x y H Q:=
 ⟨_,_,a,b,(iI t).sh (by decide),(iI u).sh (by decide),by rw [qJ];exact k⟩
theorem YD {K:FrG}{H:Hp}{x y:V}{t u:Tab}{a:List (Option V)}{Q:VK}(b:DV K H x (CV t))(c:DV K H y (CV u))(k:Q (.bl (decide (t=u))) H):tC y a H (λ y d=>HR K x y d Q):=AI2 b c k
def uO:List ZB->ZB->Prop:=λ ds d=>∃t n,ds=[CV t]/\Tq n t/\t.det=1/\n<=300/\d=Qi (lst t 6)
end Lib
namespace L2
open PySem PySem.Spec PyProof.Rows
def FJ (xs:List V)(lo a st:Option Int):List V:=(we (UA lo a st xs.length).1 (UA lo a st xs.length).2.1 (UA lo a st xs.length).2.2).filterMap (xs[·]?)
theorem Vals.pick {xs:List V}{its:List Value}(r:Vals xs its):∀L:List Nat,Vals (L.filterMap (xs[·]?)) (L.filterMap (its[·]?))
 | []=>.nil
 | j::L=>by
  cases e:xs[j]? with
  | some x=>
   obtain ⟨u,a,b⟩:=r.get e;rw [UY e,UY a];exact .cons b (Vals.pick r L)
  | none=>
   have hl:=r.length;have a:its[j]?=none:=by
    rw [qS] at e ⊢;omega
   rw [zn e,zn a];exact Vals.pick r L
theorem jc (xs:List V)(lo a st:Option Int):(FJ xs lo a st).length<=xs.length:=by
 have e:=slicePick_size_le ((Xt xs.length uj).toArray) lo a st;unfold NS at e;rw [ZI,ZI,yQ] at e;refine U1 ?_ e;unfold FJ;generalize we _ _ _=L
 induction L with
 | nil=>exact Zj _
 | cons j L c=>
  by_cases d:j < xs.length
  ·rw [UY (YO d),UY (b:=uj) (by simp [d])]
   exact zS c
  ·rw [zn (qS.mpr (by omega)),zn (by simp;omega)]
   exact c
section
variable {X:Cx}{e:Expr}{lo hi:Option Expr}{st:Expr}{p2 pos:Pos}{te:TE}{tl th ts:TO}
def wJ (K:FrG)(te:TE)(tl th ts:TO):TE:=λ b H Q=>te b H λ x f=>tl b f λ l g=>th b g λ u h=>ts b h λ c d=>∃a xs,x=.ref a/\SqL K d a xs/\c≠some 0/\∀p,d p=none->Q (.ref p) (upd d p (.lst (FJ xs l u c)))
theorem qP (n:PE X e te)(hl:PO X lo tl)(p:PO X hi th)(t:PO X (some st) ts):PE X (.Subscript e (.Slice lo hi (some st) p2) pos) (wJ X.K te tl th ts):=by
 intro d s g H Q Y Z;refine FK (thn (n d s g H _ Y Z) λ v y ⟨x,z,B,C,D⟩=>?_)
 refine wpAny_Slice (thn (hl d y g z _ B D) λ j E ⟨l,F,G,pl,I⟩=>thn (p d E g F _ G I) λ k J ⟨u,L,M,N,O⟩=>thn (t d J g L _ M O) λ vs f ⟨c,P,R,S,T⟩=>?_)
 obtain ⟨a,xs,rfl,U,m,q⟩:=T;cases C
 have h:Inv X d g P { f with heap:=f.heap.push { cls:=.type "slice",data:=.fields #[j,k,vs] } }:=R.kept (t':=f.toks) λ b V q=>Za _ q
 obtain ⟨its,r,ht,W⟩:=h.list U;have i:=r.length;show wpAny (model X.prog X.w) X.A (GT e (.Slice lo hi (some st) p2) (.ref a) (.ref f.heap.objs.size)) (EP X d g Q) X.xe { f with heap:=f.heap.push { cls:=.type "slice",data:=.fields #[j,k,vs] } }
 refine tail_any (ops:=[.ref a,.ref f.heap.objs.size]) ht.isList.typeIs GM.lookup ?_ (by with_unfolding_all rfl)
 refine wpAny_getItem_list_slice ht.isList (Mn ..) pl N S m ?_ (by rw [ZI]<;>omega)
 refine ⟨.ref _,_,h.laid (t':=f.toks) (o:=.lst (FJ xs l u c)) (λ b V q=>Za _ q) (Zj _) ?_,rfl,q _ (h.hok.fresh (Zj _))⟩
 refine ⟨U1 (jc xs l u c) W,_,0,r.pick _,?_⟩;rw [show (NS its.toArray l u c)=((we (UA l u c xs.length).1 (UA l u c xs.length).2.1 (UA l u c xs.length).2.2).filterMap (its[·]?)).toArray by unfold NS;rw [ZI,i];simp]
 exact XB _ rfl
end
end L2
namespace Lib
open PySem L2 Fr Op
def pb (a:Bool):Nat:=cond a 50 12
theorem yp (a:Bool):12<=pb a:=by cases a<;>decide
theorem Yg (a:Bool):pb a<=4000:=by cases a<;>decide
theorem xW (p q:Rat)(a:q.num≠0):XA (0 - p.num * (q.den:Int)) (0 - (p.den:Int) * q.num)=p / q:=by
 rw [wE,wE,Rat.neg_divInt_neg];exact Fr.Mm p q
theorem jQ {K:FrG}{H:Hp}{x y:V}{n:Nat}{ds:List ZB}{Q:VK}(a:DV K H x (.list ds))(b:DV K H y (.list []))(f:Flat n (.list ds))(k:Q (.bl ds.isEmpty) H)(c:n<=64:=by decide):HR K x y H Q:=by
 refine ⟨_,_,a,b,f.sh c,flat_nil.sh (by decide),?_⟩
 have e:xc (.list ds) (.list [])=ds.isEmpty:=by
  cases ds with
  | nil=>rfl
  | cons d ds=>simp [xc,Mb]
 rw [e];exact k
end Lib
namespace L2
open PySem PySem.Spec PyProof.Rows PySem.Builtin
set_option maxHeartbeats 4000000 in
theorem AL4 {prog:ZY}{w:World}{A:XU}{s:X2}{t:PySem.Result->X2->Prop}{it:Addr}{j o:List Addr}{C:Array qE->Array qE->Prop}{n:Nat}{P:Nat->Value->Prop}{St:Nat->X2->Prop}
  (D:WalksS prog w A.in1 it j o C n P St) (ht:∀i s,St i s->s.TypeIs (.ref it) "list_reverseiterator") (k:Addr) (res:Value) (c:Nat) (a:St 0 s) (p:k∉j) (u:it∈j)
  (l:s.heap.get? k=some { cls:=.type "list",data:=.seq #[] c }) (v:∀s' d g,Moved (k::o) C s s'->s'.heap.get? k=some { cls:=.type "list",data:=.seq d g }->ItemsOf P d n->t (.ok (.ret res)) s') (x:n<=Y7):
  wpAny (model prog w) A.in1 (qf (.ref k) (.ref it) res) (λ q s'=>match q with | .done f=>t (.ok f) s' | .again g=>g.quiet=true/\uu (model prog w) A g t s') (λ e s'=>t (.error e) s') s:=by
 have z:k≠it:=λ e=>p (by rw [e];exact u)
 have h:typeLookup (.type "list_reverseiterator") "__len__"=pure none:=by
  rw [typeLookup_type,builtinLookup_eq_fast]
  kernel_rfl
 have m:typeLookup (.type "list_reverseiterator") "__length_hint__"=pure (some (.builtin "list_reverseiterator.__length_hint__")):=by
  rw [typeLookup_type,builtinLookup_eq_fast]
  kernel_rfl
 have same:GP (.ref k) (.ref it)=false:=by
  unfold GP;simp [z]
 unfold qf;refine W1 (wpAny_typeOf (ht 0 _ a) ?_);rw [if_neg (by rw [same];decide)]
 refine W1 (D.self 0 _ _ _ a (W1 (UZ ?_)));unfold WN.List.listLengthHint;refine W1 (jS (ht 0 _ a) h ?_);show wpAny _ A.in1 (specialOf (.ref it) "__length_hint__" >>= _) _ _ _;refine W1 (jS (ht 0 _ a) m ?_);generalize r:("list_reverseiterator.__length_hint__":String)=y
 wp_delta
 rw [show splitId y=some ("list_reverseiterator","__length_hint__") from by rw [<- r];decide+kernel]
 subst r;refine W1 (wpAny_isInstance (b:=true) (ht 0 _ a) (by rw [isSubtype_type];kernel_rfl) (Yf ?_))
 rw [if_neg (by decide)]
 exact Yf ⟨plainId_quiet PySem.F.plain_extend_loop _,codeAny_extend_loopS D x _ p _ n 0 _ _ _ rfl (Ul _) a l (ItemsOf.nil P) λ s' d g B ns items=>v s' d g B ns items⟩
theorem oN {prog:ZY}{w:World}{A:XU}{s:X2}{v:PySem.Result->X2->Prop}{it:Addr}{k p:List Addr}{E:Array qE->Array qE->Prop}{n:Nat}{P:Nat->Value->Prop}{St:Nat->X2->Prop}
  (x:WalksS prog w A.in1 it k p E n P St) (ht:∀i s,St i s->s.TypeIs (.ref it) "list_reverseiterator") (g:Addr) (q:St 0 s) (r:g∉k) (y:it∈k)
  (l:s.heap.get? g=some { cls:=.type "list",data:=.seq #[] }) (z:∀s' a c,Moved (g::p) E s s'->s'.heap.get? g=some { cls:=.type "list",data:=.seq a c }->ItemsOf P a n->v (.ok (.ret .none)) s') (B:n<=Y7):
  wpAny (model prog w) A.in1 (WN.«list.__init__» ⟨[.ref g,.ref it],[]⟩) (λ t s'=>match t with | .done f=>v (.ok f) s' | .again c=>c.quiet=true/\uu (model prog w) A c v s') (λ e s'=>v (.error e) s') s:=by
 have h:=FS (xb λ _=>#[]) l rfl
 have j:∀b o,b≠g->s.heap.get? b=some o->(s.heap.update g (xb λ _=>#[])).get? b=some o:=λ b o d e=>(wr s.heap (xb λ _=>#[]) (QO d)).trans e
 exact id (W1 (id (W1 (wpAny_seqItems l rfl (Yf (id (W1 (wpAny_updateSeq l rfl (W1 (wpAny_letGo (AL4 x ht g .none _
  (x.frame 0 s (s.heap.update g (xb λ _=>#[])) s.toks q (Zj _) λ b d o e=>j b o (λ C=>r (C▸d)) e) r y h
  (λ s' a c D u m=>z s' a c (Moved.trans x.gtrans (Moved.then_heap (Moved.refl x.grefl) (Zj _) λ b o d e=>j b o (λ C=>d (C▸ZD)) e) D) u m) B))) (by decide) (by decide)))))))))
theorem pP {prog:ZY}{w:World}{A:XU}{E:Value->X2->Prop}{s:X2}{it:Addr}{d j:List Addr}{v:Array qE->Array qE->Prop}{n:Nat}{P:Nat->Value->Prop}{St:Nat->X2->Prop}{Q:Value->X2->Prop}
  (x:WalksS prog w A.in1.in1 it d j v n P St) (ht:∀i s,St i s->s.TypeIs (.ref it) "list_reverseiterator") (p:St 0 s) (hf:∀b∈d,b < s.heap.objs.size) (q:it∈d)
  (r:∀s' a f,Moved (s.heap.objs.size::j) v { s with heap:=s.heap.push { cls:=.type "list",data:=.seq #[] } } s'->s'.heap.get? s.heap.objs.size=some { cls:=.type "list",data:=.seq a f }->ItemsOf P a n->Q (.ref s.heap.objs.size) s') (t:n<=Y7):
  wpAny (model prog w) A (call (.type "list") [.ref it]) Q E s:=by
 have k:s.heap.objs.size∉d:=λ y=>Qr _ (hf _ y)
 refine callType_codes (Q₁:=λ obj c=>obj=.ref s.heap.objs.size/\c={ s with heap:=s.heap.push { cls:=.type "list",data:=.seq #[] } }) PySem.F.called_list (PySem.F.typeCall_list_1 (.ref it)) PySem.F.entry_list_init (code_list_new (.ref it) ⟨rfl,rfl⟩) λ obj c g=>?_
 obtain ⟨e1,e2⟩:=g;subst e1 e2;have l:(s.heap.push { cls:=.type "list",data:=.seq #[] }).get? s.heap.objs.size=some { cls:=.type "list",data:=.seq #[] }:=XB s.heap rfl;exact ⟨⟨_,l,rfl⟩,PySem.F.args_list_init_2 _ _,oN x ht s.heap.objs.size (x.frame 0 s (s.heap.push { cls:=.type "list",data:=.seq #[] }) s.toks p (Zj _) λ b _ o e=>Za _ e) k q l (λ s' a f u m h=>⟨rfl,r s' a f u m h⟩) t⟩
theorem AK9 {items a:Array Value}(b:ItemsOf (λ i v=>items[items.size - 1 - i]?=some v) a items.size):a.toList=items.toList.reverse:=by
 have hl:a.size=items.size:=b.1
 apply List.ext_getElem?
 intro i;by_cases c:i < items.size
 ·have e1:=b.2 i a[i] (qV (by omega))
  rw [List.getElem?_reverse (by rw [WE];omega),WE,FX,FX,e1,qV (by omega)]
 ·rw [FY (by rw [WE];omega),FY (by rw [xz,WE];omega)]
section
variable {X:Cx}{xs:Expr}{tx:TE}{p0 p1 p2 pos:Pos}
theorem mO (O:X.calm=true)(P:PE X xs tx)(B:Gl X "list")(C:X.mg "list"=none)(R:Gl X "reversed")(S:X.mg "reversed"=none)
  (D:Xa [.Call (.Name "reversed" p1) [xs] [] p2] X.env=[(false,eval (.Call (.Name "reversed" p1) [xs] [] p2) X.env)]:=by rfl)
  (E:Xa [xs] X.env=[(false,eval xs X.env)]:=by rfl):
  PE X (.Call (.Name "list" p0) [.Call (.Name "reversed" p1) [xs] [] p2] [] pos)
   (λ m H Q=>tx m H λ v c=>∃(l:Addr) (d:List V),v=.ref l/\SqL X.K c l d/\∀r,c r=none->Q (.ref r) (upd c r (.lst d.reverse))):=by
 intro f s m H Q T a2;refine UK (Gk T B C fc ?_);refine Us ?_ D (by rfl)
 rw [D];show wpAny _ _ (spliced ((false,eval (.Call (.Name "reversed" p1) [xs] [] p2) X.env)::[])) _ _ s;refine yi ?_;refine UK (Gk T R S nQ ?_);refine Us ?_ E (by rfl)
 refine thn ((Cm P Aa E) p2 f _ m H (λ vs c=>match vs with | [v]=>∃(l:Addr) (d:List V),v=.ref l/\SqL X.K c l d/\∀r,c r=none->Q (.ref r) (upd c r (.lst d.reverse)) | _=>False) T a2) λ us a ⟨vs,c,g,p,q⟩=>?_
 match vs,p,q with
 | [v],p,⟨l,d,e,U,q⟩=>
  subst e;obtain ⟨u,rfl,W⟩:=vals1 p;cases W
  obtain ⟨its,F,pl,Y⟩:=g.list U;refine call_reversed_list pl.isList (wq ?_);have hl:=pl.isList;have n:l < a.heap.objs.size:=by
   obtain ⟨o,e,_⟩:=hl;exact ZO e
  have Z:X.A.in1.in1.handled=none:=g.ok.hd O;have G:(a.heap.push (revObj l ((its.toArray.size:Int) - 1))).IsRevIter a.heap.objs.size l ((its.toArray.size:Int) - 1):=⟨_,XB _ rfl,rfl,rfl⟩;have I:0<=its.toArray.size/\(a.heap.push (revObj l ((its.toArray.size:Int) - 1))).IsRevIter a.heap.objs.size l ((its.toArray.size:Int) - 1 - ((0:Nat):Int))/\(a.heap.push (revObj l ((its.toArray.size:Int) - 1))).IsList l its.toArray:=⟨Ul _,by simpa using G,hl.push _⟩
  have a3:=(Walks.listRev (prog:=X.prog) (w:=X.w) Z a.heap.objs.size l (XG n) its.toArray).toS;refine pP a3 (λ i a4 x=>x.2.1.typeIs) I ?_ (by simp) (λ s' h J j ns a0=>?_) ?_
  ·intro b k;show b < (a.heap.push _).objs.size;rw [Jb];rcases W4.mp k with rfl | k
   ·exact xo _
   ·rw [U0.mp k];exact Nat.lt_succ_of_lt n
  ·have t:=AK9 a0;have es:s'={ a with heap:=s'.heap,toks:=s'.toks }:=by
    obtain ⟨h',g',d',a5,a6⟩:=s';obtain ⟨a7,a8,a9,b0,b1⟩:=a;have L:=j.gens;have M:=j.drawn;have N:=j.os;simp only at L M N;subst L M N;rfl
   have y:(a.heap.push (revObj l ((its.toArray.size:Int) - 1))).objs.size=a.heap.objs.size+1:=Jb _ _;have ns:s'.heap.get? (a.heap.objs.size+1)=some { cls:=.type "list",data:=.seq h J }:=by rw [<- y];exact ns
   have kp:∀b o,a.heap.get? b=some o->s'.heap.get? b=some o:=λ b o e=>by
    have lt:=ZO e;refine j.heap b o ?_ (Za _ (Za _ e));intro k;rcases W4.mp k with z | z
    ·have z:b=a.heap.objs.size+1:=z.trans y;rw [z] at lt;exact Nat.not_succ_lt_self lt
    ·have z:b=a.heap.objs.size:=U0.mp z;rw [z] at lt;exact Qr _ lt
   have a1:Vals d.reverse h.toList:=by rw [t];exact F.reverse
   rw [es];show EP X f m Q (.ref (a.heap.push (revObj l ((its.toArray.size:Int) - 1))).objs.size) _;rw [y];exact ⟨.ref (a.heap.objs.size+1),_,g.laid (t':=s'.toks) (ht:=U1 g.tk (show a.toks<=s'.toks from j.toks)) kp (wm _) (show ObjOk X.prog X.w _ s'.heap _ (.lst d.reverse) from ⟨by rw [xz];exact Y,h.toList,J,a1,by rw [Array.toArray_toList];exact ns⟩),rfl,q _ (g.hok.fresh (wm _))⟩
  ·have:=F.length;rw [ZI];omega
end
end L2
namespace Lib
open PySem L2 Fr Op
theorem cY {K:FrG}{H:Hp}:∀{xs:List V} {ds:List ZB},DVs K H xs ds->DVs K H xs.reverse ds.reverse
 | _,_,.nil=>.nil
 | _,_,.cons a b=>by rw [JI,JI];exact (cY b).append (.cons a .nil)
structure DrG (H:Hp)(d c:Addr)(F:Nat):Prop where
 x:∃(i n t:Int) (L:List Int),H d=some (.lst [.ref c,.int i,.int n,.int t])/\H c=some (.lst (L.map V.int))/\0<=i/\i<=(L.length:Int)/\L.length<=64/\0<=n/\n < 2 ^ 40/\0<=t/\t+(F:Int)<=2 ^ 40
def SE (d c:Addr)(H a:Hp):Prop:=∀b o,b≠d->b≠c->H b=some o->a b=some o
theorem SE.refl (d c:Addr)(H:Hp):SE d c H H:=λ _ _ _ _ a=>a
theorem SE.trans {d c:Addr}{H f g:Hp}(a:SE d c H f)(b:SE d c f g):SE d c H g:=λ e o n m h=>b e o n m (a e o n m h)
theorem _root_.L2.Same.se {H a:Hp}(s:Same H a)(d c:Addr):SE d c H a:=λ b o _ _ e=>s b o e
theorem DrG.le {H:Hp}{d c:Addr}{m a:Nat}(o:DrG H d c m)(le:a<=m):DrG H d c a:=by
 obtain ⟨i,n,t,L,b,e,f,g,h,j,k,l,p⟩:=o.x;exact ⟨i,n,t,L,b,e,f,g,h,j,k,l,by omega⟩
theorem DrG.keep {H a:Hp}{d c:Addr}{g:Nat}(h:DrG H d c g)(s:Same H a):DrG a d c g:=by
 obtain ⟨i,n,t,L,b,e,f⟩:=h.x;exact ⟨i,n,t,L,s _ _ b,s _ _ e,f⟩
theorem DrG.nd {H:Hp}{d c p:Addr}{f:Nat}(g:DrG H d c f)(a:H p=none):p≠d:=λ e=>by
 obtain ⟨i,n,t,L,b,h,j⟩:=g.x;rw [e,b] at a;cases a
theorem DrG.nc {H:Hp}{d c p:Addr}{f:Nat}(g:DrG H d c f)(a:H p=none):p≠c:=λ e=>by
 obtain ⟨i,n,t,L,h,b,j⟩:=g.x;rw [e,b] at a;cases a
theorem DrG.t {H f:Hp}{d c:Addr}{j:Nat}(k:DrG H d c j)(s:SE d c H f):G8 H f:=by
 obtain ⟨i,n,t,L,g,h,l⟩:=k.x;exact λ b m=>⟨λ e=>s b _ (λ a=>by rw [a,g] at e;cases e) (λ a=>by rw [a,h] at e;cases e) e,λ o e=>s b _ (λ a=>by rw [a,g] at e;cases e) (λ a=>by rw [a,h] at e;cases e) e⟩
theorem DrG.dv {K:FrG}{H a:Hp}{d c:Addr}{e:Nat}{v:V}{x:ZB}(f:DrG H d c e)(s:SE d c H a)(b:DV K H v x)(n:HD x=true:=by rfl):DV K a v x:=G9 (f.t s) n b
theorem DrG.ne {H:Hp}{d c:Addr}{g:Nat}(h:DrG H d c g):c≠d:=λ e=>by
 obtain ⟨i,n,t,L,f,b,j⟩:=h.x;rw [e,f] at b;have b:=HO.lst.inj (XY b);cases L with
 | nil=>cases b
 | cons a L=>cases b
theorem DrG.keepD {H a:Hp}{d c l:Addr}{h:Nat}(j:DrG H d c h)(s:SD l H a)(hd:d≠l)(b:c≠l):DrG a d c h:=by
 obtain ⟨i,n,t,L,e,f,g⟩:=j.x;exact ⟨i,n,t,L,s _ _ hd e,s _ _ b f,g⟩
theorem Zq {n:Nat}{i:Int}(a:0<=i)(b:i < n):ixN n i=some i.toNat:=by
 unfold ixN;rw [if_pos a,if_pos b]
theorem iB (L:List Int)(j:Nat)(a:Int):(L.map V.int).set j (.int a)=(L.set j a).map V.int:=by
 rw [List.map_set]
def xP:Sp:=λ vs H Q _=>∃(d c:Addr) (b:Nat) (m:Int),vs=[.ref d,.int m]/\DrG H d c (b+1)/\(0 < m/\m < 1073741824)/\∀(x:Int) a,0<=x->x < m->DrG a d c b->SE d c H a->Q (.int x) a
def nO (K:FrG):Sp:=λ vs H Q _=>∃(a:Addr) (ns:List Int) (st:Int),vs=[.ref a,.int st]/\SqL K H a (ns.map V.int)/\0<=st/\st < 2 ^ 40/\∀d c b,Same H b->H d=none->H c=none->DrG b d c 1000000->Q (.ref d) b
def yr (K:FrG):Sp:=λ vs H Q _=>∃(d c:Addr) (e:Nat) (b:Bool),vs=[.ref d,.bl b]/\DrG H d c (e+7)/\∀v a q,DrG a d c e->SE d c H a->DV K a v (Ai q)->Bd (pb b) q->Q v a
def lW (K:FrG):Sp:=λ vs H Q _=>∃(d c:Addr) (e:Nat) (b:Bool),vs=[.ref d,.bl b]/\DrG H d c (e+15)/\∀v a p,DrG a d c e->SE d c H a->DV K a v (Bh p)->p.ok->p.bd (pb b)->Q v a
end Lib
namespace L2
open PySem PySem.Spec PyProof.Rows PySem.Builtin
end L2
namespace L2
open PySem PySem.Spec PyProof.Rows
theorem pH:WT "max"=some (.builtin "max"):=by decide+kernel
end L2
namespace Lib
open PySem L2 Fr Op
end Lib
namespace Op
open Fr
theorem wO (t u v:Tab):(t.then u).then v=t.then (u.then v):=by
 refine Tab.ext' ?_ ?_ ?_ ?_
 ·show v.a * (u.a * t.a+u.b * t.c)+v.b * (u.c * t.a+u.d * t.c)=(v.a * u.a+v.b * u.c) * t.a+(v.a * u.b+v.b * u.d) * t.c;grind
 ·show v.a * (u.a * t.b+u.b * t.d)+v.b * (u.c * t.b+u.d * t.d)=(v.a * u.a+v.b * u.c) * t.b+(v.a * u.b+v.b * u.d) * t.d;grind
 ·show v.c * (u.a * t.a+u.b * t.c)+v.d * (u.c * t.a+u.d * t.c)=(v.c * u.a+v.d * u.c) * t.a+(v.c * u.b+v.d * u.d) * t.c;grind
 ·show v.c * (u.a * t.b+u.b * t.d)+v.d * (u.c * t.b+u.d * t.d)=(v.c * u.a+v.d * u.c) * t.b+(v.c * u.b+v.d * u.d) * t.d;grind
theorem jn (t:Tab):t.then Tab.id=t:=by
 refine Tab.ext' ?_ ?_ ?_ ?_
 ·show 1 * t.a+0 * t.c=t.a;grind
 ·show 1 * t.b+0 * t.d=t.b;grind
 ·show 0 * t.a+1 * t.c=t.c;grind
 ·show 0 * t.b+1 * t.d=t.d;grind
theorem pow_add (t:Tab)(n:Nat):∀m,(t.pow n).then (t.pow m)=t.pow (n+m)
 | 0=>jn _
 | m+1=>by
  show (t.pow n).then ((t.pow m).then t)=(t.pow (n+m)).then t;rw [<- wO,pow_add t n m]
theorem oH (t:Tab)(n:Nat):t.pow (n+1)=t.then (t.pow n):=by
 have a:=pow_add t 1 n;rw [rQ] at a;rw [a,qc]
end Op
namespace Lib
open PySem L2 Fr Op
end Lib
namespace L2
open PySem PySem.Spec PyProof.Rows PySem.Builtin
section
variable {prog:ZY}{w:World}{A:XU}{E:Value->X2->Prop}
theorem f9 {it l:Addr}{vs:Array Value}(ne:l≠it):∀(n i:Nat) (s:X2) (Q:List Value->X2->Prop),s.heap.IsListIter it l i->s.heap.IsList l vs->i+n<=vs.size->
  (∀h',h'.IsListIter it l (i+n)->yb it s.heap h'->Q ((vs.toList.drop i).take n) { s with heap:=h' })->wpAny (model prog w) A (draw (.ref it) n) Q E s
 | 0,i,s,Q,j,_,_,a=>by
  show wpAny _ A (pure []) Q E s;refine Yf ?_;have:=a s.heap j (MI ..);rw [Nz] at this;exact this
 | n+1,i,s,Q,j,hl,le,a=>by
  have lt:i < vs.size:=by omega
  show wpAny _ A (pyNext (.ref it) >>= _) Q E s;refine W1 (wpAny_pyNext_list_item j hl (x:=vs[i]) (by simp [lt]) λ d j1 b1=>?_)
  refine W1 (UZ (f9 ne n (i+1) _ _ j1 (hl.extBut b1.extBut ne) (by omega) λ b c b2=>Yf ?_))
  have e:vs.toList.drop i=vs[i]::vs.toList.drop (i+1):=by simp [xw,lt]
  have r:=a b (by rw [show i+(n+1)=i+1+n by omega];exact c) (b1.trans b2)
  rw [e,List.take_succ_cons] at r;exact r
theorem vI {s:X2}{l:Addr}{vs:Array Value}{Q:List Value->X2->Prop}(d:A.handled=none)(hl:s.heap.IsList l vs)
  (i:∀h',Heap.ExtBut s.heap.objs.size s.heap h'->Q vs.toList { s with heap:=h' }):wpAny (model prog w) A (unpackItems (.ref l) vs.size none) Q E s:=by
 have ne:l≠s.heap.objs.size:=by
  obtain ⟨o,f,_⟩:=hl;exact XG (ZO f)
 unfold unpackItems notIterableAtAll;refine W1 (W1 (jS hl.typeIs F.slot_list_iter.lookup (Yf ?_)));simp only [yl,if_false];refine W1 (UZ (GG hl ?_));refine W1 (UZ (f9 ne vs.size 0 _ _ ⟨_,XB _ rfl,rfl,rfl⟩ (MO hl _) (by omega) λ g j1 b1=>?_))
 have e:List.take vs.size (List.drop 0 vs.toList)=vs.toList:=by
  rw [NA];exact UP (by simp)
 rw [e,if_neg (by simp)]
 have a:g.IsList l vs:=(MO hl _).extBut b1.extBut ne;refine W1 (UZ (wpAny_pyNext_list_end d j1 a (by simp) λ h b2=>?_))
 simp only [Ml,yl,if_false];exact Yf (i h λ b o c x=>b2 b o c (b1.extBut b o c (Za _ x)))
theorem q9 {s:X2}{env:Env}{a:List Expr}{x1}{pos:Pos}{l:Addr}{vs:Array Value}{Q:Unit->X2->Prop}(c:A.handled=none)(hl:s.heap.IsList l vs)
  (d:(zo a env).length=vs.size) (b:(zo a env).findIdx? (·.1)=none)
  (e:∀h',Heap.ExtBut s.heap.objs.size s.heap h'->wpAny (model prog w) A (GS ((zo a env).map (·.2)) vs.toList) Q E { s with heap:=h' }):
  wpAny (model prog w) A (FI (.Tuple a x1 pos) env (.ref l)) Q E s:=by
 rw [arm_assign_Tuple];refine W1 (ut ?_);unfold unpack;rw [d,b];exact W1 (UZ (vI c hl e))
end
section
variable {X:Cx}{pos:Pos}
def ye (K:FrG)(n:Nat)(t:TGs):TG:=λ v b H Q=>∃a xs,v=.ref a/\SqL K H a xs/\xs.length=n/\t xs b H Q
theorem Ii {es:List Expr}{k:Nat}{t:TGs}{n:Nat}(h:X.calm=true)(q:PGs X es t)
  (i:(zo es X.env).length=n:=by rfl) (f:(zo es X.env).findIdx? (·.1)=none:=by rfl):PG X (.Tuple es k pos) (ye X.K n t):=by
 intro c s j H v u Q l r d;obtain ⟨a,xs,rfl,m,hl,d⟩:=d;cases r
 obtain ⟨its,g,ht,w⟩:=l.list m;refine q9 (l.ok.hd h) ht.isList (by simp [i,<- hl,g.length]) f λ h' p=>?_
 exact q c _ j H xs _ Q (l.kept (t':=s.toks) λ b o e=>p b o (XG (ZO e)) e) (by simpa using g) d
end
end L2
namespace Op
open Fr
end Op
namespace Lib
open PySem L2 Fr Op
theorem SD.same {a H c:Hp}{d:Addr}(f:Same a H)(hd:a d=none)(s:SD d H c):Same a c:=λ b o e=>s b o (λ g=>by rw [g,hd] at e;cases e) (f _ _ e)
theorem RC {t:Tab}:∀{n k:Nat},lst t n=some k->t.pow k=Tab.id/\k<=n
 | 0,k,a=>by cases a
 | n+1,k,a=>by
  cases e:lst t n with
  | some j=>
   rw [Lp e (n+1) (by omega)] at a
   cases a
   exact ⟨(RC e).1,Nat.le_succ_of_le (RC e).2⟩
  | none=>
   rw [Mp e] at a
   split at a
   ·rename_i b
    cases a
    exact ⟨b,Zj _⟩
   ·cases a
theorem Wf {t u:Tab}(a:∀n,t.pow n=Tab.id↔u.pow n=Tab.id):∀n,lst t n=lst u n
 | 0=>rfl
 | n+1=>by
  cases e:lst t n with
  | some j=>rw [Lp e (n+1) (by omega),Lp ((Wf a n).symm.trans e) (n+1) (by omega)]
  | none=>
   rw [Mp e,Mp ((Wf a n).symm.trans e)];by_cases b:t.pow (n+1)=Tab.id
   ·rw [if_pos b,if_pos ((a _).mp b)]
   ·rw [if_neg b,if_neg λ y=>b ((a _).mpr y)]
def Nv (ps:List Pc):Prop:=∀p∈ps,p.isStop=false
end Lib
namespace L2
open PySem PySem.Spec PyProof.Rows PySem.Builtin
end L2
namespace Op
open Fr
def flip (r:Ay):Ay:=(r.1,-r.2)
theorem wC (p:Pc)(r:Ay):p.bent (flip (p.bent r))=flip r:=by
 cases p with
 | gap d=>exact xB (show (r.1+d * r.2)+d * -r.2=r.1 by grind) rfl
 | glass d=>exact xB rfl (show -(r.2 - d * r.1) - d * r.1=-r.2 by grind)
 | stop lo a=>rfl
theorem uY {p:Pc}{r:Ay}(a:p.lets r=true):p.lets (flip (p.bent r))=true:=by
 cases p with
 | gap d=>rfl
 | glass d=>rfl
 | stop lo b=>exact a
theorem lN {p:Pc}{ps:List Pc}{r:Ay}(c:(walk (p::ps) r).2=none):p.lets r=true/\(walk ps (p.bent r)).2=none/\(walk (p::ps) r).1=r::(walk ps (p.bent r)).1:=by
 by_cases hl:p.lets r=true
 ·have e:wk 0 (p::ps) r=_:=Fq hl;have o:=dG 1 ps 0 (p.bent r);have h':(wk (0+1) ps (p.bent r)).2=none:=by
   have a:(wk 0 (p::ps) r).2=none:=c;rw [e] at a;exact a
  rw [o] at h';refine ⟨hl,?_,?_⟩
  ·show (wk 0 ps (p.bent r)).2=none;cases b:(wk 0 ps (p.bent r)).2 with
   | none=>rfl
   | some j=>rw [b] at h';cases h'
  ·show r::(wk 0 (p::ps) r).1=r::(p.bent r::(wk 0 ps (p.bent r)).1);rw [e,o]
 ·have hf:p.lets r=false:=by simpa using hl
  have e:wk 0 (p::ps) r=_:=GF hf;have a:(wk 0 (p::ps) r).2=none:=c;rw [e] at a;cases a
theorem gC:∀(ps:List Pc) (r:Ay),(walk ps r).2=none->∀l,(walk ps r).1.getLast?=some l->walk ps.reverse (flip l)=((walk ps r).1.reverse.map flip,none)
 | [],r,_,l,hl=>by
  have:r=l:=by simpa [walk,wk] using hl
  subst this;rfl
 | p::ps,r,i,l,hl=>by
  obtain ⟨d,f,b⟩:=lN i;rw [b] at hl;have c:(walk ps (p.bent r)).1.getLast?=some l:=by
   have:(walk ps (p.bent r)).1≠[]:=by unfold walk;simp
   rw [List.getLast?_cons_of_ne_nil this] at hl;exact hl
  have a:=gC ps (p.bent r) f l c;rw [JI];have g:(walk ps.reverse (flip l)).2=none:=by rw [a]
  have lst:lastOf (wk 0 ps.reverse (flip l)).1 (flip l)=flip (p.bent r):=by
   have w:=Je ps.reverse (flip l);rw [a] at w;have e:((walk ps (p.bent r)).1.reverse.map flip).getLast?=some (flip (p.bent r)):=by
    rw [GC,Na];rfl
   exact XY (w.symm.trans e)
  rw [U4 g,lst,a,b];have h:walk [p] (flip (p.bent r))=([flip (p.bent r),flip r],none):=by
   have e:wk 0 [p] (flip (p.bent r))=_:=Fq (uY d);unfold walk;rw [e,wC];rfl
  rw [h,JI,ZH];rfl
end Op
namespace Lib
open PySem L2 Fr Op
end Lib
namespace Op
open Fr Lib
def Df (a b d:Rat):List Pc:=[.glass ((1 - a) / b),.gap b,.glass ((1 - d) / b)]
def FQ (a c d:Rat):List Pc:=[.gap ((1 - d) / (0 - c)),.glass (0 - c),.gap ((1 - a) / (0 - c))]
def Pc.part:Pc->Rat
 | .gap e=>e
 | .glass e=>e
 | .stop _ _=>1
def nz (p:Pc):Bool:=!decide (p.part=0)
def En (t:Tab):List Pc:=if t.b≠0 then Df t.a t.b t.d else if t.c≠0 then FQ t.a t.c t.d else .gap 1::Df t.a (0 - t.a) t.d
def DK (t:Tab):List Pc:=if t=Tab.id then [] else (En t).filter nz
theorem oY {p:Pc}(a:nz p=false)(r:Ay):p.bent r=r:=by
 unfold nz at a;have a:p.part=0:=by simpa using a
 cases p with
 | gap e=>
  have a:e=0:=a;subst a;exact xB (show r.1+0 * r.2=r.1 by grind) rfl
 | glass e=>
  have a:e=0:=a;subst a;exact xB rfl (show r.2 - 0 * r.1=r.2 by grind)
 | stop lo b=>rfl
theorem cA (ps:List Pc):∀r:Ay,BX (ps.filter nz) r=BX ps r:=by
 induction ps with
 | nil=>intro r;rfl
 | cons p ps a=>
  intro r;cases b:nz p with
  | true=>
   rw [GY b];exact a (p.bent r)
  | false=>
   rw [GZ (by rw [b];exact Zo)]
   show BX (ps.filter nz) r=BX ps (p.bent r);rw [oY b,a]
theorem zp (ps:List Pc):tabOf (ps.filter nz)=tabOf ps:=by
 unfold tabOf;rw [cA,cA]
theorem Nk {x y:Rat}(a:y≠0):x / y * y=x:=Rat.div_mul_cancel a
theorem Z7 {x y b:Rat}(a:b≠0)(e:b * x=b * y):x=y:=by
 have c:x * b / b=x:=qB a;have d:y * b / b=y:=qB a;rw [<- c,<- d,Rat.mul_comm x,Rat.mul_comm y,e]
theorem cJ {a b c d:Rat}(e:b≠0)(det:a * d - b * c=1):tabOf (Df a b d)=⟨a,b,c,d⟩:=by
 have e1:(1 - a) / b * b=1 - a:=Nk e;have e2:(1 - d) / b * b=1 - d:=Nk e;generalize f:(1 - a) / b=p at e1;generalize g:(1 - d) / b=q at e2;have h:-(q * (1 - b * p)+p)=c:=by
  have i:b * (-(q * (1 - b * p)+p))=b * c:=by
   have j:b * (-(q * (1 - b * p)+p))=-((q * b) * (1 - p * b)+p * b):=by grind
   rw [j,e1,e2]
   grind
  exact Z7 e i
 unfold Df;rw [f,g];refine Tab.ext' ?_ ?_ ?_ ?_
 ·show 1+b * (0 - p * 1)=a;grind
 ·show 0+b * (1 - p * 0)=b;grind
 ·show (0 - p * 1) - q * (1+b * (0 - p * 1))=c;rw [<- h];grind
 ·show (1 - p * 0) - q * (0+b * (1 - p * 0))=d;grind
theorem uK {a b c d:Rat}(l:c≠0)(det:a * d - b * c=1):tabOf (FQ a c d)=⟨a,b,c,d⟩:=by
 have e:(0 - c)≠0:=by grind
 have e1:(1 - d) / (0 - c) * (0 - c)=1 - d:=Nk e;have e2:(1 - a) / (0 - c) * (0 - c)=1 - a:=Nk e;generalize g:(1 - d) / (0 - c)=p at e1;generalize h:(1 - a) / (0 - c)=q at e2;generalize f:(0 - c)=s at e e1 e2;have i:p+q * (1 - s * p)=b:=by
  have j:s * (p+q * (1 - s * p))=s * b:=by
   have k:s * (p+q * (1 - s * p))=p * s+(q * s) * (1 - p * s):=by grind
   rw [k,e1,e2]
   grind
  exact Z7 e j
 unfold FQ;rw [g,h,f];refine Tab.ext' ?_ ?_ ?_ ?_
 ·show (1+p * 0)+q * (0 - s * (1+p * 0))=a;grind
 ·show (0+p * 1)+q * (1 - s * (0+p * 1))=b;rw [<- i];grind
 ·show 0 - s * (1+p * 0)=c;grind
 ·show 1 - s * (0+p * 1)=d;grind
theorem nZ {t:Tab}(det:t.det=1):tabOf (En t)=t:=by
 unfold Tab.det at det;unfold En;by_cases f:t.b=0
 ·rw [if_neg (by simpa using f)]
  by_cases g:t.c=0
  ·rw [if_neg (by simpa using g)]
   have h:t.a * t.d=1:=by rw [f] at det;grind
   have j:t.a≠0:=λ k=>by rw [k] at h;grind
   have i:(0 - t.a)≠0:=by grind
   have l:=cJ (a:=t.a) (b:=0 - t.a) (c:=0) (d:=t.d) i (by grind)
   have e:tabOf (.gap 1::Df t.a (0 - t.a) t.d)=(tabOf [.gap 1]).then (tabOf (Df t.a (0 - t.a) t.d)):=Hj [.gap 1] _;rw [e,l];refine Tab.ext' ?_ ?_ ?_ ?_
   ·show t.a * (1+1 * 0)+(0 - t.a) * 0=t.a;grind
   ·show t.a * (0+1 * 1)+(0 - t.a) * 1=t.b;grind
   ·show 0 * (1+1 * 0)+t.d * 0=t.c;grind
   ·show 0 * (0+1 * 1)+t.d * 1=t.d;grind
  ·rw [if_pos (by simpa using g)]
   exact uK g det
 ·rw [if_pos (by simpa using f)]
  exact cJ f det
theorem xN {t:Tab}(det:t.det=1):tabOf (DK t)=t:=by
 unfold DK;by_cases a:t=Tab.id
 ·rw [if_pos a,a];rfl
 ·rw [if_neg a,zp,nZ det]
end Op
namespace Lib
open PySem L2 Fr Op
theorem QZ {K:FrG}{H:Hp}{x y:V}{p q:Rat}{a:List (Option V)}{Q:VK}(b:DV K H x (Ai p))(c:DV K H y (Ai q))(k:Q (.bl (!decide (p=q))) H):tC y a H (λ y d=>Jr K x y d Q):=bj b c k
def pI:List ZB->ZB->Prop:=λ ds d=>∃q,ds=[Ai q]/\Sm q/\d=Ai (0 - q)
def rD:List ZB->ZB->Prop:=λ ds d=>∃x y n,ds=[Ai x,Ai y]/\Bd n x/\Bd n y/\n<=1902/\y≠0/\d=Ai ((1 - x) / y)
def rN (K:FrG):Sp:=λ vs H Q _=>∃(v:V) (a b c d:Rat) (n:Nat),vs=[v]/\DV K H v (CV ⟨a,b,c,d⟩)/\Tb n ⟨a,b,c,d⟩/\n<=1902/\b≠0/\∀l e xs,Same H e->H l=none->e l=some (.lst xs)->DVs K e xs ((Df a b d).map Bh)->Q (.ref l) e
def ue (K:FrG):Sp:=λ vs H Q _=>∃(v:V) (a b c d:Rat) (n:Nat),vs=[v]/\DV K H v (CV ⟨a,b,c,d⟩)/\Tb n ⟨a,b,c,d⟩/\n<=1900/\c≠0/\∀l e xs,Same H e->H l=none->e l=some (.lst xs)->DVs K e xs ((FQ a c d).map Bh)->Q (.ref l) e
def zu (K:FrG):Sp:=λ vs H Q _=>∃(v:V) (t:Tab) (n:Nat),vs=[v]/\DV K H v (CV t)/\Tb n t/\n<=1900/\t.det=1/\∀l a xs,Same H a->H l=none->a l=some (.lst xs)->DVs K a xs ((DK t).map Bh)->Q (.ref l) a
theorem yC {t:Tab}(c:¬ t=Tab.id)(e:¬ t.b=0):(Df t.a t.b t.d).filter nz=DK t:=by
 unfold DK En;rw [if_neg c,if_pos e]
theorem za {t:Tab}(e:¬ t=Tab.id)(f:t.b=0)(g:¬ t.c=0):(FQ t.a t.c t.d).filter nz=DK t:=by
 unfold DK En;rw [if_neg e,if_neg (by simpa using f),if_pos g]
theorem zx {t:Tab}(e:¬ t=Tab.id)(f:t.b=0)(g:t.c=0):(.gap 1::Df t.a (0 - t.a) t.d).filter nz=DK t:=by
 unfold DK En;rw [if_neg e,if_neg (by simpa using f),if_neg (by simpa using g)]
theorem yR {t:Tab}(det:t.det=1)(c:t.b=0):¬ 0 - t.a=0:=λ d=>by
 unfold Tab.det at det;have:t.a=0:=by grind
 rw [this,c] at det
 grind
theorem fW (a b d:Rat):Nv (Df a b d):=λ p c=>by
 unfold Df at c;simp only [W4,YV,or_false] at c;rcases c with rfl | rfl | rfl<;>rfl
theorem AL7 (a c d:Rat):Nv (FQ a c d):=λ p b=>by
 unfold FQ at b;simp only [W4,YV,or_false] at b;rcases b with rfl | rfl | rfl<;>rfl
theorem m7 (a b d:Rat):Nv (.gap 1::Df a b d):=λ p c=>by
 rcases W4.mp c with rfl | c
 ·rfl
 ·exact fW a b d p c
end Lib
namespace L2
open PySem PySem.Spec PyProof.Rows PySem.Builtin
end L2
namespace Lib
open PySem L2 Fr Op
theorem Vg (t:Tab):∀n,turn (t.pow n)=(turn t).pow n
 | 0=>rfl
 | n+1=>by
  rw [show t.pow (n+1)=(t.pow n).then t from rfl,YZ,Vg t n,<- oH]
theorem mq {t:Tab}(e:turn t=Tab.id):t=Tab.id:=by
 have a:=congrArg Tab.a e;have b:=congrArg Tab.b e;have c:=congrArg Tab.c e;have d:=congrArg Tab.d e;exact Tab.ext' d b c a
theorem qO (t:Tab)(n:Nat):lst (turn t) n=lst t n:=Wf (λ k=>⟨λ a=>by rw [<- Vg] at a;exact mq a,λ a=>by rw [<- Vg,a];rfl⟩) n
end Lib
namespace L2
open PySem PySem.Spec PyProof.Rows
end L2
namespace Lib
open PySem L2 Fr Op
end Lib
namespace L2
open PySem PySem.Spec PyProof.Rows
end L2
namespace Lib
open PySem L2 Fr Op
end Lib
namespace L2
open PySem PySem.Spec PyProof.Rows
end L2
namespace L2
open PySem PySem.Spec PyProof.Rows PySem.Builtin
open PySem.AutoSeq1 (wpAny_loadPart')
end L2
namespace L2
open PySem PySem.Spec PySem.Calls PyProof.Rows PySem.W Builtin Builtin.ObjectAttr
end L2
namespace L2
open PySem PySem.Spec PySem.Calls PyProof.Rows PySem.W
end L2
namespace Lib
open PySem L2 Fr Op
end Lib
namespace L2
open PySem PySem.Spec PyProof.Rows
end L2
namespace L2
open PySem PySem.Spec PyProof.Rows PySem.Builtin PySem.Builtin.Str
end L2
namespace Lib
open PySem L2 Fr Op
end Lib
namespace L2
open PySem PySem.Spec PyProof.Rows PySem.Builtin PySem.SeqAt
end L2
namespace Op
open Fr
end Op
namespace Lib
open PySem L2 Fr Op
end Lib
namespace Op
open Fr
end Op
namespace Lib
open PySem L2 Fr Op
def _root_.Op.Pc.fd (m b:Nat):Pc->Prop
 | .gap d=>Bd m d
 | .glass d=>Bd m d
 | .stop lo a=>Bd b lo/\Bd b a
end Lib
namespace L2
open PySem PySem.Spec PyProof.Rows PySem.Builtin
end L2
namespace Lib
open PySem L2 Fr Op
end Lib
namespace L2
open PySem PySem.Spec PyProof.Rows PySem.Builtin
end L2
namespace Op
open Fr
end Op
namespace Lib
open PySem L2 Fr Op
end Lib
namespace Op
open Fr
end Op
namespace Lib
open PySem L2 Fr Op
end Lib
namespace Op
open Fr
end Op
namespace Lib
open PySem L2 Fr Op
end Lib
namespace L2
open PySem PySem.Spec PyProof.Rows PySem.Builtin PySem.Builtin.Str
theorem cU:∀{zs:List Str} {its:List Value},Vals (zs.map V.str) its->∃l:List (Str×Tok),ul l=its/\l.map (·.1)=zs
 | [],_,.nil=>⟨[],rfl,rfl⟩
 | z::zs,_,.cons c r=>by
  obtain ⟨t,rfl⟩:=c;obtain ⟨l,a,b⟩:=cU r;exact ⟨(z,t)::l,by show _::ul l=_;rw [a],by show z::_=_;rw [b]⟩
def rJoin:V->List V->Hp->VK->Prop:=λ x vs H Q=>∃(a:Str) (l:Addr) (zs:List Str),x=.str a/\vs=[.ref l]/\H l=some (.lst (zs.map V.str))/\JoinOk a zs=true/\Q (.str (wB a zs)) H
theorem j6 {zs:List Str}{ps:List (Str×Tok)}(r:Vals (zs.map V.str) (ul ps)):∀p∈ps,p.2≠0:=λ p a=>by
 obtain ⟨n,b⟩:=List.mem_iff_getElem?.mp a;have e:(ul ps)[n]?=some (.str p.1 p.2):=by unfold ul;rw [Ya,b];rfl
 exact yf r e rfl
theorem wR {prog:ZY}{w:World}{A:XU}{E:Value->X2->Prop}{s:X2}{Q:Value->X2->Prop}{x:Str}{t:Tok}{c:Addr}{l:List (Str×Tok)}{a:List Str}(d:1<=s.toks)(hl:s.heap.IsList c (ul l).toArray)(ht:l.map (·.1)=a)(hok:JoinOk x a=true)(nz:∀p∈l,p.2≠0)
  (e:∀(t':NZ) k,1<=k->Q (.str (wB x a) t'.1) { s with toks:=k }):wpAny (model prog w) A (call (.builtin "str.join") [.str x t,.ref c]) Q E s:=by
 subst ht;have b:=hok;unfold JoinOk at b;rw [wP] at b;exact xk F.slot_str_join (yv _ _ _) F.entry_str_join (F.args_str_join_2 _ _) (meets_str_join_list x t c l b) ⟨hl,uW l nz d ⟨joinFit_length b,e⟩⟩
theorem Ie {X:Cx}:MtM X "str.join" rJoin:=by
 intro a s j H x vs v us Q b c d m;obtain ⟨h,l,zs,rfl,rfl,f,ok,q⟩:=m;obtain ⟨t,rfl⟩:=c;obtain ⟨u,rfl,g⟩:=d.one;cases g
 obtain ⟨o,its,n,r,hl,e⟩:=b.lstM f;obtain ⟨ps,rfl,e2⟩:=cU r;exact wR b.tk ⟨_,e,rfl,_,rfl⟩ e2 ok (j6 r) λ t' k i=>⟨.str _,H,b.tok _,⟨t',rfl⟩,q⟩
end L2
namespace L2
open PySem PySem.Spec PyProof.Rows PySem.Builtin
end L2
namespace Lib
open PySem L2 Fr Op
def letS:Str:="abcdefghijklmnopqrstuvwxyz"
def JZ (a:Str):Bool:=!(Wc letS a 0 letS.length 1).isEmpty
def nameB (a:Str):Bool:=(decide (1<=a.length) && decide (a.length<=8)) && (QI a).all JZ
def Iv:ZB->Bool
 | .str a=>nameB a
 | _=>false
theorem ir {d:ZB}(a:Mx d=false):Iv d=false:=by
 cases d<;>first | rfl | cases a
def jD (d:ZB):Prop:=∀a,d=.str a->a.length<=Y7
def vO (K:FrG):Sp:=λ vs H Q _=>∃v d,vs=[v]/\DV K H v d/\jD d/\∀a,Same H a->Q (.bl (Iv d)) a
theorem zW {b:Str}(a:nameB b=true):b.length<=8:=by
 unfold nameB at a;rw [Qv,Qv] at a;exact of_decide_eq_true a.1.2
end Lib
namespace L2
open PySem PySem.Spec PyProof.Rows PySem.Builtin
end L2
namespace L2
open PySem PySem.Spec PyProof.Rows
end L2
namespace Lib
open PySem L2 Fr Op
theorem Nq (p:Pc):HD (Bh p)=true:=by cases p<;>rfl
structure Bx (K:FrG)(H1:Hp)(p:Addr)(ps:List Pc)(Hx:Hp):Prop where
 s:Same H1 Hx
 n:H1 p=none
 ex:∃xs,Hx p=some (.lst xs)/\DVs K Hx xs (ps.map Bh)
theorem O6 {a c:Hp}{p:Addr}(s:Same a c)(n:a p=none)(o:HO):Same a (upd c p o):=λ b u e=>by
 rw [BK (Bq e n)];exact s _ _ e
theorem Bx.more {K:FrG}{b a:Hp}{p:Addr}{ps qs:List Pc}{xs zs:List V}(s:Same b a)(n:b p=none)(c:a p=some (.lst xs))(d:DVs K a xs (ps.map Bh))(e:DVs K a zs (qs.map Bh)):Bx K b p (ps++qs) (upd a p (.lst (xs++zs))):=by
 refine ⟨O6 s n _,n,xs++zs,Al,?_⟩;rw [ZH];exact Eg (Qs c _) (by rw [<- ZH];exact Eu Nq _) (d.append e)
end Lib
namespace L2
open PySem PySem.Spec PyProof.Rows
structure TopFnA (K:FrG)(mg:Str->Option Value)(x nm:Str)(st:Stmt):Prop where
 ex:∃(f:Addr) (fd:UE),Fun K nm nm st f fd/\mg x=some (.ref f)
theorem Li {K:FrG}{m:Heap}{mg:Str->Option Value}{x nm:Str}{st:Stmt}{f:Addr}{d:Value}{e g:Option Addr}{h:Array (Option Value)}{kV i j b ct:Value}(X:K.In m)(n:m.Ns Zi mg)
  (a:ZA K Zi x=some (some (.ref f))) (l:K.lookup f=some ⟨d,e,.func (YN nm nm (defArgs st) (defBody st) (defScope st) .none kV i j g b ct),h⟩) (c:YY K b nm=true) (k:YE K (.ref f)=true):TopFnA K mg x nm st:=
 ⟨f,_,DW l c k,U2 X n a⟩
theorem TopFnA.calB {c:Bool}{P:ZY}{w:World}{K:FrG}{mg:Str->Option Value}{base:Heap}{x nm:Str}{st:Stmt}{N ps:List Str}{k:Nat}{sp:Sp}(T:TopFnA K mg x nm st)(p:FnScope N ps (defScope st))
  (h:∀(kV d e:Value) (g:Option Addr) (a ct:Value) (us:List Value),us.length=ps.length->jo (YN nm nm (defArgs st) (defBody st) (defScope st) .none kV d e g a ct) ⟨us,[]⟩=pure (ps.zip us))
  (len:∀vs H Q E,sp vs H Q E->vs.length=ps.length)
  (b:∀(f:Addr) (a:Value) (A:XU) (outer:List Env) (s:X2) (H:Hp) (vs:List V) (Q:VK) (E:XK),RoomB c k (A.deeper (ua nm (defScope st) s.heap.objs.size f a))->sp vs H Q E->
   ∃t,PSs (Dn c P w K mg base N nm (defScope st) f a A outer s H E) (defBody st) t/\t { nx:=λ _ i=>Q .non i,rt:=Q } (start N vs) H):CalB P w K mg base c (k+1) x ps sp:=by
 obtain ⟨f,fd,j,m⟩:=T.ex;obtain ⟨q,r,kV,d,e,g,a,ct,o,rfl,l,n⟩:=id j.ex;exact ⟨f,_,KZ l n p len (b f a),m,j.kp,j.binds h⟩
theorem TopFnA.calN {c:Bool}{P:ZY}{w:World}{K:FrG}{mg:Str->Option Value}{base:Heap}{x nm:Str}{st:Stmt}{N ps:List Str}{k:Nat}{sp:Sp}(T:TopFnA K mg x nm st)(n:FnScope N ps (defScope st))
  (e:∀(kV d g:Value) (h:Option Addr) (a ct:Value) (us:List Value),us.length=ps.length->jo (YN nm nm (defArgs st) (defBody st) (defScope st) .none kV d g h a ct) ⟨us,[]⟩=pure (ps.zip us))
  (len:∀vs H Q E,sp vs H Q E->vs.length=ps.length)
  (b:∀(f:Addr) (a:Value) (A:XU) (outer:List Env) (s:X2) (H:Hp) (vs:List V) (Q:VK) (E:XK),RoomB c k (A.deeper (ua nm (defScope st) s.heap.objs.size f a))->sp vs H Q E->
   ∃t,PSs (Dn c P w K mg base N nm (defScope st) f a A outer s H E).nox (defBody st) t/\t { nx:=λ _ i=>Q .non i,rt:=Q } (start N vs) H):CalB P w K mg base c (k+1) x ps sp:=
 T.calB n e len λ f a A outer s H vs Q E j o=>by
  obtain ⟨t,l,m⟩:=b f a A outer s H vs Q E j o;exact ⟨t,l.nox,m⟩
abbrev jP:Sp:=λ _ _ _ _=>False
theorem TopFn.not {P:ZY}{w:World}{K:FrG}{mg:Str->Option Value}{base:Heap}{x:Str}{st:Stmt}{N ps:List Str}{k:Nat}(T:TopFn K mg x st)(g:FnScope N ps (defScope st))
  (c:∀(kV a d:Value) (e:Option Addr) (b ct:Value) (us:List Value),us.length=ps.length->jo (YN x x (defArgs st) (defBody st) (defScope st) .none kV a d e b ct) ⟨us,[]⟩=pure (ps.zip us)):CalB P w K mg base true (k+1) x ps jP:=
 T.calB g c (λ _ _ _ _ f=>f.elim) λ _ _ _ _ _ _ _ _ _ _ f=>f.elim
section
variable {X:Cx}{c:Bool}{k:Nat}{ps:List Str}{sp:Sp}{x:Str}{p pos cpos rpos:Pos}{e:Expr}{es:List Expr}{t:TA}{h0:ExceptHandler}{hs:List ExceptHandler}
theorem Yb (C:CalB X.prog X.w X.K X.mg X.base c k x ps sp)(i:RoomB c k X.A)(j:PA X.nox (e::es) t)(l:Gl X x:=by rfl)(b:(x == ("__debug__":Str))=false:=by decide)
  (m:Xa (e::es) X.env=(false,eval e X.env)::Xa es X.env:=by rfl) (d:(yq cpos (Xa es X.env)).any (·.1)=false:=by rfl):
  PS X (.Try [.Return (some (.Call (.Name x p) (e::es) [] cpos)) rpos] (h0::hs) [] [] pos) (λ J a H=>t a H λ vs g=>sp (vs++[]) g J.rt E0):=by
 obtain ⟨f,fd,L,n,o,u⟩:=C.ex;intro y s a H J z M;refine wpAny_Try_except (Fk (wpAny_Return_some (UK (Kp z l n ?_ b))));refine yk (h₀:=X.base) z.ok.mod.kin o (thn (PA.any j cpos z M) λ us N ⟨vs,g,h,r,q⟩=>⟨h.kIn,?_⟩) m d
 refine thn (Vs L i u h r q λ e s' B ht=>?_) λ v O ⟨D,E,F,G,I⟩=>⟨D,a,E,F,G,I⟩
 obtain ⟨_,_,_,_,_,_,_,_,_,_,_,_,P⟩:=B;exact P.elim
end
def xK:V->List V->Hp->VK->Prop:=λ x vs H Q=>∃i j,x=.str i/\vs=[.str j]/\Q (.bl (FF i j)) H
theorem AJ9 {X:Cx}:MtM X "str.endswith" xK:=by
 intro a s e H x vs v us Q f b c g;obtain ⟨i,j,rfl,rfl,q⟩:=g;obtain ⟨t,rfl⟩:=b;obtain ⟨u,rfl,d⟩:=c.one;obtain ⟨t',rfl⟩:=d;exact SC.endswith ⟨.bl _,H,f,rfl,q⟩
end L2
namespace L2
open PySem PySem.Spec PyProof.Rows PySem.Builtin PySem.Builtin.Str
end L2
namespace Tx
open PySem PySem.NumText PySem.Builtin.Str
def dz (m:Nat):List Nat:=if m=0 then [] else dg m
theorem Xh:∀d:Nat,d < 10->(Mc d).toNat=48+d:=by decide
theorem Zh {m:Nat}(c:0 < m):dz m=dz (m / 10)++[48+m % 10]:=by
 unfold dz;rw [if_neg (by omega)]
 by_cases a:m < 10
 ·rw [if_pos (by omega),dg,Fa a]
  show [(Mc m).toNat]=_;rw [Xh m a,Nat.mod_eq_of_lt a];rfl
 ·rw [if_neg (by omega)]
  have b:m % 10 < 10:=Mo m (by decide)
  have t:FC 10 (m / 10)++FC 10 (m % 10)=FC 10 (10 * (m / 10)+m % 10):=Nat.toDigits_append_toDigits (by decide) (by omega) b
  rw [Nat.div_add_mod] at t;unfold dg;rw [<- t,ZH,Fa b];show _++[(Mc (m % 10)).toNat]=_;rw [Xh _ b]
theorem zE {m:Nat}(a:0 < m):dz m=dg m:=by
 unfold dz;rw [if_neg (by omega)]
end Tx
namespace Lib
open PySem L2 Tx PySem.NumText
end Lib
namespace Lib
end Lib
namespace L2
open PySem PySem.Spec PyProof.Rows
section
variable {X:Cx}
theorem jN {s:X2}{c:Prop}[Decidable c]{y d:Y2}{t:NZ}{Q:Value->X2->Prop}(b:1<=s.toks)(e:¬ c->d.length<=Y7)(f:∀(t':NZ) (k:Nat),1<=k->Q (.str (if c then y else d) t'.1) { s with toks:=k }):
  (if c then Made.val (.str y t.1) else Made.str d).post Q s:=by
 by_cases a:c
 ·rw [if_pos a];have q:=f t s.toks b;rw [if_pos a] at q;exact q
 ·rw [if_neg a];have q:=f ⟨s.toks,WS b⟩ (s.toks+1) (YI _ _);rw [if_neg a] at q;exact ⟨e a,q⟩
theorem z9 {prog:ZY}{w:World}{A:XU}{E:Value->X2->Prop}{s:X2}{x:Y2}{t:NZ}{u:Tok}{n:Int}{Q:Value->X2->Prop}(b:1<=s.toks)(hok:PySem.MulOk x n)(c:∀(t':NZ) (k:Nat),1<=k->Q (.str (GE x n) t'.1) { s with toks:=k }):
  wpAny (model prog w) A (zh .Mult (.str x t.1) (.int n u)) Q E s:=by
 refine P.mul_str hok.1 hok.2.1 hok.2.2 ?_;unfold GE at c;by_cases a:n < 1
 ·rw [if_pos a];have q:=c ⟨s.toks,WS b⟩ (s.toks+1) (YI _ _);rw [if_pos a] at q;exact ⟨by decide,q⟩
 ·rw [if_neg a];refine jN b (λ d=>fits_reps (hok.2.2 a (by simpa using d))) λ t' k e=>?_
  have q:=c t' k e;rw [if_neg a] at q;exact q
theorem ZM:OpR X (zh .Mult) (λ x y H Q=>∃a n,x=.str a/\y=.int n/\PySem.MulOk a n/\Q (.str (GE a n)) H):=by
 intro b s f H x y v u Q d c ry g;obtain ⟨a,n,rfl,rfl,hok,q⟩:=g;obtain ⟨t,rfl⟩:=c;obtain ⟨t',rfl⟩:=ry;exact z9 d.tk hok λ t' k e=>⟨.str _,H,d.tok _,⟨t',rfl⟩,q⟩
end
end L2
namespace Tx
open PySem PySem.NumText PySem.Builtin.Str
theorem zY (q:Rat):∀c∈sh q,(48<=c/\c<=57)\/c=45\/c=47:=λ c a=>by
 unfold sh at a;rcases XO.mp a with a | a
 ·rcases XO.mp a with a | a
  ·split at a
   ·exact .inr (.inl (by simpa using a))
   ·cases a
  ·exact .inl (G7 _ _ a)
 ·split at a
  ·cases a
  ·rcases W4.mp a with rfl | a
   ·exact .inr (.inr rfl)
   ·exact .inl (G7 _ _ a)
end Tx
namespace Lib
open PySem L2 Tx PySem.NumText
end Lib
namespace Tx
open PySem PySem.Spec PySem.Builtin PySem.Builtin.Str L2 Lib Op
theorem Hn:Y1 " "=⟨#[32]⟩:=by decide+kernel
theorem eX:Y1 ";"=⟨#[59]⟩:=by decide+kernel
theorem lq:Y1 "; "=⟨#[59,32]⟩:=by decide+kernel
theorem Y9 (x:Y2)(c:Nat):FF x ⟨#[c]⟩=decide ((cl x).getLast?=some c):=by
 obtain ⟨⟨l⟩⟩:=x;rcases Nc l with rfl | ⟨r,a,b⟩
 ·rfl
 ·have e1:l=r++[a]:=by rw [b];simp
  subst e1;clear b;have hl:(r++[a]).toArray.size=r.length+1:=by simp
  show (decide (0+1<=(r++[a]).toArray.size) && ((r++[a]).toArray.extract ((r++[a]).toArray.size - 1) ((r++[a]).toArray.size - 1+1) == #[c]))=decide ((r++[a]).getLast?=some c);rw [hl,Nat.add_sub_cancel,uS];by_cases d:a=c
  ·subst d;simp
  ·simp [d]
theorem Z4 {f c:Nat->Option Nat}:∀{l:List Nat},(∀k∈l,f k=c k)->l.filterMap f=l.filterMap c
 | [],_=>rfl
 | a::l,d=>by
  rw [zv,zv,d a ZD,Z4 λ k b=>d k (ZT _ b)]
theorem vf (x:Y2):cl (Wp x none (some (-1)))=(cl x).dropLast:=by
 obtain ⟨⟨l⟩⟩:=x;rcases Nc l with rfl | ⟨r,a,b⟩
 ·rfl
 ·have e1:l=r++[a]:=by rw [b];simp
  subst e1;clear b;have e:Qo none (some (-1)) 1 (r.length+1)=WC r.length:=by
   unfold Qo we;simp only [show (1:Int) > 0 by decide,if_true]
   have c:max 0 (min (if (-1:Int) < 0 then -1+((r.length+1:Nat):Int) else -1) ((r.length+1:Nat):Int))=(r.length:Int):=by
    rw [if_pos (by decide)]
    omega
   rw [c];have d:(if (0:Int) < (r.length:Int) then ((r.length:Int) - 0+1 - 1) / 1 else 0).toNat=r.length:=by
    split<;>simp<;>omega
   rw [d];refine (zC λ k _=>?_).trans (List.map_id _)
   simp
  have hl:(UB (r++[a]).toArray).length=r.length+1:=by
   show (r++[a]).toArray.size=_;simp
  show cl (Wp (UB (r++[a]).toArray) none (some (-1)))=(r++[a]).dropLast;unfold Wp;rw [hl,e];rw [if_neg (by simp)]
  show ((((WC r.length)).filterMap (λ k=>(r++[a]).toArray[k]?)).toArray).toList=_
  rw [zz,NC];have e2:(WC r.length).filterMap (λ k=>(r++[a]).toArray[k]?)=(WC r.length).filterMap (λ k=>r[k]?):=by
   refine Z4 λ k f=>?_
   have:=List.mem_range.mp f;simp [UR this]
  rw [e2,W9]
def wd:Pc->Y2
 | .gap _=>Y1 "gap"
 | .glass _=>Y1 "glass"
 | .stop _ _=>Y1 "stop"
def fracs:Pc->List Rat
 | .gap q=>[q]
 | .glass q=>[q]
 | .stop lo a=>[lo,a]
def toks (p:Pc):List Y2:=wd p::(fracs p).map Aq
def De:Pc->List Y2
 | .gap q=>[Y1 "gap",Aq q++⟨#[59]⟩]
 | .glass q=>[Y1 "glass",Aq q++⟨#[59]⟩]
 | .stop lo a=>[Y1 "stop",Aq lo,Aq a++⟨#[59]⟩]
def Cr:List Pc->List Y2
 | []=>[]
 | [p]=>toks p
 | p::q::r=>De p++Cr (q::r)
def Ef:List Pc->List Y2
 | []=>[]
 | [p]=>toks p
 | p::q::r=>toks p++Y1 ";"::Ef (q::r)
def CW (p:Pc):Y2:=wB (Y1 " ") (toks p)
def Bs (ps:List Pc):Y2:=wB (Y1 "; ") (ps.map CW)
theorem Ou:∀(q:Pc) (r:List Pc),∃t a,Cr (q::r)=t::a
 | .gap _,[]=>⟨_,_,rfl⟩
 | .glass _,[]=>⟨_,_,rfl⟩
 | .stop _ _,[]=>⟨_,_,rfl⟩
 | .gap _,_::_=>⟨_,_,rfl⟩
 | .glass _,_::_=>⟨_,_,rfl⟩
 | .stop _ _,_::_=>⟨_,_,rfl⟩
theorem Dg (a:Y2)(l:List Y2):wB a l=ZE a l:=Nd _ _
theorem Jz:∀(ps:List Pc),ps≠[]->Bs ps=ZE ⟨#[32]⟩ (Cr ps)
 | [],g=>absurd rfl g
 | [p],_=>by
  show wB _ [CW p]=_;rw [Dg];show CW p=_;unfold CW;rw [Dg,Hn];rfl
 | p::q::r,_=>by
  have d:=Jz (q::r) (by simp)
  obtain ⟨t,c,e⟩:=Ou q r;have e1:Bs (p::q::r)=CW p++Y1 "; "++Bs (q::r):=by
   unfold Bs;rw [Dg,Dg];rfl
  rw [e1,d];show _=ZE ⟨#[32]⟩ (De p++Cr (q::r));rw [e]
  apply ext
  rw [BV,BV];unfold CW;rw [Dg,Hn,lq];have two:∀x y:Y2,ZE ⟨#[32]⟩ [x,y]=x++⟨#[32]⟩++y:=λ _ _=>rfl
  have three:∀x y f:Y2,ZE ⟨#[32]⟩ [x,y,f]=x++⟨#[32]⟩++(y++⟨#[32]⟩++f):=λ _ _ _=>rfl
  cases p with
  | gap a=>
   show cl (ZE ⟨#[32]⟩ [Y1 "gap",Aq a])++_++_=cl (Y1 "gap"++⟨#[32]⟩++((Aq a++⟨#[59]⟩)++⟨#[32]⟩++ZE ⟨#[32]⟩ (t::c)));rw [two];simp only [BV,YA];rfl
  | glass a=>
   show cl (ZE ⟨#[32]⟩ [Y1 "glass",Aq a])++_++_=cl (Y1 "glass"++⟨#[32]⟩++((Aq a++⟨#[59]⟩)++⟨#[32]⟩++ZE ⟨#[32]⟩ (t::c)));rw [two];simp only [BV,YA];rfl
  | stop a b=>
   show cl (ZE ⟨#[32]⟩ [Y1 "stop",Aq a,Aq b])++_++_=cl (Y1 "stop"++⟨#[32]⟩++(Aq a++⟨#[32]⟩++((Aq b++⟨#[59]⟩)++⟨#[32]⟩++ZE ⟨#[32]⟩ (t::c))));rw [three];simp only [BV,YA];rfl
theorem Hz (q:Rat)(c:Nat)(a:¬ ((48<=c/\c<=57)\/c=45\/c=47)):c∉cl (Aq q):=λ m=>a (zY q c (by rw [<- Ha];exact m))
theorem lJ:∀(ps:List Pc),∀t∈Cr ps,32∉cl t:=by
 have one:∀p:Pc,(∀t∈toks p,32∉cl t)/\∀t∈De p,32∉cl t:=by
  have e:∀q:Rat,32∉cl (Aq q++⟨#[59]⟩):=λ q m=>by
   rw [BV] at m;rcases XO.mp m with m | m
   ·exact Hz q 32 (by omega) m
   ·exact absurd m (by decide)
  intro p;cases p<;>refine ⟨λ t ht=>?_,λ t ht=>?_⟩<;>simp only [toks,De,wd,fracs,YU,xp,W4,YV,or_false] at ht
  all_goals first
   | (rcases ht with rfl | rfl | rfl)
   | (rcases ht with rfl | rfl)
  all_goals first
   | exact Hz _ 32 (by omega)
   | exact e _
   | decide+kernel
 intro ps
 induction ps with
 | nil=>intro t ht;cases ht
 | cons p r a=>
  cases r with
  | nil=>exact (one p).1
  | cons q r=>
   intro t ht;rcases XO.mp (show t∈De p++Cr (q::r) from ht) with b | b
   ·exact (one p).2 t b
   ·exact a t b
theorem Hb:∀{a b:List Y2},a.map cl=b.map cl->a=b
 | [],[],_=>rfl
 | [],_::_,c=>by cases c
 | _::_,[],c=>by cases c
 | x::a,y::b,c=>by
  rw [YU,YU] at c;have d:=WR c;rw [ext d.1,Hb d.2]
theorem aH {ps:List Pc}(b:ps≠[]):Xo (Bs ps) (Y1 " ")=Cr ps:=by
 refine Hb ?_;rw [Hn,FN,Jz ps b];refine JN (λ e=>?_) (lJ ps)
 cases ps with
 | nil=>exact b rfl
 | cons q r=>
  obtain ⟨t,c,a⟩:=Ou q r;rw [a] at e;cases e
def Dj (w:Y2):List Y2:=if FF w (Y1 ";")=true then [Wp w none (some (-1)),Y1 ";"] else [w]
def Ci (a:List Y2):List Y2:=(a.map Dj).flatten
theorem O7 {w:Y2}(a:59∉cl w):Dj w=[w]:=by
 unfold Dj;rw [if_neg];rw [eX,Y9,decide_eq_true_eq];intro e;exact a (ND e)
theorem rH (w:Y2):Dj (w++⟨#[59]⟩)=[w,Y1 ";"]:=by
 have e:cl (w++⟨#[59]⟩)=cl w++[59]:=BV _ _;unfold Dj;rw [if_pos]
 ·have:Wp (w++⟨#[59]⟩) none (some (-1))=w:=ext (by rw [vf,e,NC])
  rw [this]
 ·rw [eX,Y9,e,uS];exact decide_eq_true rfl
theorem qK:∀(ps:List Pc),ps≠[]->Ci (Cr ps)=Ef ps:=by
 have c:Dj (Y1 "gap")=[Y1 "gap"]:=O7 (by decide+kernel)
 have a:Dj (Y1 "glass")=[Y1 "glass"]:=O7 (by decide+kernel)
 have st:Dj (Y1 "stop")=[Y1 "stop"]:=O7 (by decide+kernel)
 have s:∀q:Rat,Dj (Aq q)=[Aq q]:=λ q=>O7 (Hz q 59 (by omega))
 have one:∀p:Pc,Ci (toks p)=toks p/\Ci (De p)=toks p++[Y1 ";"]:=by
  intro p;cases p<;>refine ⟨?_,?_⟩<;>simp only [Ci,toks,De,wd,fracs,YU,xp,JJ,List.flatten_nil,c,a,st,s,rH]<;>rfl
 intro ps
 induction ps with
 | nil=>intro d;exact absurd rfl d
 | cons p r b=>
  intro _;cases r with
  | nil=>exact (one p).1
  | cons q r=>
   show Ci (De p++Cr (q::r))=toks p++Y1 ";"::Ef (q::r);have e:Ci (De p++Cr (q::r))=Ci (De p)++Ci (Cr (q::r)):=by
    unfold Ci;rw [ZH,List.flatten_append]
   rw [e,(one p).2,b (by simp),YA]
   rfl
end Tx
namespace Lib
open PySem L2 Fr Op Tx
abbrev Cg (C a b:Addr)(i:Nat):HO:=.ins C a [("words",.ref b),("place",.int (i:Int))]
structure RdAt (C a dx wl:Addr)(ws:List Str)(i:Nat)(H:Hp):Prop where
 r:H a=some (Cg C dx wl i)
 w:H wl=some (.lst (ws.map V.str))
 le:ws.length<=50000
theorem RdAt.keep {C a b c:Addr}{d:List Str}{i:Nat}{H e:Hp}(f:RdAt C a b c d i H)(s:Same H e):RdAt C a b c d i e:=⟨s _ _ f.r,s _ _ f.w,f.le⟩
theorem RdAt.ne {C a d b:Addr}{f:List Str}{i:Nat}{H:Hp}(h:RdAt C a d b f i H):b≠a:=λ e=>by
 have g:=h.r;have c:=h.w;rw [e,g] at c;cases c
theorem RdAt.step {C a b c:Addr}{d:List Str}{i:Nat}{H:Hp}(e:RdAt C a b c d i H)(j:Nat):RdAt C a b c d j (upd H a (Cg C b c j)):=⟨Al,by rw [BK e.ne];exact e.w,e.le⟩
theorem Hg {a:Addr}{H:Hp}(o:HO):SD a H (upd H a o):=λ b u n e=>by rw [BK n];exact e
theorem SD.ofSame {a:Addr}{H c:Hp}(s:Same H c):SD a H c:=λ b u _ e=>s _ _ e
theorem We {C a d f:Addr}{i:Nat}{H c:Hp}(h:H a=some (Cg C d f i))(s:SD a H c):G8 H c:=λ b j=>⟨λ e=>s b _ (λ g=>by rw [g,h] at e;cases e) e,λ o e=>s b _ (λ g=>by rw [g,h] at e;cases e) e⟩
theorem RX {n:Nat}(a:n<=50000):n < Y7:=wb a (by decide)
def AH5 (C:Addr):Sp:=λ vs H Q _=>∃a b c,vs=[.ref a,.ref c]/\H a=some (.ins C b [])/\Q .non (upd H a (Cg C b c 0))
def AG5 (C:Addr):Sp:=λ vs H Q _=>∃a c d b i,vs=[.ref a]/\RdAt C a c d b i H/\Q (.bl (decide (i=b.length))) H
def uM (C:Addr):Sp:=λ vs H Q _=>∃a b c d i e,vs=[.ref a]/\RdAt C a b c d i H/\d[i]?=some e/\Q (.str e) (upd H a (Cg C b c (i+1)))
def nR (C:Addr):Sp:=λ vs H Q _=>∃a c d b i e,vs=[.ref a,.str e]/\RdAt C a c d b i H/\i<=b.length/\(b[i]?=some e->Q (.bl true) (upd H a (Cg C c d (i+1))))/\(b[i]?≠some e->Q (.bl false) H)
def yK:Sp:=λ vs H Q _=>∃x:Str,vs=[.str x]/\x.length+2<=Y7/\(Xo x (Y1 " ")).length<=20001/\(∀w∈Xo x (Y1 " "),w.length<=50000)/\
 ∀l a,Same H a->H l=none->a l=some (.lst ((Ci (Xo x (Y1 " "))).map V.str))->Q (.ref l) a
def jE:Sp:=λ vs H Q _=>∃(x:Str) (m:Nat),vs=[.str x]/\cl x=dg m/\(dg m).length<=15/\∀a,Same H a->Q (.int (m:Int)) a
def Xc (K:FrG):Sp:=λ vs H Q _=>∃q:Rat,vs=[.str (Aq q)]/\Short q/\∀v a,Same H a->DV K a v (Ai q)->Q v a
def DN (p:Pc):Prop:=p.ok/\∀q∈fracs p,Short q
def pA (K:FrG)(C:Addr):Sp:=λ vs H Q _=>∃(a d e:Addr) (c:List Str) (i:Nat) (p:Pc) (dp:Int),vs=[.ref a,.int dp]/\RdAt C a d e c i H/\(∀j t,(toks p)[j]?=some t->c[i+j]?=some t)/\DN p/\
 ∀v b,SD a H b->RdAt C a d e c (i+(toks p).length) b->DV K b v (Bh p)->Q v b
def rY (K:FrG)(C:Addr):Sp:=λ vs H Q _=>∃(a d e:Addr) (c:List Str) (ps:List Pc) (dp:Int),vs=[.ref a,.int dp]/\RdAt C a d e c 0 H/\c=Ef ps/\ps≠[]/\ps.length<=60/\(∀p∈ps,DN p)/\
 ∀l xs b,SD a H b->H l=none->RdAt C a d e c c.length b->b l=some (.lst xs)->DVs K b xs (ps.map Bh)->Q (.ref l) b
def AG8 (K:FrG):Sp:=λ vs H Q _=>∃(v:V) (ps:List Pc),vs=[v]/\DV K H v (Fj ps)/\Q (.int (ps.length:Int)) H
def jx (K:FrG):Sp:=λ vs H Q _=>∃(v:V) (ps:List Pc),vs=[v]/\DV K H v (Fj ps)/\ps.length<=60/\∀l xs a,Same H a->H l=none->a l=some (.lst xs)->DVs K a xs (ps.map Bh)->Q (.ref l) a
def AL3 (K:FrG):Sp:=λ vs H Q _=>∃ps:List Pc,vs=[.str (Bs ps)]/\ps.length<=60/\(∀p∈ps,DN p)/\∀l xs a,Same H a->H l=none->a l=some (.lst xs)->DVs K a xs (ps.map Bh)->Q (.ref l) a
theorem HX (p:Pc):(toks p).length<=3/\2<=(toks p).length:=by cases p<;>exact ⟨by simp [toks,fracs],by simp [toks,fracs]⟩
theorem Pj {q:Rat}(a:Short q):(Aq q).length<=40:=by rw [<- Dc,Ha];exact bJ q a
theorem yw (p q:Pc)(r:List Pc):Ef (p::q::r)=toks p++Y1 ";"::Ef (q::r):=rfl
theorem bw:∀ps:List Pc,(Ef ps).length<=4 * ps.length
 | []=>by decide
 | [p]=>by have:=HX p;show (toks p).length<=4 * 1;omega
 | p::q::r=>by
  rw [yw,X9,X4];have:=HX p;have:=bw (q::r);simp only [X4] at *;omega
theorem nP (p:Pc):(De p).length<=3:=by cases p<;>simp [De]
theorem RL:∀ps:List Pc,(Cr ps).length<=3 * ps.length
 | []=>by decide
 | [p]=>by have:=HX p;show (toks p).length<=3 * 1;omega
 | p::q::r=>by
  show (De p++Cr (q::r)).length<=_;rw [X9];have:=nP p;have:=RL (q::r);simp only [X4] at *;omega
theorem AG4 (p:Pc)(b:DN p)(t:Str)(m:t∈toks p):t.length<=50:=by
 rcases W4.mp m with rfl | m
 ·cases p with
  | gap _=>show (Y1 "gap").length<=50;decide+kernel
  | glass _=>show (Y1 "glass").length<=50;decide+kernel
  | stop _ _=>show (Y1 "stop").length<=50;decide+kernel
 ·obtain ⟨q,a,rfl⟩:=WO.mp m;have:=Pj (b.2 q a);omega
theorem lB (p:Pc)(b:DN p)(t:Str)(m:t∈De p):t.length<=50:=by
 have e:∀q∈fracs p,(Aq q++(⟨#[59]⟩:Str)).length<=50:=λ q a=>by
  rw [<- Dc,BV,X9,Dc];have:=Pj (b.2 q a);show _+1<=50;omega
 have s:∀q∈fracs p,(Aq q).length<=50:=λ q a=>by have:=Pj (b.2 q a);omega
 cases p<;>simp only [De,W4,YV,or_false] at m
 ·rcases m with rfl | rfl
  ·decide+kernel
  ·exact e _ (by simp [fracs])
 ·rcases m with rfl | rfl
  ·decide+kernel
  ·exact e _ (by simp [fracs])
 ·rcases m with rfl | rfl | rfl
  ·decide+kernel
  ·exact s _ (by simp [fracs])
  ·exact e _ (by simp [fracs])
theorem Ua:∀(ps:List Pc),(∀p∈ps,DN p)->∀t∈Cr ps,t.length<=50
 | [],_,t,b=>by cases b
 | [p],a,t,b=>AG4 p (a p ZD) t b
 | p::q::r,a,t,b=>by
  rcases XO.mp (show t∈De p++Cr (q::r) from b) with m | m
  ·exact lB p (a p ZD) t m
  ·exact Ua (q::r) (λ x c=>a x (ZT _ c)) t m
theorem Ol (b:Str)(a:List Str)(c:Nat)(f:∀t∈a,t.length<=c):(ZE b a).length<=a.length * (c+b.length):=by
 have g:=FG b a;have h:(a.map (·.length)).sum<=a.length * c:=by
  induction a with
  | nil=>exact Ul _
  | cons t a d=>
   rw [YU,xE,X4,FA];have:=f t ZD;have:=d (λ x e=>f x (ZT _ e)) (FG b a)
   omega
 rw [Nat.mul_add];omega
theorem Pg {ps:List Pc}(e:ps.length<=60)(a:∀p∈ps,DN p):(Bs ps).length<=10000:=by
 cases ps with
 | nil=>decide+kernel
 | cons p r=>
  rw [Jz _ (by simp)]
  have b:=Ol ⟨#[32]⟩ (Cr (p::r)) 50 (Ua _ a);have c:=RL (p::r);have d:(Cr (p::r)).length * (50+(⟨#[32]⟩:Str).length)<=180 * 51:=NF (by omega) (by decide)
  omega
theorem v7 {ps:List Pc}(f:ps≠[]):Bs ps≠Y1 "":=λ e=>by
 have a:=congrArg cl e;rw [Jz ps f] at a;cases ps with
 | nil=>exact f rfl
 | cons p r=>
  have b:cl (ZE ⟨#[32]⟩ (Cr (p::r)))≠[]:=by
   cases r with
   | nil=>cases p<;>(show cl (_++_++_)≠[];rw [BV,BV];intro c;simp at c)
   | cons q r=>
    obtain ⟨t,g,d⟩:=Ou q r;show cl (ZE ⟨#[32]⟩ (De p++Cr (q::r)))≠[];rw [d];cases p<;>(show cl (_++_++_)≠[];rw [BV,BV];intro c;simp at c)
  exact b a
end Lib
namespace L2
open PySem PySem.Spec PyProof.Rows
section
variable {κ:Type}[DecidableEq κ]
def valV (a:List (κ×V))(k:κ):Option V:=(a.find? λ b=>decide (b.1=k)).map (·.2)
def putK (a:List (κ×V))(k:κ)(v:V):List (κ×V):=
 if (a.any λ b=>decide (b.1=k))=true then a.map (λ b=>if b.1=k then (b.1,v) else b) else a++[(k,v)]
theorem Et {p:κ×V}{r:List (κ×V)}{k:κ}(e:p.1=k):valV (p::r) k=some p.2:=by simp [valV,yB,e]
theorem FZ {p:κ×V}{r:List (κ×V)}{k:κ}(e:¬ p.1=k):valV (p::r) k=valV r k:=by simp [valV,yB,e]
theorem O9 (k:κ):∀a:List (κ×V),(a.any λ b=>decide (b.1=k))=(valV a k).isSome
 | []=>rfl
 | p::r=>by
  rw [xD];by_cases e:p.1=k
  ·simp only [Et e,decide_eq_true e,Bool.true_or,Option.isSome_some]
  ·rw [FZ e,decide_eq_false e,Bool.false_or];exact O9 k r
theorem fu (k j:κ)(y:V):∀a:List (κ×V),valV (a.map λ b=>if b.1=k then (b.1,y) else b) j=(valV a j).map λ x=>if j=k then y else x
 | []=>rfl
 | p::r=>by
  have c:=fu k j y r;rw [YU];by_cases d:p.1=k
  ·rw [if_pos d];by_cases e:p.1=j
   ·rw [Et (p:=(p.1,y)) e,Et e,jI,if_pos (e.symm.trans d)]
   ·rw [FZ (p:=(p.1,y)) e,FZ e,c]
  ·rw [if_neg d];by_cases e:p.1=j
   ·rw [Et (p:=p) e,Et e,jI,if_neg (λ f=>d (e.trans f))]
   ·rw [FZ (p:=p) e,FZ e,c]
theorem dR (k j:κ)(y:V):∀a:List (κ×V),valV a k=none->valV (a++[(k,y)]) j=if j=k then some y else valV a j
 | [],_=>by
  by_cases e:k=j
  ·rw [if_pos e.symm];exact Et (p:=(k,y)) e
  ·rw [if_neg (λ c=>e c.symm)];exact FZ (p:=(k,y)) e
 | p::r,b=>by
  rw [Qy];have d:¬ p.1=k:=λ c=>by rw [Et c] at b;cases b
  rw [FZ d] at b;have f:=dR k j y r b;by_cases e:p.1=j
  ·rw [Et e,Et e,if_neg (λ c=>d (e.trans c))]
  ·rw [FZ e,FZ e,f]
theorem QV (b:List (κ×V))(k j:κ)(y:V):valV (putK b k y) j=if j=k then some y else valV b j:=by
 unfold putK;by_cases a:(b.any λ c=>decide (c.1=k))=true
 ·rw [if_pos a,fu];rw [O9] at a;by_cases e:j=k
  ·obtain ⟨x,d⟩:=GN.mp a;rw [if_pos e,e,d,jI,if_pos rfl]
  ·rw [if_neg e];cases valV b j with
   | none=>rfl
   | some x=>rw [jI,if_neg e]
 ·rw [if_neg a];refine dR k j y b ?_;rw [O9] at a;cases q:valV b k with
  | none=>rfl
  | some x=>rw [q] at a;exact (a rfl).elim
theorem cW (a:List (κ×V))(k:κ)(v:V):(putK a k v).length<=a.length+1:=by
 unfold putK
 split
 ·rw [Y3];omega
 ·rw [X9,X4,YR];omega
theorem RelO.isSome_eq {o:Option V}{u:Option Value}(r:RelO o u):o.isSome=u.isSome:=by
 cases o with
 | none=>cases u with
  | none=>rfl
  | some _=>exact (show False from r).elim
 | some _=>cases u with
  | none=>exact (show False from r).elim
  | some _=>rfl
theorem RelO.getD {o:Option V}{u:Option Value}{d:V}{d':Value}(r:RelO o u)(a:RelV d d'):RelV (o.getD d) (u.getD d'):=by
 cases o with
 | none=>cases u with
  | none=>exact a
  | some _=>exact (show False from r).elim
 | some _=>cases u with
  | none=>exact (show False from r).elim
  | some _=>exact r
theorem KV.val {a:List (κ×V)}{vs:List (κ×Value)}(r:KV a vs)(k:κ):RelO (valV a k) (FM vs k):=by
 unfold KV at r
 induction r with
 | nil=>exact zi
 | @cons p q ps qs h t f=>
  obtain ⟨d,g⟩:=h;by_cases e:p.1=k
  ·have c:q.1=k:=d.symm.trans e;have b:FM (q::qs) k=some q.2:=by simp [FM,yB,c]
   rw [Et e,b];exact g
  ·have c:¬ q.1=k:=λ i=>e (d.trans i)
   have b:FM (q::qs) k=FM qs k:=by simp [FM,yB,c]
   rw [FZ e,b];exact f
theorem KV.any {a:List (κ×V)}{vs:List (κ×Value)}(r:KV a vs)(k:κ):(a.any λ b=>decide (b.1=k))=vs.any λ b=>decide (b.1=k):=by
 unfold KV at r
 induction r with
 | nil=>rfl
 | cons d t c=>rw [xD,xD,c,d.1]
theorem KV.repl {c:List (κ×V)}{vs:List (κ×Value)}(r:KV c vs)(k:κ){y:V}{u:Value}(ry:RelV y u):
  KV (c.map λ a=>if a.1=k then (a.1,y) else a) (vs.map λ a=>if a.1=k then (a.1,u) else a):=by
 unfold KV at r ⊢
 induction r with
 | nil=>exact .nil
 | @cons p q ps qs g t d=>
  rw [YU,YU];refine .cons ?_ d;obtain ⟨b,f⟩:=g;by_cases e:p.1=k
  ·rw [if_pos e,if_pos (b.symm.trans e)];exact ⟨b,ry⟩
  ·rw [if_neg e,if_neg (λ h=>e (b.trans h))];exact ⟨b,f⟩
theorem KV.put {a:List (κ×V)}{vs:List (κ×Value)}(r:KV a vs)(k:κ){y:V}{u:Value}(ry:RelV y u):KV (putK a k y) (stored vs k u):=by
 unfold putK stored;rw [r.any k];by_cases e:(vs.any λ b=>decide (b.1=k))=true
 ·rw [if_pos e,if_pos e];exact r.repl k ry
 ·rw [if_neg e,if_neg e];exact xA.snoc r ⟨rfl,ry⟩
theorem KV.length {a:List (κ×V)}{vs:List (κ×Value)}(r:KV a vs):a.length=vs.length:=Ma r
end
theorem JH {P:ZY}{w:World}{k:Key}{u:Value}(r:RelV (kV k) u):(mixKind P w).is k u=true:=by
 cases k with
 | inl i=>obtain ⟨t,e⟩:=(show ∃t,u=qk i t from r);subst e;exact jM P w i t
 | inr x=>obtain ⟨t,e⟩:=(show ∃t:NZ,u=GV x t.1 from r);subst e;exact Yx P w x t.1
theorem gH {P:ZY}{w:World}:∀{ks:List Key} {us:List Value},Vals (ks.map kV) us->ItemsAre (mixKind P w) ks us
 | [],_,r=>by rw [xp] at r;cases r;exact .nil
 | k::ks,_,r=>by
  rw [YU] at r;cases r with
  | cons h t=>exact .cons (JH h) (gH t)
abbrev KT (H:Hp):List (List Key×V)->List (List Key×Addr×Value)->Prop:=xA λ p q=>p.1=q.1/\H q.2.1=some (.tup (p.1.map kV))/\RelV p.2 q.2.2
theorem KT.val {H:Hp}{a:List (List Key×V)}{xs:List (List Key×Addr×Value)}(r:KT H a xs)(k:List Key):RelO (valV a k) ((atKey xs k).map (·.2)):=by
 induction r with
 | nil=>exact zi
 | @cons p q ps qs h t f=>
  obtain ⟨d,_,g⟩:=h;by_cases e:p.1=k
  ·have c:q.1=k:=d.symm.trans e;have b:atKey (q::qs) k=some q.2:=by simp [atKey,yB,c]
   rw [Et e,b];exact g
  ·have c:¬ q.1=k:=λ i=>e (d.trans i)
   have b:atKey (q::qs) k=atKey qs k:=by simp [atKey,yB,c]
   rw [FZ e,b];exact f
theorem KT.repl {H:Hp}{b:List (List Key×V)}{xs:List (List Key×Addr×Value)}(r:KT H b xs)(k:List Key){y:V}{u:Value}(ry:RelV y u):
  KT H (b.map λ c=>if c.1=k then (c.1,y) else c) (xs.map (putAt k u)):=by
 induction r with
 | nil=>exact .nil
 | @cons p q ps qs h t f=>
  rw [YU,YU];refine .cons ?_ f;obtain ⟨a,d,g⟩:=h;unfold putAt;by_cases e:p.1=k
  ·rw [if_pos e,if_pos (a.symm.trans e)];exact ⟨a,d,ry⟩
  ·rw [if_neg e,if_neg (λ i=>e (a.trans i))];exact ⟨a,d,g⟩
theorem KT.put {H:Hp}{a:List (List Key×V)}{xs:List (List Key×Addr×Value)}(r:KT H a xs)(k:List Key){b:Addr}{y:V}{u:Value}(c:H b=some (.tup (k.map kV)))(ry:RelV y u):
  KT H (putK a k y) (storedH xs k b u):=by
 have e:(a.any λ d=>decide (d.1=k))=(atKey xs k).isSome:=by
  rw [O9,(r.val k).isSome_eq,Option.isSome_map]
 unfold putK storedH;rw [e];by_cases q:(atKey xs k).isSome=true
 ·rw [if_pos q,if_pos q];exact r.repl k ry
 ·rw [if_neg q,if_neg q];exact xA.snoc r ⟨rfl,c,ry⟩
theorem KT.keeps {H c:Hp}{a:List (List Key×V)}{xs:List (List Key×Addr×Value)}(r:KT H a xs)(ht:∀b d,H b=some (.tup d)->c b=some (.tup d)):KT c a xs:=
 xA.mapP r λ _ _ e=>⟨e.1,ht _ _ e.2.1,e.2.2⟩
section
variable {P:ZY}{w:World}{H:Hp}{h:Heap}{a:Addr}
theorem cM {u:HO}(ok:HOk P w H h)(e:Rd H a u):ObjOk P w H h a u:=e.ok ok
theorem O8 {b:List (Key×V)}(ok:HOk P w H h)(e:Rd H a (.dK b)):b.length<=Y7/\(a == JY)=false/\∃vs,KV b vs/\h.DictOf (mixKind P w) a vs:=
 show ObjOk P w H h a (.dK b) from cM ok e
theorem wH {b:List (Key×V)}(ok:HOk P w H h)(e:H a=some (.dK b)):b.length<=Y7/\(a == JY)=false/\∃vs,KV b vs/\h.DictOf (mixKind P w) a vs:=O8 ok (.inl e)
theorem Lz {b:List Key}(ok:HOk P w H h)(e:H a=some (.tup (b.map kV))):(NO (mixKind P w)).is h b a:=by
 obtain ⟨_,its,r,o,c,d,n,f⟩:=(show ObjOk P w H h a (.tup (b.map kV)) from ok a _ e)
 exact ⟨o,its.toArray,n,c,d,f,by simpa using gH r⟩
theorem Mt {c:List (List Key×V)}(ok:HOk P w H h)(e:Rd H a (.dT c)):c.length<=Y7/\(a == JY)=false/\
  ∃xs,KT H c xs/\h.DictOfH (NO (mixKind P w)) a xs:=by
 obtain ⟨u,y,xs,r,o,es,f,g,i,j,k,n⟩:=(show ObjOk P w H h a (.dT c) from cM ok e)
 refine ⟨u,y,xs,r,o,es,f,g,i,j,k,λ x b=>?_,n⟩
 have all:∀{l:List (List Key×V)} {m:List (List Key×Addr×Value)},KT H l m->∀x∈m,(NO (mixKind P w)).is h x.1 x.2.1:=by
  intro l m q
  induction q with
  | nil=>intro x b;exact nomatch b
  | @cons p q ps qs d t s=>
   intro x b;rcases W4.mp b with e | b
   ·subst e;exact Lz ok (by rw [<- d.1];exact d.2.1)
   ·exact s x b
 exact all r x b
theorem wA {b:List (List Key×V)}(ok:HOk P w H h)(e:H a=some (.dT b)):b.length<=Y7/\(a == JY)=false/\
  ∃xs,KT H b xs/\h.DictOfH (NO (mixKind P w)) a xs:=Mt ok (.inl e)
end
def DGet (H:Hp)(a:Addr)(y:V)(r:Option V):Prop:=
 (∃c k,Rd H a (.dK c)/\y=kV k/\r=valV c k)\/∃c k b,Rd H a (.dT c)/\y=.ref b/\H b=some (.tup (k.map kV))/\r=valV c k
def DPut (H:Hp)(a:Addr)(y v:V)(d:Hp):Prop:=
 (∃c k,H a=some (.dK c)/\y=kV k/\c.length < Y7/\d=upd H a (.dK (putK c k v)))\/
 ∃c k b,H a=some (.dT c)/\y=.ref b/\H b=some (.tup (k.map kV))/\c.length < Y7/\d=upd H a (.dT (putK c k v))
theorem DGet.k {H:Hp}{a:Addr}{b:List (Key×V)}{k:Key}(e:H a=some (.dK b)):DGet H a (kV k) (valV b k):=.inl ⟨b,k,.inl e,rfl,rfl⟩
theorem DPut.k {H:Hp}{a:Addr}{b:List (Key×V)}{k:Key}{v:V}(e:H a=some (.dK b))(hl:b.length < Y7):DPut H a (kV k) v (upd H a (.dK (putK b k v))):=.inl ⟨b,k,e,rfl,hl,rfl⟩
section
variable {X:Cx}{pins:List (Addr×Obj)}{σ:St}{H:Hp}{s:X2}{a:Addr}{y v:V}{u r:Value}{o:Option V}{A:XU}{E:Value->X2->Prop}
theorem Inv.big (b:Inv X pins σ H s):JY < s.heap.objs.size:=by
 have c:Zi < s.heap.objs.size:=(b.mod.glob.keeps b.bk).lt;exact Qb (by decide) c
theorem qt {Q:Value->X2->Prop}(n:A.units+1 < cLine)(i:Inv X pins σ H s)(z:DGet H a y (some v))(ry:RelV y u)(x:∀c s',Inv X pins σ H s'->RelV v c->Q c s'):
  wpAny (model X.prog X.w) A (GI (.ref a) u) Q E s:=by
 rcases z with ⟨j,k,e,g,l⟩ | ⟨j,k,b,e,g,q,l⟩
 ·subst g;obtain ⟨B,hd,vs,d,dd⟩:=O8 i.hok e;obtain ⟨c,h,f⟩:=RelO.some_of (v:=v) (o:=FM vs k) (by rw [l];exact d.val k)
  exact wpAny_getItem_of (JH ry) dd.mapOf h (x c _ (i.tok _) f)
 ·subst g;cases (show u=WG b from ry)
  obtain ⟨B,hd,xs,d,dd⟩:=Mt i.hok e;obtain ⟨c,h,f⟩:=RelO.some_of (v:=v) (o:=(atKey xs k).map (·.2)) (by rw [l];exact d.val k)
  obtain ⟨p,t,m⟩:=wS.mp h;refine wpAny_getItem_heap (qG n) (Lz i.hok q) dd t ?_;rw [m];exact x c _ (i.tok _) f
theorem yV {Q:Value->X2->Prop}(h:A.units+1 < cLine)(f:Inv X pins σ H s)(m:DGet H a y o)(ry:RelV y u)(j:∀s',Inv X pins σ H s'->Q (.bool (!o.isSome)) s'):
  wpAny (model X.prog X.w) A (UN .NotIn u (.ref a)) Q E s:=by
 rcases m with ⟨g,k,e,d,l⟩ | ⟨g,k,b,e,d,i,l⟩
 ·subst d;obtain ⟨n,hd,vs,c,dd⟩:=O8 f.hok e;refine wpAny_notIn_of (JH ry) hd dd.mapOf ?_;rw [<- (c.val k).isSome_eq,<- l];exact j _ (f.tok _)
 ·subst d;cases (show u=WG b from ry)
  obtain ⟨n,hd,xs,c,dd⟩:=Mt f.hok e;refine wpAny_notIn_heap (qG h) (Lz f.hok i) hd dd ?_;have q:=(c.val k).isSome_eq;rw [Option.isSome_map] at q;rw [<- q,<- l];exact j _ (f.tok _)
theorem Xv {h':Heap}{t':Nat}{c:HO}(j:Inv X pins σ H s)(f:Mut (H a))(g:yb a s.heap h')(h:∃q,h'.get? a=some q)(d:ObjOk X.prog X.w (upd H a c) h' a c)(ht:1<=t':=by first | assumption | exact Inv.tk (by assumption) | exact YI _ _ | omega):
  Inv X pins σ (upd H a c) { s with heap:=h',toks:=t' }:=
 j.write (x:=a) (e:=a) f (.inl rfl) (λ b q i k=>(g.2 b i).trans k) h d
theorem vL {P:ZY}{w:World}{d:Hp}{h':Heap}{b:List (Key×V)}{vs:List (Key×Value)}(e:b.length<=Y7)(hd:(a == JY)=false)(c:KV b vs)(dd:h'.DictOf (mixKind P w) a vs):
  ObjOk P w d h' a (.dK b):=⟨e,hd,vs,c,dd⟩
theorem zm {p:Hp}{Q:Unit->X2->Prop}(D:A.units+1 < cLine)(t:Inv X pins σ H s)(N:DPut H a y v p)(ry:RelV y u)(x:RelV v r)(M:∀s',Inv X pins σ p s'->Q () s'):
  wpAny (model X.prog X.w) A (setItem (.ref a) u r) Q E s:=by
 rcases N with ⟨d,k,e,i,l,j⟩ | ⟨d,k,b,e,i,z,l,j⟩
 ·subst i j;obtain ⟨B,hd,vs,f,dd⟩:=wH t.hok e;have m:vs.length<=Y7:=by rw [<- f.length];exact B
  have hl:(putK d k v).length<=Y7:=by have:=cW d k v;omega
  refine wpAny_setItem_pairs (hsz:=m) (JH ry) dd λ h' g n=>M _ ?_
  have F:∃q,h'.get? a=some q:=let ⟨q,_,_,h,_⟩:=g;⟨q,h⟩
  exact Xv t (by rw [e];exact zi) n F (vL hl hd (f.put k x) g)
 ·subst i j;cases (show u=WG b from ry)
  obtain ⟨B,hd,xs,f,dd⟩:=wA t.hok e;have m:xs.length<=Y7:=by rw [<- Ma f];exact B
  have hl:(putK d k v).length<=Y7:=by have:=cW d k v;omega
  refine wpAny_setItem_heap (hsz:=m) (qG D) (Lz t.hok z) dd λ h' g n=>M _ ?_
  obtain ⟨q,es,G,h,I,J,K,_,L⟩:=g;refine Xv t (by rw [e];exact zi) n ⟨q,h⟩ ⟨hl,hd,_,(f.put k z x).keeps λ c O C=>?_,q,es,G,h,I,J,K,L⟩
  rw [BK (AH6 C e (λ B=>nomatch B))]
  exact C
end
def NoSl (i:Expr):Prop:=∀a b,GH i false a b=operate [a,b] (GI a b)
theorem Zw {prog:ZY}{w:World}{A:XU}{E:Value->X2->Prop}{s:X2}{env:Env}{b a:Expr}{pos:Pos}{T id:String}{Q:Value->X2->Prop}
  (hl:typeLookup (.type T) "__getitem__"=pure (some (.builtin id))) (l:NoSl a)
  (m:wpAny (model prog w) A (eval b env) (λ o e=>wpAny (model prog w) A (eval a env) (λ i c=>c.TypeIs o T/\wpAny (model prog w) A (GI o i) Q E c) E e) E s):
  wpAny (model prog w) A (eval (.Subscript b a pos) env) Q E s:=by
 refine FK (UI m (λ o e h=>UI h (λ i c d=>?_) λ _ _ x=>x) λ _ _ x=>x)
 obtain ⟨k,d⟩:=d;unfold GT;refine W1 ?_;rw [getitemInPython_of_ne k.not_modules];refine W1 (jS k hl ?_);have f:wpAny (model prog w) A (GH a false o i) (λ r g=>wpAny (model prog w) A (letTemporaryGo b o r >>= λ _=>pure r) Q E g) E c:=by
  rw [l o i];exact wpAny_operating (UI d (λ r g j=>W1 (wpAny_letTemporaryGo (Yf j))) λ _ _ x=>x)
 first
  | exact Yf (W1 f)
  | exact W1 (Yf (W1 f))
  | exact W1 f
theorem zA {X:Cx}{c:List (Addr×Obj)}{f:St}{H:Hp}{s:X2}{a:Addr}{y:V}{o:Option V}(g:Inv X c f H s)(h:DGet H a y o):s.TypeIs (.ref a) "dict":=by
 rcases h with ⟨d,k,e,_,_⟩ | ⟨d,k,b,e,_,_,_⟩
 ·obtain ⟨_,_,vs,_,dd⟩:=O8 g.hok e;exact dd.typeIs
 ·obtain ⟨_,_,xs,_,dd⟩:=Mt g.hok e;exact dd.typeIs
def tDGet (d e:TE):TE:=λ b H Q=>d b H λ x f=>e b f λ y c=>∃a v,x=.ref a/\DGet c a y (some v)/\Q v c
def tDNotIn (d e:TE):TE:=λ b H Q=>d b H λ y f=>e b f λ x c=>∃a o,x=.ref a/\DGet c a y o/\Q (.bl (!o.isSome)) c
def sDPut (d e f:TE):TS:=λ j b H=>f b H λ v g=>d b g λ x h=>e b h λ y i=>∃a c,x=.ref a/\DPut i a y v c/\j.nx b c
section
variable {X:Cx}{o i e value:Expr}{pos pos' tpos:Pos}{td ty tv:TE}
theorem mD (g:X.A.units+1 < cLine)(h:PE X o td)(j:PE X i ty)(k:NoSl i):PE X (.Subscript o i pos) (tDGet td ty):=by
 intro b s c H Q B C;refine Zw Gc.lookup k (thn (h b s c H _ B C) λ u l ⟨x,m,n,p,q⟩=>thn (j b l c m _ n q) λ D E ⟨y,r,d,ry,a,v,ex,z,t⟩=>?_)
 subst ex;obtain rfl:u=WG a:=p;exact ⟨zA d z,qt g d z ry λ G I w f=>⟨v,r,w,f,t⟩⟩
theorem lM (d:X.A.units+1 < cLine)(f:PE X i ty)(g:PE X o td):PC X .NotIn i o (tDNotIn ty td):=by
 intro b s c H Q v w;refine thn (f b s c H _ v w) λ z h ⟨y,j,k,ry,l⟩=>thn (g b h c j _ k l) λ u B ⟨x,m,n,p,a,q,ex,C,r⟩=>?_
 subst ex;obtain rfl:u=WG a:=p;exact yV d n C ry λ D t=>⟨.bl (!q.isSome),m,t,rfl,r⟩
theorem qM (d:X.A.units+1 < cLine)(f:PE X o td)(g:PE X i ty)(hv:PE X value tv)(h:ql value (some (.Subscript o i pos')) pos.line X.env=pure false):
  PS X (.Assign [.Subscript o i pos'] value pos) (sDPut td ty tv):=by
 intro b s c H N F G;refine wpAny_Assign_Subscript (thn (hv b s c H _ F G) λ r j ⟨v,k,l,m,n⟩=>thn (f b j c k _ l n) λ u p ⟨x,q,t,w,z⟩=>thn (g b p c q _ t z) λ I J ⟨y,K,B,ry,a,C,ex,L,D⟩=>?_) h
 subst ex;obtain rfl:u=WG a:=w;exact zm d B L ry m λ M E=>⟨c,C,E,D⟩
end
theorem yd {P:ZY}{w:World}{H:Hp}(a:Heap)(b:JY < a.objs.size):ObjOk P w H (a.push { cls:=.type "dict",data:=.dict #[] }) a.objs.size (.dK []):=
 ⟨Ul _,beq_eq_false_iff_ne.mpr (QO (XG b)),[],.nil,Heap.DictOf.new a⟩
def tDNewK:TE:=λ _ H Q=>∀p,H p=none->Q (.ref p) (upd H p (.dK []))
section
variable {X:Cx}{pos:Pos}
theorem xM:PE X (.Dict [] [] pos) tDNewK:=λ b s d H Q c e=>
 wpAny_Dict_empty ⟨.ref s.heap.objs.size,_,c.laid (a:=s.heap.objs.size) (o:=.dK []) (t':=s.toks) (λ _ _ q=>Za _ q) (Zj _) (yd s.heap c.big),rfl,e _ (c.hok.fresh (Zj _))⟩
end
structure M1 (X:Cx)(o:Expr)(m:Str)(apos:Pos)(e:Expr)(cpos:Pos):Prop where
 base:xJ o m X.env (eval o X.env)=eval o X.env
 few:((yq cpos (Xa [e] X.env)).all (λ x=>!x.1) && (NL cpos (jp [] X.env)).all (λ x=>x.1.isSome)
  && decide (([e]:List Expr).length+([]:List NU).length+(if ([]:List NU).isEmpty then 0 else 1) < 30))=true
 line:(apos.endLine == cpos.line)=true
 trees:yq cpos (Xa [e] X.env)=[(false,eval e X.env)]
end L2
namespace PySem
open Sem (wp)
end PySem
namespace L2
open PySem PySem.Spec PyProof.Rows PySem.Builtin
theorem RoomB.units1 {c:Bool}{k:Nat}{A:XU}(a:RoomB c k A):A.units+1 < cLine:=wb (by omega) a.units
end L2
namespace L2
open PySem PySem.Spec PyProof.Rows
end L2
namespace L2
open PySem PySem.Spec PyProof.Rows PySem.Builtin
structure DKG (P:ZY)(w:World)(K:FrG)(a:Addr)(kvs:List (Key×V)):Prop where
 ex:∃(vs:List (Key×Value)) (o:Obj) (es:Array uk) (ep:Nat),KV kvs vs/\K.lookup a=some o/\o.ExactDict/\o.data=.dict es ep/\KeysOf (mixKind P w) es/\Pairs (mixKind P w) es.toList vs/\(vs.map (·.1)).Nodup
 ns:(a == JY)=false
section
variable {X:Cx}{pins:List (Addr×Obj)}{σ:St}{H:Hp}{s:X2}{a:Addr}{kvs:List (Key×V)}
theorem DKG.dd (g:Inv X pins σ H s)(h:DKG X.prog X.w X.K a kvs):∃vs,KV kvs vs/\s.heap.DictOf (mixKind X.prog X.w) a vs:=by
 obtain ⟨vs,o,es,b,c,l,ex,hd,d,e,f⟩:=h.ex;exact ⟨vs,c,o,es,b,g.kIn _ _ l,ex,hd,d,e,f⟩
def jX (P:ZY)(w:World)(K:FrG)(b c:TE):TE:=λ σ H Q=>b σ H λ x d=>c σ d λ y e=>∃a kvs k v,x=.ref a/\DKG P w K a kvs/\y=kV k/\valV kvs k=some v/\Q v e
def jV (P:ZY)(w:World)(K:FrG)(b c:TE):TE:=λ σ H Q=>b σ H λ x d=>∃a kvs,x=.ref a/\DKG P w K a kvs/\c σ d λ y e=>∃k,y=kV k/\Q ((valV kvs k).getD .non) e
end
section
variable {X:Cx}{o i e:Expr}{es:List Expr}{pos apos cpos:Pos}{td ty tf:TE}{t:TA}{E:XK}
theorem Pr (h:PE X o td)(j:PE X i ty)(m:NoSl i):PE X (.Subscript o i pos) (jX X.prog X.w X.K td ty):=by
 intro b s c H Q I J;refine Zw Gc.lookup m (thn (h b s c H _ I J) λ u n ⟨x,p,q,r,z⟩=>thn (j b n c p _ q z) λ L M ⟨y,A,d,ry,a,G,k,v,ex,N,B,l,C⟩=>?_)
 subst ex;subst B;obtain rfl:u=WG a:=r;obtain ⟨vs,f,dd⟩:=N.dd d;obtain ⟨O,D,g⟩:=RelO.some_of (v:=v) (o:=FM vs k) (by rw [<- l];exact f.val k)
 exact ⟨dd.typeIs,wpAny_getItem_of (JH ry) dd.mapOf D ⟨v,A,d.tok _,g,C⟩⟩
theorem Yp (n:PE X o td)(p:PE X e ty)(m:M1 X o "get" apos e cpos):PE X (.Call (.Attribute o "get" apos) [e] [] cpos) (jV X.prog X.w X.K td ty):=by
 intro c s f H Q O P;refine wpAny_Call_method m.base m.few m.line PySem.F.plainAttrs_dict Nh PySem.F.type_dict_get (thn (n c s f H _ O P) λ u r ⟨x,v,g,z,a,h,ex,A,B⟩=>?_)
 subst ex;obtain rfl:u=WG a:=z;obtain ⟨N,C,d⟩:=A.dd g;refine ⟨d.typeIs,(λ b q=>?_),?_⟩
 ·cases q
  obtain ⟨D,_,_,G,I,_⟩:=d;exact ⟨D,G,I.2.1⟩
 rw [m.trees];refine wt rfl (uI (yi (thn (p c r f v _ g B) λ R S ⟨y,J,j,ry,k,L,M⟩=>wq ?_)))
 subst L;obtain ⟨vs,l,dd⟩:=A.dd j;exact call_meetsIn Nh dd.typeIs PySem.F.entry_dict_get (PySem.F.args_dict_get_2 _ _) (meets_dict_get (mixKind X.prog X.w) a (JH ry) A.ns) ⟨_,dd.mapOf,⟨(valV h k).getD .non,J,j.tok _,(l.val k).getD (show RelV .non uj from rfl),M⟩⟩
def tU (P:ZY)(w:World)(K:FrG)(mg:Str->Option Value)(base:Heap)(A:XU)(E:XK)(tf:TE)(t:TA):TE:=λ a H Q=>tf a H λ x b=>∃(f:Addr) (fd:UE) (m:Nat) (ps:List Str) (sp:Sp),x=.ref f/\FnB P w K mg base true m f fd ps sp/\YE K (.ref f)=true/\Binds K fd ps []/\RoomB true m A/\t a b λ vs c=>sp (vs++[]) c Q E
theorem Oq (g:Passes (GD X.prog X.w) X E)(hf:PE X o tf)(h:PA X (e::es) t)
  (j:Xa (e::es) X.env=(false,eval e X.env)::Xa es X.env:=by rfl) (d:(yq pos (Xa es X.env)).any (·.1)=false:=by rfl)
  (k:eval (.Call o (e::es) [] pos) X.env=(do callWith pos (<- eval o X.env) [] (yq pos (Xa (e::es) X.env)) (NL pos (jp [] X.env))):=by rfl):
  PE X (.Call o (e::es) [] pos) (tU X.prog X.w X.K X.mg X.base X.A E tf t):=by
 intro a s b H Q I l;refine Call_ (thn (hf a s b H _ I l) λ u n ⟨x,p,v,y,f,fd,m,ps,sp,ex,J,z,B,C,q⟩=>?_) k
 subst ex;obtain rfl:u=WG f:=y;refine yk (h₀:=X.base) I.ok.mod.kin z (thn (h pos a n b p _ v q) λ us D ⟨vs,F,c,r,G⟩=>⟨c.kIn,?_⟩) j d
 exact Vs J C B c r G λ e s' l=>g a b F D e s' c l
end
end L2
namespace Tx
open PySem PySem.Builtin PySem.Builtin.Str PySem.StrLaws
theorem Ub (s sub:Str)(b L:Nat):∀(l:List Nat) (st:Array Nat×Nat),∃more,(forIn l st (FO s sub b L)).run.fst.toList=st.fst.toList++more
 | [],st=>⟨[],by simp⟩
 | a::l,st=>by
  rw [QW];unfold FO
  split
  ·obtain ⟨more,c⟩:=Ub s sub b L l (st.fst.push a,a+sub.length);exact ⟨a::more,by
    have h':(forIn l (st.fst.push a,a+sub.length) (FO s sub b L)).run.fst.toList=st.fst.toList++(a::more):=by rw [c];simp
    exact h'⟩
  ·exact Ub s sub b L l (st.fst,st.snd)
theorem gU (s sub:Str)(b k:Nat):∀(l:List Nat) (st:Array Nat×Nat),k<=st.fst.size->(forIn l st (FO s sub b k)).run.fst=st.fst
 | [],st,_=>rfl
 | a::l,st,c=>by
  rw [QW];unfold FO;rw [if_neg (λ d=>by have:=d.1.1.1;omega)]
  exact gU s sub b k l (st.fst,st.snd) c
theorem Rj (s sub:Str)(b:Nat){k L:Nat}(f:k<=L):∀(l:List Nat) (st:Array Nat×Nat),st.fst.size<=k->(forIn l st (FO s sub b k)).run.fst.toList=(forIn l st (FO s sub b L)).run.fst.toList.take k
 | [],st,g=>by
  show st.fst.toList=st.fst.toList.take k;rw [UP (by rw [WE];exact g)]
 | a::l,st,g=>by
  by_cases e:st.fst.size=k
  ·rw [gU s sub b k (a::l) st (by omega)]
   obtain ⟨more,h⟩:=Ub s sub b L (a::l) st;rw [h,List.take_left' (by rw [WE];exact e)]
  ·have lt:st.fst.size < k:=by omega
   rw [QW,QW];unfold FO;by_cases c:(st.snd<=a/\a+sub.length<=b)/\subAt s sub a=true
   ·rw [if_pos ⟨⟨⟨lt,c.1.1⟩,c.1.2⟩,c.2⟩,if_pos ⟨⟨⟨by omega,c.1.1⟩,c.1.2⟩,c.2⟩]
    exact Rj s sub b f l (st.fst.push a,a+sub.length) (by simp only [Array.size_push];omega)
   ·rw [if_neg (λ d=>c ⟨⟨d.1.1.2,d.1.2⟩,d.2⟩),if_neg (λ d=>c ⟨⟨d.1.1.2,d.1.2⟩,d.2⟩)]
    exact Rj s sub b f l (st.fst,st.snd) g
theorem xf (x y:Str){k:Nat}(a:k<=x.length+1):Wc x y 0 x.length k=(Wc x y 0 x.length (x.length+1)).take k:=by
 rw [occ_eq,occ_eq];exact Rj x y x.length a _ _ (Ul _)
theorem jw {x:Str}{c:Nat}{a b t:List Nat}(i:cl x=a++c::(b++c::t))(n:c∉a)(o:c∉b):∃c0 c1,Wc x ⟨#[c]⟩ 0 x.length 2=[c0,c1]/\(xt x [c0,c1] 1).map cl=[a,b,t]:=by
 have d:=FN x c;rw [i,Eo _ n,Eo _ o] at d;have hl:2<=x.length+1:=by
  have:(cl x).length=x.length:=by show x.cps.toList.length=_;rw [WE];rfl
  rw [i] at this;simp only [X9,X4] at this;omega
 have q:2<=(cut c t).length+1:=by
  have:cut c t≠[]:=by
   cases t with
   | nil=>simp [cut]
   | cons s zs=>
    unfold cut
    split
    ·simp
    ·split<;>simp
  have:=List.length_pos_iff.mpr this;omega
 have ht:=xf x ⟨#[c]⟩ hl;have e:Xo x ⟨#[c]⟩=partsFrom x 1 0 (Wc x ⟨#[c]⟩ 0 x.length (x.length+1))\/(Xo x ⟨#[c]⟩).length=1:=by
  unfold Xo
  split
  ·exact .inr rfl
  ·split
   ·exact .inr rfl
   ·exact .inl (partsBetween_eq x _ 1)
 rcases e with e | e
 ·rw [e] at d;cases j:Wc x ⟨#[c]⟩ 0 x.length (x.length+1) with
  | nil=>
   rw [j] at d;have:=congrArg Jh d;simp only [partsFrom,Y3,X4,YR] at this;omega
  | cons c0 r=>
   rw [j] at d ht;cases r with
   | nil=>
    have:=congrArg Jh d;simp only [partsFrom,Y3,X4,YR] at this;omega
   | cons c1 r=>
    have e2:Wc x ⟨#[c]⟩ 0 x.length 2=[c0,c1]:=ht;refine ⟨c0,c1,e2,?_⟩;have d:cl (wf x 0 c0)::cl (wf x (c0+1) c1)::(partsFrom x 1 (c1+1) r).map cl=a::b::cut c t:=d;have k:=(WR d).1;have l:=(WR (WR d).2).1;rw [partsBetween_eq];show [cl (wf x 0 c0),cl (wf x (c0+1) c1),cl (wf x (c1+1) x.length)]=_;obtain ⟨f,ch⟩:=occ_chain x ⟨#[c]⟩ 2;rw [e2] at ch;have h:=join_partsFrom x ⟨#[c]⟩ [c0,c1] 0 f ch;rw [sub_whole] at h;have h:ZE ⟨#[c]⟩ [wf x 0 c0,wf x (c0+1) c1,wf x (c1+1) x.length]=x:=h;have g:=congrArg cl h;rw [show ZE ⟨#[c]⟩ [wf x 0 c0,wf x (c0+1) c1,wf x (c1+1) x.length]=wf x 0 c0++⟨#[c]⟩++(wf x (c0+1) c1++⟨#[c]⟩++wf x (c1+1) x.length) from rfl,BV,BV,BV,BV,k,l,i] at g
    have m:cl (⟨#[c]⟩:Str)=[c]:=rfl;rw [m] at g;have p:cl (wf x (c1+1) x.length)=t:=by
     have:a++[c]++(b++[c]++cl (wf x (c1+1) x.length))=a++c::(b++c::t):=g;simp only [YA,Qy,JO] at this;have:=Fc this;have:=(WR this).2;have:=Fc this;exact (WR this).2
    rw [k,l,p]
 ·have:=congrArg Jh d;rw [Y3,e] at this;simp only [X4] at this;omega
end Tx
namespace L2
open PySem PySem.Spec PyProof.Rows PySem.Builtin PySem.Builtin.Str Tx
def jr:V->List V->Hp->VK->Prop:=λ x vs H Q=>∃i sa a st:Str,x=.str i/\vs=[.str (Y1 " "),.int 2]/\cl i=cl sa++32::(cl a++32::cl st)/\32∉cl sa/\32∉cl a/\i.length+2<=Y7/\∀p,H p=none->Q (.ref p) (upd H p (.lst [.str sa,.str a,.str st]))
theorem ym {a b:Str}(c:cl a=cl b):a=b:=by
 obtain ⟨⟨x⟩⟩:=a;obtain ⟨⟨y⟩⟩:=b;have c:x=y:=c;rw [c]
theorem wg {X:Cx}:MtM X "str.split" jr:=by
 intro j s A H x vs v us Q h k l B;obtain ⟨i,sa,a,st,rfl,rfl,c,m,n,C,q⟩:=B;obtain ⟨t,rfl⟩:=k;obtain ⟨u,w,rfl,o,d⟩:=vals2 l;obtain ⟨t',rfl⟩:=o;obtain ⟨t2,rfl⟩:=d;have e1:(Y1 " ")=(⟨#[32]⟩:Str):=by decide+kernel
 obtain ⟨c0,c1,f,b⟩:=jw c m n;rw [e1];have p:0 < i.length:=by
  have:(cl i).length=i.length:=by show i.cps.toList.length=_;rw [WE];rfl
  rw [c] at this;simp only [X9,X4] at this;omega
 have r:(decide (i.length < (⟨#[32]⟩:Str).length) || decide (zD i < zD ⟨#[32]⟩))=false:=by
  have y:zD (⟨#[32]⟩:Str)=1:=by decide+kernel
  have D:1<=zD i:=by
   unfold zD
   split
   ·exact Zj _
   ·split<;>decide
  have z:(⟨#[32]⟩:Str).length=1:=rfl;rw [y,z,decide_eq_false (by omega),decide_eq_false (by omega)]
  rfl
 have g:limitOf i 2=2:=rfl;have hf:(Wc i ⟨#[32]⟩ 0 i.length (limitOf i 2)).isEmpty=false:=by rw [g,f];rfl
 have pb:xt i (Wc i ⟨#[32]⟩ 0 i.length (limitOf i 2)) (⟨#[32]⟩:Str).length=[sa,a,st]:=by
  rw [g,f];have b:(xt i [c0,c1] 1).map cl=[sa,a,st].map cl:=b;exact List.map_inj_right (λ _ _=>ym) |>.mp b
 refine xk XI (yv _ _ _) PySem.F.entry_str_split (PySem.F.args_str_split_3 _ _ _) (meets_str_split_sep_max i ⟨#[32]⟩ 2 t t' t2 (by decide) r rfl hf (by omega) (by rw [pb];show 3<=Y7;decide)) ?_
 show wants _ _ _ { s with toks:=_,heap:=s.heap.push { cls:=.type "list",data:=.seq (strsFrom s.toks (xt i (Wc i ⟨#[32]⟩ 0 i.length (limitOf i 2)) (⟨#[32]⟩:Str).length)).toArray } }
 rw [pb,strsFrom_eq];refine ⟨.ref s.heap.objs.size,_,?_,rfl,q _ h.fresh⟩;have e:(numbered s.toks [sa,a,st]).map (·.1)=[sa,a,st]:=NM _ _
 have:[V.str sa,V.str a,V.str st]=((numbered s.toks [sa,a,st]).map (·.1)).map V.str:=by rw [e];rfl
 rw [this];exact h.lnew (V1 _ (XM _ _ h.tk)) (by rw [e];show 3<=Y7;decide) (ht:=by have:=h.tk;omega)
end L2
namespace L2
open PySem PySem.Spec PyProof.Rows PySem.Builtin
def DG (p:GU)(x:Str):Int:=if x.cps.isEmpty=true then 0 else reduceHash (p.strHash x.cps)
theorem uD {w:World}{p:GU}(a:w.params=p)(x:Str):hashStr w x=DG p x:=by
 subst a;rfl
inductive Ent (p:GU):List uk->List (Str×V)->Prop
 | nil:Ent p [] []
 | cons {e:uk} {x:Str} {t:Tok} {v:V} {es:List uk} {ps:List (Str×V)}:e.hash=DG p x->e.key=.str x t->RelV v e.val->Ent p es ps->Ent p (e::es) ((x,v)::ps)
def DQ (ps:List (Str×V)):List (Key×V):=ps.map λ q=>(.inr q.1,q.2)
theorem Ent.parts {P:ZY}{w:World}{p:GU}(b:w.params=p):∀{es:List uk} {ps:List (Str×V)},Ent p es ps->∃vs:List (Key×Value),KV (DQ ps) vs/\Pairs (mixKind P w) es vs/\vs.map (·.1)=ps.map (λ q=>xl q.1)/\∀e∈es,∃k,(mixKind P w).is k e.key=true/\e.hash=(mixKind P w).hash k
 | _,_,.nil=>⟨[],.nil,.nil,rfl,λ _ n=>nomatch n⟩
 | _,_,@Ent.cons _ e x t v es ps d f g r=>by
  obtain ⟨vs,h,i,j,l⟩:=Ent.parts (P:=P) b r;have c:(mixKind P w).is (.inr x) e.key=true:=by rw [f];exact Yx P w x t
  refine ⟨(.inr x,e.val)::vs,.cons ⟨rfl,g⟩ h,.cons c rfl i,by rw [YU,YU,j],λ m a=>?_⟩
  rcases W4.mp a with rfl | a
  ·exact ⟨.inr x,c,by rw [d,<- uD b];rfl⟩
  ·exact l m a
theorem gK:∀{l:List Str},l.Nodup->(l.map (xl:Str->Key)).Nodup
 | [],_=>.nil
 | a::l,c=>by
  rw [yy] at c;rw [YU,yy];refine ⟨λ f=>?_,gK c.2⟩
  obtain ⟨b,d,e⟩:=WO.mp f;cases e
  exact c.1 d
theorem gJ {P:ZY}{w:World}{K:FrG}{a:Addr}{es:Array uk}{b:Nat}{p:GU}{ps:List (Str×V)}(c:w.params=p)(l:K.lookup a=some ⟨.type "dict",none,.dict es b,#[]⟩)(j:Ent p es.toList ps)(nd:(ps.map (·.1)).Nodup)(ns:(a == JY)=false):DKG P w K a (DQ ps):=by
 obtain ⟨vs,d,f,g,h⟩:=j.parts (P:=P) c;refine ⟨⟨vs,_,es,b,d,l,⟨rfl,rfl,rfl⟩,rfl,λ e i=>h e (Nn.mpr i),f,?_⟩,ns⟩
 rw [g];have:ps.map (λ q=>(xl q.1:Key))=(ps.map (·.1)).map xl:=by rw [xr];rfl
 rw [this];exact gK nd
end L2
namespace L2
open PySem PySem.Spec PyProof.Rows
end L2
namespace Tx
open PySem PySem.Spec PySem.Builtin PySem.Builtin.Str L2 Lib Op
end Tx
namespace Lib
open PySem L2 Fr Op Tx
end Lib
namespace L2
open PySem PySem.Spec PyProof.Rows
section
variable {X:Cx}{k:Nat}{C:Addr}{ps:List Str}{sp:Sp}{x:Str}{p pos:Pos}{tg l:Expr}{tl:TE}
theorem vN (g:MkC X.prog X.w X.K X.mg X.base k x C ps sp)(b:RoomB true (k+1) X.A)(c:Gl X x:=by rfl)(a:(x == ("__debug__":Str))=false:=by decide):
  PE X (.Call (.Name x p) [] [] pos) (tMake C sp [] E0 tNil):=by
 obtain ⟨f,fd,h,d,e⟩:=g.ex;exact jL d h.ok b.room c g.mg e .nil Ag a
theorem ZW (hl:PE X l tl):PI X tg l (λ a H c=>iList X.K tl a H c\/iTup X.K tl a H c):=λ b s a H c d e=>e.elim (DY hl b s a H c d) (JV hl b s a H c d)
end
end L2
namespace Tx
open PySem PySem.Spec PySem.Builtin PySem.Builtin.Str L2 Lib Fr Op
theorem Fz (s a b:Y2)(r:List Y2):ZE s (a::b::r)=a++s++ZE s (b::r):=rfl
theorem j1 (s a:Y2):ZE s [a]=a:=rfl
def Ew (u x:Y2)(qs:List Rat):Y2:=ZE ⟨#[32]⟩ (u::x::qs.map Aq)
def Di (qs:List Rat):Y2:=wB (Y1 " ") (qs.map Aq)
theorem HJ {p u x:Y2}(a:cl p=cl u++[32]):p++x=Ew u x []:=ext (by
 unfold Ew;rw [BV,a,xp,Fz,j1,BV,BV])
theorem Xu {p u x:Y2}{q:Rat}{qs:List Rat}(a:cl p=cl u++[32]):p++x++Y1 " "++Di (q::qs)=Ew u x (q::qs):=ext (by
 unfold Ew Di;rw [Dg,YU,Fz,Fz,Hn];simp only [BV,a,YA])
theorem mW (q:Rat):Di [q]=Aq q:=by
 unfold Di;rw [Dg];exact j1 _ _
theorem zB {u x:Y2}{qs:List Rat}(a:32∉cl u)(b:32∉cl x):Xo (Ew u x qs) (Y1 " ")=u::x::qs.map Aq:=by
 refine Hb ?_;rw [Hn,FN];refine JN (by simp) λ t ht=>?_
 rcases W4.mp ht with rfl | ht
 ·exact a
 rcases W4.mp ht with rfl | ht
 ·exact b
 obtain ⟨q,_,rfl⟩:=WO.mp ht;exact Hz q 32 (by decide)
theorem Qe:∀a:List Y2,(ZE ⟨#[32]⟩ a).length<=(a.map λ t=>t.length+1).sum
 | []=>Ul _
 | [t]=>by rw [j1];simp
 | t::u::r=>by
  have:=Qe (u::r);rw [Fz,<- Dc,BV,BV,X9,X9,YU,xE];simp only [Dc];have e:(UB #[32]).length=1:=rfl;omega
theorem PP {a:Type}{f:a->Nat}{c:Nat}:∀{l:List a},(∀x∈l,f x<=c)->(l.map f).sum<=l.length * c
 | [],_=>Ul _
 | x::l,d=>by
  rw [YU,xE,X4,FA];have:=d x ZD;have:=PP (l:=l) λ y b=>d y (ZT _ b)
  omega
theorem t8 {u x:Y2}{qs:List Rat}(c:u.length<=8)(d:x.length<=8)(a:qs.length<=5)(e:∀q∈qs,Short q):(Ew u x qs).length<=300:=by
 have b:=Qe (u::x::qs.map Aq);rw [YU,xE,YU,xE,xr] at b;have f:(qs.map ((λ t:Y2=>t.length+1) ∘ Aq)).sum<=qs.length * 41:=PP λ q a=>zS (Pj (e q a))
 have g:qs.length * 41<=5 * 41:=Yh _ a;show (ZE ⟨#[32]⟩ (u::x::qs.map Aq)).length<=300;omega
theorem Fd:(2:Nat) ^ 1900<=10 ^ 575:=by decide+kernel
theorem JT {q:Rat}(a:Bd 1900 q):(Aq q).length<=1200:=by
 have b:=(Ei (m:=q.num.natAbs) (k:=575) (by decide)).mpr (X1 a.1 Fd)
 have c:=(Ei (m:=q.den) (k:=575) (by decide)).mpr (X1 a.2 Fd)
 rw [<- Dc,Ha];unfold sh
 split<;>split<;>simp only [X9,X4,YR]<;>omega
theorem gO {qs:List Rat}(b:∀q∈qs,Bd 1900 q)(hl:qs.length<=60):JoinOk (Y1 " ") (qs.map Aq)=true:=by
 refine UD ?_ (by decide+kernel)
 have c:((qs.map Aq).map (·.length)).sum<=qs.length * 1200:=by
  rw [xr];exact PP λ q a=>JT (b q a)
 have d:qs.length * 1200<=60 * 1200:=Yh _ hl;rw [Y3];omega
end Tx
namespace Lib
open PySem L2 Fr Op Tx
def BnA (K:FrG)(H:Hp)(l:Addr)(ps:List Pc):Prop:=∃xs,H l=some (.lst xs)/\DVs K H xs (ps.map Bh)/\xs.length=ps.length
theorem BnA.of {K:FrG}{H:Hp}{l:Addr}{xs:List V}{ps:List Pc}(a:H l=some (.lst xs))(d:DVs K H xs (ps.map Bh)):BnA K H l ps:=⟨xs,a,d,by have:=d.len;rw [Y3] at this;exact this⟩
theorem BnA.keep {K:FrG}{H a:Hp}{l:Addr}{ps:List Pc}(e:BnA K H l ps)(s:Same H a):BnA K a l ps:=by
 obtain ⟨xs,b,c,d⟩:=e;exact ⟨xs,s _ _ b,c.keep s,d⟩
theorem BnA.dv {K:FrG}{H:Hp}{l:Addr}{ps:List Pc}(c:BnA K H l ps):DV K H (.ref l) (Fj ps):=by
 obtain ⟨xs,a,b,d⟩:=c;exact .lst (SqL.of a) b
theorem Yd {m:Nat}{p:Pc}(ok:p.ok)(b:p.bd m)(e:m<=40):DN p:=by
 have sh:∀q:Rat,Bd m q->Short q:=λ q c=>by
  have f:(2:Nat) ^ 40<=10 ^ 15:=by decide
  have g:(2:Nat) ^ m<=2 ^ 40:=Jp (by decide) e
  exact ⟨by have:=c.n;omega,by have:=c.d;omega⟩
 refine ⟨ok,λ q a=>?_⟩
 cases p with
 | gap h=>rw [U0.mp a];exact sh _ b
 | glass h=>rw [U0.mp a];exact sh _ b
 | stop lo i=>
  rcases W4.mp a with rfl | c
  ·exact sh _ b.1
  ·rw [U0.mp c];exact sh _ b.2
abbrev CP:=Str->Option (List Pc)
def setB (a:CP)(x:Str)(ps:List Pc):CP:=λ y=>if y=x then some ps else a y
def OkB (ps:List Pc):Prop:=ps.length<=12/\∀p∈ps,DN p
theorem OkB.sh {ps:List Pc}(a:OkB ps):∀p∈ps,DN p:=a.2
theorem du {m d n:Nat}(b:m<=n)(c:d<=n):∀{p:Pc},p.fd m d->p.bd n
 | .gap _,a=>Bd.mono a b
 | .glass _,a=>Bd.mono a b
 | .stop _ _,a=>⟨a.1.mono c,a.2.mono c⟩
theorem Io {q:Rat}(b:Short q):Bd 50 q:=by
 have a:(10:Nat) ^ 15<=2 ^ 50:=by decide
 exact ⟨X1 b.n a,X1 b.d a⟩
theorem lX {p:Pc}(a:DN p):p.bd 50:=by
 cases p with
 | gap q=>exact Io (a.2 q (by simp [fracs]))
 | glass q=>exact Io (a.2 q (by simp [fracs]))
 | stop lo b=>exact ⟨Io (a.2 lo (by simp [fracs])),Io (a.2 b (by simp [fracs]))⟩
theorem OkB.good {ps:List Pc}(b:OkB ps):Good 50 ps:=⟨U1 b.1 (by decide),λ p a=>(b.2 p a).1,λ p a=>lX (b.2 p a)⟩
def OkS (ps:List Pc):Prop:=ps.length<=6/\∀p∈ps,DN p/\p.fd 12 17
theorem OkS.w {ps:List Pc}(b:OkS ps):OkB ps:=⟨U1 b.1 (by decide),λ p a=>(b.2 p a).1⟩
theorem OkS.good {ps:List Pc}(b:OkS ps):Good 18 ps:=⟨U1 b.1 (by decide),λ p a=>(b.2 p a).1.1,λ p a=>du (by decide) (by decide) (b.2 p a).2⟩
def DicB (K:FrG)(H:Hp)(q:List Addr)(a:List (Key×V))(b:CP):Prop:=∀x:Str,match b x with
 | none=>valV a (.inr x)=none
 | some ps=>OkB ps/\∃l,valV a (.inr x)=some (.ref l)/\BnA K H l ps/\l∉q
section
variable {K:FrG}{H H':Hp}{q:List Addr}{a l:Addr}{kvs:List (Key×V)}{S:CP}{ps:List Pc}{x:Str}
theorem DicB.at (b:DicB K H q kvs S)(e:S x=some ps):OkB ps/\∃l,valV kvs (.inr x)=some (.ref l)/\BnA K H l ps/\l∉q:=by
 have:=b x;rw [e] at this;exact this
theorem DicB.map (g:DicB K H q kvs S)(f:∀l ps,BnA K H l ps->l∉q->BnA K H' l ps):DicB K H' q kvs S:=λ x=>by
 have:=g x;cases e:S x with
 | none=>rw [e] at this;exact this
 | some ps=>
  rw [e] at this;obtain ⟨o,l,c,d,b⟩:=this;exact ⟨o,l,c,f l ps d b,b⟩
theorem LC (e:BnA K H l ps)(t:G8 H H')(s:∀o,H l=some o->H' l=some o):BnA K H' l ps:=by
 obtain ⟨xs,b,c,d⟩:=e;exact ⟨xs,s _ b,Eg t (Eu Kz ps) c,d⟩
theorem DicB.keep (c:DicB K H q kvs S)(s:Same H H'):DicB K H' q kvs S:=c.map λ l ps b _=>b.keep s
theorem Ls {c:List (Key×V)}(f:H a=some (.dK c))(s:SD a H H'):G8 H H':=λ b g=>⟨λ e=>s b _ (λ d=>by rw [d,f] at e;cases e) e,λ o e=>s b _ (λ d=>by rw [d,f] at e;cases e) e⟩
theorem Yz {d:List (Key×V)}(f:BnA K H l ps)(b:H a=some (.dK d))(s:SD a H H'):BnA K H' l ps:=by
 refine LC f (Ls b s) λ o e=>s _ _ (λ g=>?_) e
 obtain ⟨xs,c,_⟩:=f;rw [g,b] at c;cases c
theorem DicB.keepD {c:List (Key×V)}(e:DicB K H q kvs S)(d:H a=some (.dK c))(s:SD a H H'):DicB K H' q kvs S:=e.map λ l ps b _=>Yz b d s
theorem DicB.nil:DicB K H q [] (λ _=>none):=λ _=>rfl
theorem DicB.put (i:DicB K H q kvs S)(b:BnA K H l ps)(n:l∉q)(o:OkB ps):DicB K H q (putK kvs (.inr x) (.ref l)) (setB S x ps):=λ y=>by
 unfold setB;by_cases e:y=x
 ·subst e;rw [if_pos rfl];exact ⟨o,l,by rw [QV,if_pos rfl],b,n⟩
 ·rw [if_neg e];have c:¬ (xl y:Key)=.inr x:=λ j=>e (xl.inj j)
  have:=i y;cases f:S y with
  | none=>rw [f] at this;rw [show valV (putK kvs (.inr x) (.ref l)) (.inr y)=valV kvs (.inr y) by rw [QV,if_neg c]];exact this
  | some qs=>
   rw [f] at this;obtain ⟨o,l,d,g,h⟩:=this;exact ⟨o,l,by rw [QV,if_neg c];exact d,g,h⟩
end
theorem yS (a:List (Key×V))(k:Key)(v:V):(putK a k v).length<=a.length+1:=by
 unfold putK
 split
 ·rw [Y3];omega
 ·simp
structure DkA (K:FrG)(H:Hp)(q:List Addr)(C o dx d:Addr)(S:CP)(n:Nat):Prop where
 o:H o=some (.ins C dx [("benches",.ref d)])
 d:∃kvs,H d=some (.dK kvs)/\kvs.length<=n/\DicB K H q kvs S
section
variable {K:FrG}{H H':Hp}{q:List Addr}{C o dx d a l:Addr}{S:CP}{n:Nat}{ps:List Pc}{x:Str}
theorem DkA.keep (g:DkA K H q C o dx d S n)(s:Same H H'):DkA K H' q C o dx d S n:=by
 obtain ⟨b,c,e,f⟩:=g.d;exact ⟨s _ _ g.o,b,s _ _ c,e,f.keep s⟩
theorem DkA.ok (f:DkA K H q C o dx d S n)(e:S x=some ps):OkB ps:=by
 obtain ⟨c,g,h,b⟩:=f.d;exact (b.at e).1
theorem DkA.ne (c:DkA K H q C o dx d S n):o≠d:=λ e=>by
 obtain ⟨f,b,_⟩:=c.d;have:=c.o;rw [e,b] at this;cases this
theorem DkA.put {c:List (Key×V)}(f:DkA K H q C o dx d S n)(e:H d=some (.dK c))(b:BnA K H l ps)(g:l∉q)(ok:OkB ps):DkA K (upd H d (.dK (putK c (.inr x) (.ref l)))) q C o dx d (setB S x ps) (n+1):=by
 obtain ⟨h,i,k,j⟩:=f.d;cases i.symm.trans e
 refine ⟨by rw [BK f.ne];exact f.o,_,Al,U1 (yS _ _ _) (by omega),?_⟩
 exact (j.put b g ok).keepD e N5
end
def iz (C:Addr):Sp:=λ vs H Q _=>∃a b,vs=[.ref a]/\H a=some (.ins C b [])/\∀d,H d=none->Q .non (upd (upd H d (.dK [])) a (.ins C b [("benches",.ref d)]))
def yh (K:FrG)(C:Addr):Sp:=λ vs H Q _=>∃(o a d:Addr) (q:List Addr) (x:Str) (b:CP) (n:Nat) (ps:List Pc),vs=[.ref o,.str x]/\DkA K H q C o a d b n/\b x=some ps/\∀l,BnA K H l ps->l∉q->Q (.ref l) H
def vG (K:FrG)(C:Addr):Sp:=λ vs H Q _=>∃(o b d:Addr) (q:List Addr) (l:Addr) (x:Str) (c:CP) (n:Nat) (ps:List Pc),vs=[.ref o,.str x,.ref l]/\DkA K H q C o b d c n/\n<=1000/\BnA K H l ps/\l∉q/\OkB ps/\
 ∀a,SD d H a->DkA K a q C o b d (setB c x ps) (n+1)->Q (.str "ok") a
def Nm (x:Str):Prop:=nameB x=true
def Fl (x t:Str):Str:=Y1 "bench "++x++Y1 " "++t
def YC (K:FrG)(C:Addr):Sp:=λ vs H Q _=>∃(o c d:Addr) (q:List Addr) (x:Str) (e:CP) (n:Nat) (ps:List Pc),vs=[.ref o,.str (Fl x (Bs ps))]/\DkA K H q C o c d e n/\(∀a∈q,∃f,H a=some f)/\n<=1000/\Nm x/\OkB ps/\
 ∀b,SD d H b->DkA K b q C o c d (setB e x ps) (n+1)->Q (.str "ok") b
def tH:Sp:=λ vs H Q _=>∃x:Str,vs=[.str x]/\Nm x/\∀a,Same H a->Q .non a
def JK (K:FrG)(b:List Pc->List Rat->Str->Prop):Sp:=λ vs H Q _=>∃(v u:V) (ps:List Pc) (qs:List Rat) (t:Str),vs=[v,u]/\DV K H v (Fj ps)/\OkB ps/\DV K H u (.list (qs.map Ai))/\b ps qs t/\∀a,Same H a->Q (.str t) a
def Ip (K:FrG)(C:Addr)(u:Str)(m:Nat)(e:List Pc->List Rat->Str->Prop):Sp:=λ vs H Q _=>∃(o b d:Addr) (q:List Addr) (x:Str) (c:CP) (n:Nat) (ps:List Pc) (qs:List Rat) (t:Str),vs=[.ref o,.str (Ew u x qs)]/\DkA K H q C o b d c n/\Nm x/\c x=some ps/\qs.length=m/\(∀q∈qs,Short q)/\(u=Y1 "sharp"->∃q,qs[4]?=some q/\0<=q)/\e ps qs t/\∀a,Same H a->Q (.str t) a
theorem qW:JZ ⟨#[32]⟩=false:=by decide+kernel
theorem Nm.no {x:Str}(b:Nm x):32∉cl x:=λ m=>by
 have b:nameB x=true:=b;unfold nameB at b;have c:=(zb.mp b).2;have a:=GX.mp c ⟨#[32]⟩ (WO.mpr ⟨32,m,rfl⟩);rw [qW] at a;cases a
theorem Nm.len {x:Str}(a:Nm x):x.length<=8:=zW a
theorem Fv (x:Str):(cl x).length=x.length:=rfl
theorem V6 (x t:Str):cl (Fl x t)=cl (Y1 "bench")++32::(cl x++32::cl t):=by
 unfold Fl;rw [BV,BV,BV,show cl (Y1 "bench ")=cl (Y1 "bench")++[32] by decide+kernel,show cl (Y1 " ")=[32] by decide+kernel]
 simp only [YA];rfl
theorem zN {x t:Str}(b:Nm x):∃r,Xo (Fl x t) (Y1 " ")=Y1 "bench"::r:=by
 have e:(Xo (Fl x t) ⟨#[32]⟩).map cl=cl (Y1 "bench")::cut 32 (cl x++32::cl t):=by
  rw [FN,V6,Eo _ (by decide+kernel)]
 have e:(Xo (Fl x t) (Y1 " ")).map cl=cl (Y1 "bench")::cut 32 (cl x++32::cl t):=e;cases f:Xo (Fl x t) (Y1 " ") with
 | nil=>rw [f] at e;cases e
 | cons a r=>
  rw [f] at e
  injection e with e1 e2
  exact ⟨r,by rw [ext e1]⟩
theorem dJ {x t:Str}(a:Nm x):(Fl x t).length=t.length+x.length+7:=by
 rw [<- Fv,V6];simp only [X9,X4,Fv];rw [show (Y1 "bench").length=5 by decide+kernel]
 omega
def Gg (a t r:Int):Str:=Wp (Y1 "lens") none (some t)++⟨#[97+a.toNat]⟩++Wp (Y1 "lens") (some t) (some (t+r))
def called (a i:Int):Str:=if a % 3=0 then GE (Y1 "m") (1+i) else Gg ((a / 24+5 * i) % 26) (a / 3 % 5) (a % 4)
theorem Ti:∀a:Fin 26,∀t:Fin 5,∀r:Fin 4,nameB (Gg (a.val:Nat) (t.val:Nat) (r.val:Nat))=true/\Gg (a.val:Nat) (t.val:Nat) (r.val:Nat)≠Gg (((a.val+5) % 26:Nat):Int) (t.val:Nat) (r.val:Nat):=by decide+kernel
theorem vq:∀i:Fin 4,nameB (GE (Y1 "m") (1+((i.val:Nat):Int)))=true:=by decide+kernel
theorem Xr (a:Int){i:Int}(c:0<=i)(d:i < 4):Nm (called a i):=by
 unfold Nm called
 split
 ·have:=vq ⟨i.toNat,by omega⟩
  have e:((i.toNat:Nat):Int)=i:=by omega
  simp only [e] at this;exact this
 ·have:=(Ti ⟨((a / 24+5 * i) % 26).toNat,by omega⟩ ⟨(a / 3 % 5).toNat,by omega⟩ ⟨(a % 4).toNat,by omega⟩).1
  have e1:((((a / 24+5 * i) % 26).toNat:Nat):Int)=(a / 24+5 * i) % 26:=by omega
  have e2:(((a / 3 % 5).toNat:Nat):Int)=a / 3 % 5:=by omega
  have b:(((a % 4).toNat:Nat):Int)=a % 4:=by omega
  simp only [e1,e2,b] at this;exact this
theorem qp:∀a:Fin 26,(Y1 "abcdefghijklmnopqrstuvwxyz").cps[a.val]?=some (97+a.val):=by decide+kernel
theorem yj:∀t:Fin 5,∀r:Fin 4,(Wp (Y1 "lens") none (some ((t.val:Nat):Int))).length<=4/\(Wp (Y1 "lens") (some ((t.val:Nat):Int)) (some (((t.val:Nat):Int)+((r.val:Nat):Int)))).length<=4:=by decide+kernel
def OkM (ps:List Pc):Prop:=ps.length<=12/\∀p∈ps,DN p/\p.bd 18
theorem OkM.w {ps:List Pc}(b:OkM ps):OkB ps:=⟨b.1,λ p a=>(b.2 p a).1⟩
theorem OkM.good {ps:List Pc}(b:OkM ps):Good 18 ps:=⟨U1 b.1 (by decide),λ p a=>(b.2 p a).1.1,λ p a=>(b.2 p a).2⟩
theorem OkS.m {ps:List Pc}(b:OkS ps):OkM ps:=⟨U1 b.1 (by decide),λ p a=>⟨(b.2 p a).1,du (by decide) (by decide) (b.2 p a).2⟩⟩
theorem OkS.rev {ps:List Pc}(b:OkS ps):OkS ps.reverse:=⟨by rw [xz];exact b.1,λ p a=>b.2 p (List.mem_reverse.mp a)⟩
theorem OkS.two {a b:List Pc}(d:OkS a)(k:OkS b):OkM (a++b):=⟨by rw [X9];have:=d.1;have:=k.1;omega,λ p c=>(XO.mp c).elim (λ m=>d.m.2 p m) λ m=>k.m.2 p m⟩
def Gd (x y a:Str):Str:=Y1 "join "++x++Y1 " "++y++Y1 " "++a
def G3 (x y:Str):Str:=Y1 "turn "++x++Y1 " "++y
def yJ (K:FrG)(C:Addr):Sp:=λ vs H Q _=>∃(o e d:Addr) (q:List Addr) (x y f:Str) (g:CP) (n:Nat) (a b:List Pc),vs=[.ref o,.str (Gd x y f)]/\DkA K H q C o e d g n/\(∀a∈q,∃f,H a=some f)/\n<=1000/\Nm x/\Nm y/\Nm f/\g y=some a/\g f=some b/\OkB (a++b)/\
 ∀c,SD d H c->DkA K c q C o e d (setB g x (a++b)) (n+1)->Q (.str "ok") c
def sG (K:FrG)(C:Addr):Sp:=λ vs H Q _=>∃(o c d:Addr) (q:List Addr) (x y:Str) (e:CP) (n:Nat) (a:List Pc),vs=[.ref o,.str (G3 x y)]/\DkA K H q C o c d e n/\(∀a∈q,∃f,H a=some f)/\n<=1000/\Nm x/\Nm y/\e y=some a/\
 ∀b,SD d H b->DkA K b q C o c d (setB e x a.reverse) (n+1)->Q (.str "ok") b
def AJ0:Sp:=λ vs H Q _=>∃(l:Addr) (w:Str) (ns:List Str),vs=[.ref l]/\H l=some (.lst ((w::ns).map V.str))/\(∀x∈ns,Nm x)/\((w=Y1 "join"/\ns.length=3)\/(w=Y1 "turn"/\ns.length=2))/\
 ∀r b c a,Same H a->a r=some (.tup [.ref b,.ref c])->a b=some (.lst (ns.map V.str))->Q (.ref r) a
def m6 (K:FrG):Sp:=λ vs H Q _=>∃(v:V) (ps:List Pc),vs=[v]/\DV K H v (Fj ps)/\OkB ps/\∀l xs a,Same H a->H l=none->a l=some (.lst xs)->DVs K a xs (ps.reverse.map Bh)->Q (.ref l) a
theorem kZ {x y:Str}(b:Nm x)(a:Nm y):Xo (G3 x y) (Y1 " ")=[Y1 "turn",x,y]:=Hb (by
 show (Xo (G3 x y) ⟨#[32]⟩).map cl=_;rw [FN];unfold G3;rw [BV,BV,BV,show cl (Y1 "turn ")=cl (Y1 "turn")++[32] by decide+kernel,show cl (Y1 " ")=[32] by decide+kernel,YA,YA,YA]
 show cut 32 (cl (Y1 "turn")++32::(cl x++32::cl y))=_;rw [Eo _ (by decide+kernel),Eo _ b.no,HF a.no]
 rfl)
theorem vX {x y a:Str}(d:Nm x)(b:Nm y)(c:Nm a):Xo (Gd x y a) (Y1 " ")=[Y1 "join",x,y,a]:=Hb (by
 show (Xo (Gd x y a) ⟨#[32]⟩).map cl=_;rw [FN];unfold Gd;rw [BV,BV,BV,BV,BV,show cl (Y1 "join ")=cl (Y1 "join")++[32] by decide+kernel,show cl (Y1 " ")=[32] by decide+kernel]
 simp only [YA];show cut 32 (cl (Y1 "join")++32::(cl x++32::(cl y++32::cl a)))=_;rw [Eo _ (by decide+kernel),Eo _ d.no,Eo _ b.no,HF c.no]
 rfl)
theorem m9 {x y:Str}(b:Nm x)(a:Nm y):(G3 x y).length<=22:=by
 have:=b.len;have:=a.len;rw [<- Fv];unfold G3;simp only [BV,X9,Fv];rw [show (Y1 "turn ").length=5 by decide+kernel,show (Y1 " ").length=1 by decide+kernel]
 omega
theorem xH {x y c:Str}(d:Nm x)(a:Nm y)(b:Nm c):(Gd x y c).length<=31:=by
 have:=d.len;have:=a.len;have:=b.len;rw [<- Fv];unfold Gd;simp only [BV,X9,Fv];rw [show (Y1 "join ").length=5 by decide+kernel,show (Y1 " ").length=1 by decide+kernel]
 omega
def Qm (K:FrG):Sp:=λ vs H Q _=>∃(v:V) (q:Rat),vs=[v]/\DV K H v (Ai q)/\Bd 1900 q/\Q (.str (Aq q)) H
def PBig (p:Pc):Prop:=p.ok/\∀q∈fracs p,Bd 1900 q
def bR (K:FrG):Sp:=λ vs H Q _=>∃(v:V) (p:Pc),vs=[v]/\DV K H v (Bh p)/\PBig p/\∀a,Same H a->Q (.str (CW p)) a
def Z0 (K:FrG):Sp:=λ vs H Q _=>∃(v:V) (ps:List Pc),vs=[v]/\DV K H v (Fj ps)/\ps.length<=60/\(∀p∈ps,PBig p)/\∀a,Same H a->Q (.str (Bs ps)) a
theorem Nf {m:Nat}(a:m < 2 ^ 1900):m.log2 < 1920:=Fr.gw (Qb a (by decide+kernel)) (by decide)
theorem GJ {q:Rat}(b:Short q):Bd 1900 q:=by
 have a:(10:Nat) ^ 15<=2 ^ 1900:=by decide+kernel
 exact ⟨X1 b.n a,X1 b.d a⟩
theorem PBig.of {p:Pc}(b:DN p):PBig p:=⟨b.1,λ q a=>GJ (b.2 q a)⟩
theorem OkB.pbig {ps:List Pc}(b:OkB ps):∀p∈ps,PBig p:=λ p a=>.of (b.sh p a)
theorem O3 (p:Pc)(b:PBig p):∀t∈toks p,t.length<=1200:=λ t ht=>by
 rcases W4.mp (show t∈wd p::(fracs p).map Aq from ht) with rfl | ht
 ·cases p with
  | gap _=>exact U1 (show (Y1 "gap").length<=5 by decide+kernel) (by decide)
  | glass _=>exact U1 (show (Y1 "glass").length<=5 by decide+kernel) (by decide)
  | stop _ _=>exact U1 (show (Y1 "stop").length<=5 by decide+kernel) (by decide)
 ·obtain ⟨q,a,rfl⟩:=WO.mp ht;exact JT (b.2 q a)
theorem PBig.bd {p:Pc}(a:PBig p):p.bd 1900:=by
 cases p with
 | gap q=>exact a.2 q (by simp [fracs])
 | glass q=>exact a.2 q (by simp [fracs])
 | stop lo b=>exact ⟨a.2 lo (by simp [fracs]),a.2 b (by simp [fracs])⟩
def wu:Sp:=λ vs H Q _=>∃n:Int,vs=[.int n]/\n.natAbs < 10 ^ 575/\∀a:Y2,cl a=(if n < 0 then [45] else [])++dg n.natAbs->Q (.str a) H
def ZX (K:FrG):Sp:=λ vs H Q _=>∃(v:V) (qs:List Rat),vs=[v]/\(DV K H v (.list (qs.map Ai))\/DV K H v (.tuple (qs.map Ai)))/\(∀q∈qs,Bd 1900 q)/\qs.length<=60/\∀a,Same H a->Q (.str (Di qs)) a
def HN (n:Nat):Str:=Y1 (toString (n:Int))
theorem Ym (n:Nat):cl (HN n)=dg n:=by
 unfold HN;rw [Jg,if_neg (by omega),JO,XW]
def BW (ps:List Pc)(r:Ay):Ay:=lastOf (wk 0 ps r).1 r
def Fb (ps:List Pc)(r:Ay):Str:=match (walk ps r).2 with
 | some n=>Y1 "stopped "++HN n
 | none=>Y1 "by "++Di [(BW ps r).1,(BW ps r).2]
def Vt (t:Tab):Str:=Di [t.a,t.b,t.c,t.d]
def Ge (t:Tab)(s:Rat):Str:=match img t s with
 | none=>Y1 "none"
 | some p=>Di [p,1 / (spread t s).2]
def Ny (o:Option Nat):Str:=match o with
 | none=>Y1 "never"
 | some k=>HN k
def fC (ps:List Pc)(_:List Rat)(t:Str):Prop:=t=Vt (tabOf ps)
def aM (ps:List Pc)(_:List Rat)(t:Str):Prop:=t=Bs (DK (tabOf ps))
def aY (ps:List Pc)(_:List Rat)(t:Str):Prop:=OkS ps/\t=Ny (lst (tabOf ps) 6)
def iK (ps:List Pc)(qs:List Rat)(t:Str):Prop:=∃y u,qs=[y,u]/\Short y/\Short u/\t=Fb ps (y,u)
def aq (ps:List Pc)(qs:List Rat)(t:Str):Prop:=OkM ps/\∃s,qs=[s]/\Bd 12 s/\t=Ge (tabOf ps) s
section
variable {ps:List Pc}{t:Tab}{x:Lamp}{m:Rat}{r:Ay}
theorem Jy {q:Rat}{n:Nat}(b:Bd n q)(a:n<=40):Short q:=by
 have c:(2:Nat) ^ 40<=10 ^ 15:=by decide
 have d:(2:Nat) ^ n<=2 ^ 40:=Jp (by decide) a
 exact ⟨by have:=b.1;omega,by have:=b.2;omega⟩
theorem OkM.tb (a:OkM ps):Tb 230 (tabOf ps):=Tb.mono (cj (m:=18) a.good.bd) (by have:=Yh (18+1) a.1;omega)
theorem OkB.tb (a:OkB ps):Tb 614 (tabOf ps):=Tb.mono (cj (m:=50) a.good.bd) (by have:=Yh (50+1) a.1;omega)
theorem OkS.tq (a:OkS ps):Tq 121 (tabOf ps):=(ZL (m:=18) a.good.bd).mono (by have:=Yh (18+2) a.1;omega)
theorem Ws (b:OkB ps)(a:RB 100 r):Bd 1900 (BW ps r).1/\Bd 1900 (BW ps r).2:=by
 have c:=vP b.good.bd a _ (ND (Je ps r));have l:=Yh (50+1) b.1;exact ⟨c.y.mono (by omega),c.u.mono (by omega)⟩
theorem zX (h:OkM ps){s:Rat}(f:Bd 12 s){p:Rat}(e:img (tabOf ps) s=some p):Bd 1900 p/\Bd 1900 (1 / (spread (tabOf ps) s).2):=by
 have tb:=h.tb;have b1:Bd 473 (spread (tabOf ps) s).1:=((tb.a.mul f).add tb.b).mono (by decide)
 have b2:Bd 473 (spread (tabOf ps) s).2:=((tb.c.mul f).add tb.d).mono (by decide)
 unfold img at e
 split at e
 ·cases e
 ·rename_i g
  cases e
  exact ⟨((GR 1 (by decide)).sub (b1.div b2 g)).mono (by decide),((G6 1 (by decide)).div b2 g).mono (by decide)⟩
theorem cz (ht:Tb 614 t)(det:t.det=1):(DK t).length<=60/\∀p∈DK t,PBig p:=by
 have one:∀{a b:Rat},Bd 616 a->Bd 616 b->¬ b=0->Bd 1900 ((1 - a) / b):=λ {a b} h i n=>(((G6 1 (by decide)).sub h).div i n).mono (by decide)
 have j:∀{a:Rat},Bd 614 a->Bd 616 (0 - a):=λ {a} h=>((GR 1 (by decide)).sub h).mono (by decide)
 have l:(En t).length<=4/\∀p∈En t,PBig p:=by
  unfold En
  split
  ·rename_i i
   refine ⟨(by show 3<=4;decide),λ p g=>?_⟩
   simp only [Df,W4,YV,or_false] at g;rcases g with rfl | rfl | rfl
   ·exact ⟨trivial,λ q f=>by rw [U0.mp f];exact one (ht.a.mono (by decide)) (ht.b.mono (by decide)) i⟩
   ·exact ⟨trivial,λ q f=>by rw [U0.mp f];exact ht.b.mono (by decide)⟩
   ·exact ⟨trivial,λ q f=>by rw [U0.mp f];exact one (ht.d.mono (by decide)) (ht.b.mono (by decide)) i⟩
  ·split
   ·rename_i k
    have k:¬ 0 - t.c=0:=λ e=>k (by grind)
    refine ⟨(by show 3<=4;decide),λ p g=>?_⟩
    simp only [FQ,W4,YV,or_false] at g;rcases g with rfl | rfl | rfl
    ·exact ⟨trivial,λ q f=>by rw [U0.mp f];exact one (ht.d.mono (by decide)) (j ht.c) k⟩
    ·exact ⟨trivial,λ q f=>by rw [U0.mp f];exact (j ht.c).mono (by decide)⟩
    ·exact ⟨trivial,λ q f=>by rw [U0.mp f];exact one (ht.a.mono (by decide)) (j ht.c) k⟩
   ·rename_i i k
    refine ⟨(by show 4<=4;decide),λ p g=>?_⟩
    have i:t.b=0:=by simpa using i
    have h:¬ 0 - t.a=0:=λ e=>by
     have h:t.a=0:=by grind
     have d:t.a * t.d - t.b * t.c=1:=det;rw [h,i] at d
     grind
    simp only [Df,W4,YV,or_false] at g;rcases g with rfl | rfl | rfl | rfl
    ·exact ⟨trivial,λ q f=>by rw [U0.mp f];exact G6 _ (by decide)⟩
    ·exact ⟨trivial,λ q f=>by rw [U0.mp f];exact one (ht.a.mono (by decide)) (j ht.a) h⟩
    ·exact ⟨trivial,λ q f=>by rw [U0.mp f];exact (j ht.a).mono (by decide)⟩
    ·exact ⟨trivial,λ q f=>by rw [U0.mp f];exact one (ht.d.mono (by decide)) (j ht.a) h⟩
 unfold DK
 split
 ·exact ⟨by decide,λ p g=>nomatch g⟩
 ·exact ⟨U1 (QP _ _) (U1 l.1 (by decide)),λ p g=>l.2 p (js.mp g).1⟩
end
theorem bW {K:FrG}{H:Hp}{v:V}{qs:List Rat}{u:VK}(hv:DV K H v (.list (qs.map Ai))\/DV K H v (.tuple (qs.map Ai)))(big:∀q∈qs,Bd 1900 q)(w:qs.length<=60)(k:∀p s,Same H s->s p=some (.lst ((qs.map Aq).map V.str))->u (.ref p) s):
  Jd (λ c H y=>iList K (tVar 0) c H y\/iTup K (tVar 0) c H y) (gName 0) Gv (tCall (Qm K) [] E0 (tCons (tVar 0) tNil)) [none] [some v] H u:=by
 have step:∀{xs:List V},DVs K H xs (qs.map Ai)->∀(i:Nat) (x:V),xs[i]?=some x->∃r,qs[i]?=some r/\DV K H x (Ai r):=λ {xs} f i x g=>by
  obtain ⟨d,hd,m⟩:=f.get g;rw [Ya] at hd;obtain ⟨r,l,rfl⟩:=wS.mp hd;exact ⟨r,l,m⟩
 have o:∀{i:Nat} {r:Rat},qs[i]?=some r->((qs.take i).map Aq).map V.str++[V.str (Aq r)]=((qs.take (i+1)).map Aq).map V.str:=λ {i r} e=>by
  rw [XV,e,ZH,ZH];rfl
 have few:∀i,(((qs.take i).map Aq).map V.str).length<=Y7:=λ i=>by
  rw [Y3,Y3,XE];exact XP (small1000 (by omega))
 rcases hv with hv | hv
 ·obtain ⟨b,xs,rfl,n,f⟩:=hv.lst_of;have hl:xs.length=qs.length:=by have:=f.len;rw [Y3] at this;exact this
  refine .inl ⟨_,rfl,b,rfl,⟨_,n⟩,?_⟩;refine HQ (K:=K) (a:=b) (xs:=xs) (λ i c h j=>∃c0,c=[c0]/\h=((qs.take i).map Aq).map V.str/\j=H) ⟨_,rfl,rfl,rfl⟩ ?_ ?_ ?_
  ·rintro i c h j g ⟨c0,rfl,rfl,rfl⟩
   exact ⟨few i,n⟩
  ·rintro i x c h j g ⟨c0,rfl,rfl,rfl⟩
   obtain ⟨r,l,m⟩:=step f i x g;exact ⟨_,rfl,x,r,rfl,m,big r (ZN l),nx (CK g) ⟨_,rfl,o l,rfl⟩⟩
  ·rintro c h j p ⟨c0,rfl,rfl,rfl⟩ t
   rw [hl,WA];exact k p _ (Aj t _) Al
 ·obtain ⟨b,xs,rfl,n,f⟩:=hv.tup_of;have hl:xs.length=qs.length:=by have:=f.len;rw [Y3] at this;exact this
  refine .inr ⟨_,rfl,b,rfl,⟨_,n⟩,?_⟩;refine JR (K:=K) (a:=b) (xs:=xs) (λ i c h j=>∃c0,c=[c0]/\h=((qs.take i).map Aq).map V.str/\j=H) ⟨_,rfl,rfl,rfl⟩ ?_ ?_ ?_
  ·rintro i c h j g ⟨c0,rfl,rfl,rfl⟩
   exact ⟨few i,n⟩
  ·rintro i x c h j g ⟨c0,rfl,rfl,rfl⟩
   obtain ⟨r,l,m⟩:=step f i x g;exact ⟨_,rfl,x,r,rfl,m,big r (ZN l),nx (CK g) ⟨_,rfl,o l,rfl⟩⟩
  ·rintro c h j p ⟨c0,rfl,rfl,rfl⟩ t
   rw [hl,WA];exact k p _ (Aj t _) Al
theorem W2 {y u:Rat}(a:Short y)(b:Short u):RB 100 (y,u):=Rb.of (Io a) (Io b)
theorem O4 {qs:List Rat}(c:∀q∈qs,Bd 1900 q)(hl:qs.length<=5):(Di qs).length<=6005:=by
 unfold Di;rw [Dg,Hn];have a:=Qe (qs.map Aq);rw [xr] at a;have d:(qs.map ((λ t:Y2=>t.length+1) ∘ Aq)).sum<=qs.length * 1201:=PP λ q b=>zS (JT (c q b))
 have e:=Yh 1201 hl;omega
theorem all2 {a b:Rat}(d:Bd 1900 a)(e:Bd 1900 b):∀q∈[a,b],Bd 1900 q:=λ q c=>by
 rcases W4.mp c with rfl | c
 ·exact d
 ·rw [U0.mp c];exact e
theorem di {n:Nat}(a:n < 2 ^ 1900):(HN n).length<=575:=by
 rw [<- Fv,Ym];exact (Ei (by decide)).mpr (X1 a Fd)
theorem fD {n:Nat}(a:n < 16):n < 2 ^ 1900:=X1 (show n < 2 ^ 4 by omega) (Jp (by decide) (by decide))
def BnL (K:FrG)(H:Hp)(bs:List Addr)(a:List (List Pc)):Prop:=bs.length=a.length/\∀(i:Nat) (b:Addr) (ps:List Pc),bs[i]?=some b->a[i]?=some ps->BnA K H b ps
section
variable {K:FrG}{H H':Hp}{bs:List Addr}{pss:List (List Pc)}{b l q:Addr}{ps:List Pc}
theorem BnL.map (d:BnL K H bs pss)(f:∀b∈bs,∀ps,BnA K H b ps->BnA K H' b ps):BnL K H' bs pss:=⟨d.1,λ i b ps a c=>f b (ZN a) ps (d.2 i b ps a c)⟩
theorem BnL.keep (a:BnL K H bs pss)(s:Same H H'):BnL K H' bs pss:=a.map λ _ _ _ c=>c.keep s
theorem BnL.sd {xs:List V}(c:BnL K H bs pss)(hl:H l=some (.lst xs))(s:SD l H H')(n:∀b∈bs,b≠l):BnL K H' bs pss:=c.map λ b a ps d=>LC d (s.t hl) λ o e=>s _ _ (n b a) e
theorem BnL.sdD {a:List (Key×V)}(c:BnL K H bs pss)(hl:H l=some (.dK a))(s:SD l H H'):BnL K H' bs pss:=c.map λ _ _ _ d=>Yz d hl s
theorem BnL.se {c:Addr}{d:Nat}(f:BnL K H bs pss)(dr:DrG H q c d)(s:SE q c H H')(n:∀b∈bs,b≠q/\b≠c):BnL K H' bs pss:=f.map λ b a ps g=>LC g (dr.t s) λ o e=>s _ _ (n b a).1 (n b a).2 e
theorem BnL.snoc (d:BnL K H bs pss)(h:BnA K H b ps):BnL K H (bs++[b]) (pss++[ps]):=⟨by rw [X9,X9,d.1];rfl,λ i j g a c=>by
 by_cases f:i < bs.length
 ·rw [UR f] at a;rw [UR (by rw [<- d.1];exact f)] at c
  exact d.2 i _ _ a c
 ·have hl:=CK a;rw [X9] at hl;have e:i=bs.length:=by simp only [X4,YR] at hl;omega
  subst e;rw [xh (Zj _),MM] at a;rw [xh (by rw [d.1];exact Zj _),d.1,MM] at c
  cases a
  cases c
  exact h⟩
end
theorem DkA.se {K:FrG}{H b:Hp}{q c C o f d:Addr}{p:CP}{n r:Nat}(j:DkA K H [q,c] C o f d p n)(dr:DrG H q c r)(s:SE q c H b):DkA K b [q,c] C o f d p n:=by
 obtain ⟨g,a,k,m⟩:=j.d;obtain ⟨_,_,_,L,e1,e2,_⟩:=dr.x;refine ⟨s _ _ (λ e=>by have:=j.o;rw [e,e1] at this;cases this) (λ e=>by have:=j.o;rw [e,e2] at this;cases this) j.o,g,s _ _ (λ e=>by rw [e,e1] at a;cases a) (λ e=>by rw [e,e2] at a;cases a) a,k,m.map λ l ps h i=>LC h (dr.t s) λ o e=>s _ _ (λ h=>i (by rw [h];exact ZD)) (λ h=>i (by rw [h];exact ZT _ ZD)) e⟩
structure Lw73 (K:FrG)(H:Hp)(C o dx d ln lb q c:Addr)(F:Nat)(S:CP)(n:Nat)(z:Int)(bs:List Addr)(pss:List (List Pc)):Prop where
 dr:DrG H q c F
 ds:DkA K H [q,c] C o dx d S n
 nm:H ln=some (.lst ((WC 4).map λ k=>V.str (called z (k:Nat))))
 hl:H lb=some (.lst (bs.map V.ref))
 nn:(ln≠q/\ln≠c)/\lb≠q/\lb≠c
 bl:BnL K H bs pss
 bn:∀b∈bs,b≠q/\b≠c
 m:2<=bs.length/\bs.length<=3
 ok:∀ps∈pss,OkS ps
 sx:∀(i:Nat) (ps:List Pc),pss[i]?=some ps->S (called z i)=some ps
section
variable {K:FrG}{H H':Hp}{C o dx d ln lb q c:Addr}{F:Nat}{S:CP}{n:Nat}{z:Int}{bs:List Addr}{pss:List (List Pc)}
theorem Lw73.keep (a:Lw73 K H C o dx d ln lb q c F S n z bs pss)(s:Same H H'):Lw73 K H' C o dx d ln lb q c F S n z bs pss:=⟨a.dr.keep s,a.ds.keep s,s _ _ a.nm,s _ _ a.hl,a.nn,a.bl.keep s,a.bn,a.m,a.ok,a.sx⟩
theorem Lw73.draw {b:Nat}(a:Lw73 K H C o dx d ln lb q c F S n z bs pss)(dr:DrG H' q c b)(s:SE q c H H'):Lw73 K H' C o dx d ln lb q c b S n z bs pss:=
 ⟨dr,a.ds.se a.dr s,s _ _ a.nn.1.1 a.nn.1.2 a.nm,s _ _ a.nn.2.1 a.nn.2.2 a.hl,a.nn,a.bl.se a.dr s a.bn,a.bn,a.m,a.ok,a.sx⟩
theorem Lw73.there (e:Lw73 K H C o dx d ln lb q c F S n z bs pss):∀a∈[q,c],∃z,H a=some z:=λ a b=>by
 obtain ⟨_,_,_,L,e1,e2,_⟩:=e.dr.x;rcases W4.mp b with rfl | b
 ·exact ⟨_,e1⟩
 ·rw [U0.mp b];exact ⟨_,e2⟩
theorem Lw73.ps (e:Lw73 K H C o dx d ln lb q c F S n z bs pss){i:Nat}(a:i < bs.length):∃b ps,bs[i]?=some b/\BnA K H b ps/\OkS ps/\S (called z i)=some ps:=by
 have f:i < pss.length:=by rw [<- e.bl.1];exact a
 have e1:=YO a;have e2:=YO f;exact ⟨_,_,e1,e.bl.2 i _ _ e1 e2,e.ok _ (ZN e2),e.sx i _ e2⟩
theorem ni:∀a:Fin 26,∀t:Fin 5,∀r:Fin 4,Gg (a.val:Nat) (t.val:Nat) (r.val:Nat)≠Gg (((a.val+10) % 26:Nat):Int) (t.val:Nat) (r.val:Nat):=by decide+kernel
theorem qN (z:Int):called z 0≠called z 1/\called z 0≠called z 2/\called z 1≠called z 2:=by
 unfold called
 split
 ·exact ⟨by decide+kernel,by decide+kernel,by decide+kernel⟩
 ·have e2:(((z / 3 % 5).toNat:Nat):Int)=z / 3 % 5:=by omega
  have f:(((z % 4).toNat:Nat):Int)=z % 4:=by omega
  have a:=(Ti ⟨((z / 24+5 * 0) % 26).toNat,by omega⟩ ⟨(z / 3 % 5).toNat,by omega⟩ ⟨(z % 4).toNat,by omega⟩).2
  have b:=ni ⟨((z / 24+5 * 0) % 26).toNat,by omega⟩ ⟨(z / 3 % 5).toNat,by omega⟩ ⟨(z % 4).toNat,by omega⟩
  have e:=(Ti ⟨((z / 24+5 * 1) % 26).toNat,by omega⟩ ⟨(z / 3 % 5).toNat,by omega⟩ ⟨(z % 4).toNat,by omega⟩).2
  have g:((((z / 24+5 * 0) % 26).toNat:Nat):Int)=(z / 24+5 * 0) % 26:=by omega
  have h:((((z / 24+5 * 1) % 26).toNat:Nat):Int)=(z / 24+5 * 1) % 26:=by omega
  have b1:(((((z / 24+5 * 0) % 26).toNat+5) % 26:Nat):Int)=(z / 24+5 * 1) % 26:=by omega
  have b2:(((((z / 24+5 * 0) % 26).toNat+10) % 26:Nat):Int)=(z / 24+5 * 2) % 26:=by omega
  have b3:(((((z / 24+5 * 1) % 26).toNat+5) % 26:Nat):Int)=(z / 24+5 * 2) % 26:=by omega
  simp only [g,h,b1,b2,b3,e2,f] at a b e;exact ⟨a,b,e⟩
theorem uo {z:Int}{i j:Nat}(e:i < 3)(a:j < 3)(b:called z i=called z j):i=j:=by
 obtain ⟨f,g,h⟩:=qN z;have e:i=0\/i=1\/i=2:=by omega
 have a:j=0\/j=1\/j=2:=by omega
 rcases e with rfl | rfl | rfl
 ·rcases a with rfl | rfl | rfl
  ·rfl
  ·exact absurd b f
  ·exact absurd b g
 ·rcases a with rfl | rfl | rfl
  ·exact absurd b.symm f
  ·rfl
  ·exact absurd b h
 ·rcases a with rfl | rfl | rfl
  ·exact absurd b.symm g
  ·exact absurd b.symm h
  ·rfl
def Es:List Str:=[Y1 "back",Y1 "both",Y1 "apart"]
theorem mR:∀a:Fin 26,∀t:Fin 5,∀r:Fin 4,∀w∈Es,Gg (a.val:Nat) (t.val:Nat) (r.val:Nat)≠w:=by decide+kernel
theorem AI4:∀i:Fin 4,∀w∈Es,GE (Y1 "m") (1+((i.val:Nat):Int))≠w:=by decide+kernel
theorem YX (z:Int){i:Nat}(g:i < 4){x:Str}(a:x∈Es):called z i≠x:=by
 unfold called
 split
 ·exact AI4 ⟨i,g⟩ x a
 ·have b:=mR ⟨((z / 24+5 * (i:Int)) % 26).toNat,by omega⟩ ⟨(z / 3 % 5).toNat,by omega⟩ ⟨(z % 4).toNat,by omega⟩ x a
  have e:((((z / 24+5 * (i:Int)) % 26).toNat:Nat):Int)=(z / 24+5 * (i:Int)) % 26:=by omega
  have e2:(((z / 3 % 5).toNat:Nat):Int)=z / 3 % 5:=by omega
  have f:(((z % 4).toNat:Nat):Int)=z % 4:=by omega
  simp only [e,e2,f] at b;exact b
theorem JB:∀w∈Es,nameB w=true:=by decide+kernel
theorem Lw73.made (a:Lw73 K H C o dx d ln lb q c F S n z bs pss){f:CP}{g:Nat}(sd:SD d H H')(ds:DkA K H' [q,c] C o dx d f g)(j:∀y,y∉Es->f y=S y):Lw73 K H' C o dx d ln lb q c F f g z bs pss:=by
 obtain ⟨l,b,_,_⟩:=a.ds.d;obtain ⟨_,_,_,L,e1,e2,_⟩:=a.dr.x;refine ⟨a.dr.keepD sd (λ e=>by rw [e,b] at e1;cases e1) (λ e=>by rw [e,b] at e2;cases e2),ds,sd _ _ (λ e=>by have:=a.nm;rw [e,b] at this;cases this) a.nm,sd _ _ (λ e=>by have:=a.hl;rw [e,b] at this;cases this) a.hl,a.nn,a.bl.sdD b sd,a.bn,a.m,a.ok,λ i h e=>?_⟩
 have k:=CK e;rw [<- a.bl.1] at k;have p:=a.m.2;rw [j _ λ m=>YX z (show i < 4 by omega) m rfl]
 exact a.sx i h e
end
def sI:Sp:=λ vs H Q _=>∃(a i:Int),vs=[.int a,.int i]/\0<=a/\a < 2147483647/\0<=i/\i < 4/\Q (.str (called a i)) H
def wU (K:FrG):Sp:=λ vs H Q _=>∃(d c:Addr) (f m:Nat),vs=[.ref d,.int (m:Int),.int 0]/\m<=3/\DrG H d c (f+400)/\∀(l:Addr) (bs:List Addr) (e:List (List Pc)) a,DrG a d c f->SE d c H a->H l=none->(∀b∈bs,H b=none/\b≠l)->a l=some (.lst (bs.map V.ref))->bs.length=m->BnL K a bs e->(∀ps∈e,OkS ps)->Q (.ref l) a
theorem vH:∀{p:Pc},p.bd 12->p.fd 12 17
 | .gap _,a=>a
 | .glass _,a=>a
 | .stop _ _,a=>⟨a.1.mono (by decide),a.2.mono (by decide)⟩
def jU (K:FrG)(C:Addr):Sp:=λ vs H Q _=>∃(q c:Addr) (h:Nat) (f:Int),vs=[.ref q,.int f,.int 0]/\DrG H q c (h+401)/\0<=f/\f < 2147483647/\∀(r o g d b lb:Addr) (i:CP) (n:Nat) (bs:List Addr) (e:List (List Pc)) a,SE q c H a->a r=some (.lst [.ref o,.ref b,.ref lb])->n<=3->Lw73 K a C o g d b lb q c h i n f bs e->Q (.ref r) a
theorem AJ7 {K:FrG}{H:Hp}{q:List Addr}{C o a d:Addr}(no:H o=none)(c:H a=none)(ne:a≠o)(hd:upd (upd H a (.own o)) o (.ins C a []) d=none):
  Same H (upd (upd (upd (upd H a (.own o)) o (.ins C a [])) d (.dK [])) o (.ins C a [("benches",.ref d)]))/\DkA K (upd (upd (upd (upd H a (.own o)) o (.ins C a [])) d (.dK [])) o (.ins C a [("benches",.ref d)])) q C o a d (λ _=>none) 0/\H d=none/\H o=none:=by
 have f:d≠o:=λ e=>by rw [e,Al] at hd;cases hd
 rw [BK f] at hd;have g:d≠a:=λ e=>by rw [e,Al] at hd;cases hd
 rw [BK g] at hd;refine ⟨λ b u e=>?_,⟨Al,[],by rw [BK f];exact Al,Zj _,DicB.nil⟩,hd,no⟩
 rw [BK (Bq e no),BK (Bq e hd),BK (Bq e no),BK (Bq e c)];exact e
structure Ly73 (K:FrG)(H:Hp)(C o dx d ln lb q c:Addr)(F:Nat)(S:CP)(i:Nat)(z:Int)(bs:List Addr)(pss:List (List Pc)):Prop where
 dr:DrG H q c F
 ds:DkA K H [q,c] C o dx d S i
 nm:H ln=some (.lst ((WC 4).map λ k=>V.str (called z (k:Nat))))
 hl:H lb=some (.lst (bs.map V.ref))
 bl:BnL K H bs pss
 sx:∀(j:Nat) (ps:List Pc),j < i->pss[j]?=some ps->S (called z j)=some ps
section
variable {K:FrG}{H H':Hp}{C o dx d ln lb q c:Addr}{F:Nat}{S:CP}{i:Nat}{z:Int}{bs:List Addr}{pss:List (List Pc)}
theorem Ly73.keep (a:Ly73 K H C o dx d ln lb q c F S i z bs pss)(s:Same H H'):Ly73 K H' C o dx d ln lb q c F S i z bs pss:=⟨a.dr.keep s,a.ds.keep s,s _ _ a.nm,s _ _ a.hl,a.bl.keep s,a.sx⟩
theorem Ly73.there (e:Ly73 K H C o dx d ln lb q c F S i z bs pss):∀a∈[q,c],∃z,H a=some z:=λ a b=>by
 obtain ⟨_,_,_,L,e1,e2,_⟩:=e.dr.x;rcases W4.mp b with rfl | b
 ·exact ⟨_,e1⟩
 ·rw [U0.mp b];exact ⟨_,e2⟩
theorem Ly73.next (b:Ly73 K H C o dx d ln lb q c F S i z bs pss){ps:List Pc}(f:pss[i]?=some ps)(n:bs.length<=3)(sd:SD d H H')(ds:DkA K H' [q,c] C o dx d (setB S (called z i) ps) (i+1)):Ly73 K H' C o dx d ln lb q c F (setB S (called z i) ps) (i+1) z bs pss:=by
 obtain ⟨m,a,_,_⟩:=b.ds.d;have l:=CK f;obtain ⟨_,_,_,L,g,h,_⟩:=b.dr.x;rw [<- b.bl.1] at l;refine ⟨b.dr.keepD sd (λ e=>by rw [e,a] at g;cases g) (λ e=>by rw [e,a] at h;cases h),ds,sd _ _ (λ e=>by have:=b.nm;rw [e,a] at this;cases this) b.nm,sd _ _ (λ e=>by have:=b.hl;rw [e,a] at this;cases this) b.hl,b.bl.sdD a sd,λ j p r e=>?_⟩
 unfold setB;by_cases k:j=i
 ·subst k;rw [f] at e;cases e
  rw [if_pos rfl]
 ·rw [if_neg (λ z=>k (uo (by omega) (by omega) z))]
  exact b.sx j p (by omega) e
end
end Lib
namespace Tx
open PySem PySem.Builtin PySem.Builtin.Str L2 Lib Fr Op PySem.NumText
theorem gf {c:Nat}{s:Y2}(b:c∉cl s):∀{d:List Y2},(∀t∈d,c∉cl t)->c∉cl (ZE s d)
 | [],_=>λ a=>nomatch a
 | [t],a=>a t ZD
 | t::u::r,a=>by
  rw [Fz,BV,BV];intro m;rcases XO.mp m with m | m
  ·rcases XO.mp m with m | m
   ·exact a t ZD m
   ·exact b m
  ·exact gf b (λ x e=>a x (ZT _ e)) m
theorem Lk {a:Y2}{n:Int}(b:cl a=(if n < 0 then [45] else [])++dg n.natAbs)(hl:a.length<=640):Jn a=some n:=by
 by_cases c:n < 0
 ·rw [if_pos c] at b;rw [intText_neg (cs:=dg n.natAbs) b (G7 _) (N8 _) (U1 hl (by decide)),Wh]
  exact congrArg some (by omega)
 ·rw [if_neg c,JO] at b;have e:=intText_digits (x:=a) (by show NW (cl a);rw [b];exact G7 _) (by show cl a≠[];rw [b];exact N8 _) (U1 hl (by decide))
  rw [e];show some ((digitsVal (cl a):Nat):Int)=_;rw [b,Wh];exact congrArg some (by omega)
theorem AG0:Y1 "/"=⟨#[47]⟩:=by decide+kernel
theorem z7 {q:Rat}(n:Bd 1900 q):∃a b r,Xo (Aq q) (Y1 "/")++[Y1 "1"]=a::b::r/\r.length<=1/\a.length<=640/\b.length<=640/\Jn a=some q.num/\Jn b=some (q.den:Int):=by
 have o:=(Ei (m:=q.num.natAbs) (k:=575) (by decide)).mpr (X1 n.1 Fd)
 have p:=(Ei (m:=q.den) (k:=575) (by decide)).mpr (X1 n.2 Fd)
 have e:(Xo (Aq q) (Y1 "/")).map cl=cut 47 (sh q):=by rw [AG0,FN,Ha]
 have fr:47∉(if q.num < 0 then [45] else [])++dg q.num.natAbs:=λ m=>by
  rcases XO.mp m with m | m
  ·split at m
   ·exact absurd (U0.mp m) (by decide)
   ·cases m
  ·exact absurd (G7 _ _ m) (by decide)
 have fd:47∉dg q.den:=λ m=>absurd (G7 _ _ m) (by decide)
 have c:∀x:Y2,cl x=(if q.num < 0 then [45] else [])++dg q.num.natAbs->x.length<=640:=λ x e=>by
  rw [<- Dc,e,X9]
  split<;>simp only [X4,YR]<;>omega
 have lb:∀x:Y2,cl x=dg q.den->x.length<=640:=λ x e=>by
  rw [<- Dc,e];omega
 have l:∀x:Y2,cl x=dg q.den->Jn x=some (q.den:Int):=λ x e=>Lk (by rw [e,if_neg (by omega),JO,XW]) (lb x e)
 unfold sh at e;by_cases d:q.den=1
 ·rw [if_pos d,WJ,HF fr] at e;obtain ⟨x,r,f,ex,g⟩:=ja.mp e;obtain rfl:=xy.mp g;rw [f];refine ⟨x,Y1 "1",[],rfl,by decide,c x ex,by decide+kernel,Lk ex (c x ex),?_⟩
  rw [d]
  decide+kernel
 ·rw [if_neg d,Eo _ fr,HF fd] at e;obtain ⟨x,r,f,ex,g⟩:=ja.mp e;obtain ⟨y,s,h,i,j⟩:=ja.mp g;obtain rfl:=xy.mp j;subst h;rw [f];exact ⟨x,y,[Y1 "1"],rfl,by decide,c x ex,lb y i,Lk ex (c x ex),l y i⟩
theorem wD {q:Rat}(h:Bd 1900 q):(∃a,Xo (Aq q) (Y1 "/")=[a]/\q.den=1/\a.length<=640/\Jn a=some q.num)\/∃a b,Xo (Aq q) (Y1 "/")=[a,b]/\a.length<=640/\b.length<=640/\Jn a=some q.num/\Jn b=some (q.den:Int):=by
 obtain ⟨a,b,r,e,g,d,lb,f,c⟩:=z7 h;generalize Xo (Aq q) (Y1 "/")=l at e ⊢
 match l,e with
 | [],e=>cases e
 | [x],e=>
  have e1:=WR e;have e2:=WR e1.2;rw [<- e2.1,show Jn (Y1 "1")=some 1 by decide+kernel] at c
  have c:(1:Int)=(q.den:Int):=XY c;exact .inl ⟨x,rfl,by omega,by rw [e1.1];exact d,by rw [e1.1];exact f⟩
 | [x,y],e=>
  have e1:=WR e;have e2:=WR e1.2;exact .inr ⟨x,y,rfl,by rw [e1.1];exact d,by rw [e2.1];exact lb,by rw [e1.1];exact f,by rw [e2.1];exact c⟩
 | x::y::i::t,e=>
  have e1:i::(t++[Y1 "1"])=r:=(WR (WR e).2).2;rw [<- e1,X4,X9] at g;have:[Y1 "1"].length=1:=rfl;omega
theorem oK {qs:List Rat}(a:qs≠[]):Xo (Di qs) (Y1 " ")=qs.map Aq:=by
 refine Hb ?_;unfold Di;rw [Dg,Hn,FN];refine JN (λ e=>a (xy.mp e)) λ t ht=>?_
 obtain ⟨q,_,rfl⟩:=WO.mp ht;exact Hz q 32 (by decide)
theorem pL {n k:Nat}(c:k<=n):Qo none (some (k:Int)) 1 n=WC k:=by
 unfold Qo we;simp only [show (1:Int) > 0 by decide,if_true]
 have a:max 0 (min (if (k:Int) < 0 then (k:Int)+(n:Int) else (k:Int)) (n:Int))=(k:Int):=by
  rw [if_neg (by omega)]
  omega
 rw [a];have b:(if (0:Int) < (k:Int) then ((k:Int) - 0+1 - 1) / 1 else 0).toNat=k:=by
  split<;>simp<;>omega
 rw [b];refine (zC λ k _=>?_).trans (List.map_id _)
 simp
theorem jh {n k:Nat}(c:k<=n):Qo (some (k:Int)) none 1 n=(WC (n - k)).map (k+·):=by
 unfold Qo we;simp only [show (1:Int) > 0 by decide,if_true]
 have a:max 0 (min (if (k:Int) < 0 then (k:Int)+(n:Int) else (k:Int)) (n:Int))=(k:Int):=by
  rw [if_neg (by omega)]
  omega
 rw [a];have b:(if (k:Int) < (n:Int) then ((n:Int) - (k:Int)+1 - 1) / 1 else 0).toNat=n - k:=by
  split<;>simp<;>omega
 rw [b]
 apply zC
 intro j _;omega
theorem Uc:∀(l:List Nat) (k:Nat),k<=l.length->(WC k).filterMap (λ j=>l[j]?)=l.take k
 | l,0,_=>by simp
 | l,k+1,a=>by
  rw [List.range_succ,List.filterMap_append,Uc l k (by omega),XV]
  congr 1
theorem rT (l:List Nat)(k:Nat)(a:k<=l.length):((WC (l.length - k)).map (k+·)).filterMap (λ j=>l[j]?)=l.drop k:=by
 rw [wa];have e:((λ j=>l[j]?) ∘ λ x=>k+x)=λ j=>(l.drop k)[j]?:=by
  funext j
  rw [qD];rfl
 rw [e,<- zI,Uc _ _ (Zj _),WA]
theorem Xm (l:List Nat)(k:Nat)(a:k<=l.length):Wp ⟨l.toArray⟩ none (some (k:Int))=⟨(l.take k).toArray⟩:=by
 have hl:(UB l.toArray).length=l.length:=by show l.toArray.size=_;simp
 unfold Wp;rw [hl,pL a]
 split
 ·rename_i b
  simp at b
  rw [b,WA]
 ·show (⟨((WC k).filterMap (λ j=>l.toArray[j]?)).toArray⟩:Y2)=_
  rw [<- Uc l k a];simp
theorem Yv (l:List Nat)(k:Nat)(a:k<=l.length):Wp ⟨l.toArray⟩ (some (k:Int)) none=⟨(l.drop k).toArray⟩:=by
 have hl:(UB l.toArray).length=l.length:=by show l.toArray.size=_;simp
 unfold Wp;rw [hl,jh a]
 split
 ·rename_i c
  simp at c
  have:k=0\/l.length=0:=by omega
  rcases this with rfl | b
  ·simp
  ·rw [List.eq_nil_of_length_eq_zero b];simp
 ·show (⟨(((WC (l.length - k)).map (k+·)).filterMap (λ j=>l.toArray[j]?)).toArray⟩:Y2)=_
  rw [<- rT l k a];simp
end Tx
namespace Lib
open PySem L2 Fr Op Tx
def sV (K:FrG):Sp:=λ vs H Q _=>∃q:Rat,vs=[.str (Aq q)]/\Bd 1900 q/\∀v a,Same H a->DV K a v (Ai q)->Q v a
def um (K:FrG):Sp:=λ vs H Q _=>∃qs:List Rat,vs=[.str (Di qs)]/\qs≠[]/\qs.length<=5/\(∀q∈qs,Bd 1900 q)/\∀l xs a,Same H a->a l=some (.lst xs)->DVs K a xs (qs.map Ai)->Q (.ref l) a
def Fit (qs:List Rat):Prop:=∀q∈qs,q.num.natAbs < 10 ^ 14/\q.den < 10 ^ 14
theorem Fit.short {qs:List Rat}(b:Fit qs):∀q∈qs,Short q:=λ q a=>⟨X1 (b q a).1 (by decide),X1 (b q a).2 (by decide)⟩
def wj (K:FrG):Sp:=λ vs H Q _=>∃(v:V) (qs:List Rat),vs=[v]/\DV K H v (.list (qs.map Ai))/\qs.length<=60/\∀(b:Bool) a,Same H a->(b=true↔Fit qs)->Q (.bl b) a
def Dz (q:Rat):Bool:=decide (q.num.natAbs < 10 ^ 14) && decide (q.den < 10 ^ 14)
theorem nj (qs:List Rat):Fit qs↔qs.filter (λ q=>!Dz q)=[]:=by
 rw [List.filter_eq_nil_iff];refine forall_congr' λ q=>forall_congr' λ _=>?_
 unfold Dz;simp only [wP,Bool.not_eq_false',Qv,decide_eq_true_eq,Bool.not_eq_true,Bool.not_eq_false]
theorem qC (q:Rat):decide ((if (q.den:Int) > (if q.num < 0 then -q.num else q.num) then (q.den:Int) else (if q.num < 0 then -q.num else q.num))≥10 ^ (14:Int).toNat)=!Dz q:=by
 have e:(10:Int) ^ (14:Int).toNat=100000000000000:=by decide
 have e2:(10:Nat) ^ 14=100000000000000:=by decide
 unfold Dz;rw [e,e2,xL];simp only [decide_eq_true_eq,wP,Bool.and_eq_false_iff,decide_eq_false_iff_not]
 split<;>split<;>omega
theorem MP:cl (Y1 "by ")=[98,121,32]:=by decide+kernel
theorem je (t:Str):Wp (Y1 "by "++t) none (some 3)=Y1 "by ":=by
 have e:Y1 "by "++t=⟨([98,121,32]++cl t).toArray⟩:=ext (by rw [BV,MP])
 rw [e];exact (Xm _ 3 (by simp)).trans (ext (by rw [MP];rfl))
theorem xU (t:Str):Wp (Y1 "by "++t) (some 3) none=t:=by
 have e:Y1 "by "++t=⟨([98,121,32]++cl t).toArray⟩:=ext (by rw [BV,MP])
 rw [e];exact (Yv _ 3 (by simp)).trans (ext (by simp))
theorem YF:cl (Y1 "stopped ")=[115,116,111,112,112,101,100,32]:=by decide+kernel
theorem yD (t:Str):Wp (Y1 "stopped "++t) none (some 3)≠Y1 "by ":=λ a=>by
 have e:Y1 "stopped "++t=⟨([115,116,111,112,112,101,100,32]++cl t).toArray⟩:=ext (by rw [BV,YF])
 rw [e] at a;have a:=congrArg cl ((Xm _ 3 (by simp)).symm.trans a)
 rw [MP] at a;have a:[115,116,111]=[98,121,32]:=a;exact absurd a (by decide)
theorem dj (ps:List Pc)(r:Ay):Wp (Fb ps r) none (some 3)=Y1 "by "↔(walk ps r).2=none:=by
 unfold Fb;cases e:(walk ps r).2 with
 | none=>exact ⟨λ _=>rfl,λ _=>je _⟩
 | some n=>exact ⟨λ a=>absurd a (yD _),λ a=>by cases a⟩
theorem nW {ps:List Pc}{r:Ay}(c:OkB ps)(a:RB 100 r):(Fb ps r).length<=7000:=by
 unfold Fb;cases e:(walk ps r).2 with
 | none=>
  have b:=Ws c a;have l:=O4 (all2 b.1 b.2) (by show 2<=5;decide)
  show (Y1 "by "++Di _).length<=_
  rw [Ck,show (Y1 "by ").length=3 by decide+kernel]
  omega
 | some n=>
  show (Y1 "stopped "++HN n).length<=_;have d:=(Uq e).1;have f:=c.1;have l:=di (fD (n:=n) (by omega))
  rw [Ck,show (Y1 "stopped ").length=8 by decide+kernel]
  omega
section
variable {ps a b:List Pc}{r:Ay}
theorem Od (c:(walk ps r).2=none):BW ps r=(tabOf ps).by r:=by
 unfold BW;rw [uA ps 0 r c,Iu]
theorem AK4 (c:(walk ps r).2=none):(walk ps.reverse (flip (BW ps r))).2=none/\BW ps.reverse (flip (BW ps r))=flip r:=by
 have e:=gC ps r c (BW ps r) (Je ps r);refine ⟨by rw [e],?_⟩
 have w:=Je ps.reverse (flip (BW ps r));rw [e] at w;have d:((walk ps r).1.reverse.map flip).getLast?=some (flip r):=by
  rw [GC,Na];rfl
 exact XY (w.symm.trans d)
theorem AK3 (d:(walk a r).2=none)(c:(walk b (BW a r)).2=none):(walk (a++b) r).2=none/\BW (a++b) r=BW b (BW a r):=by
 have e:(walk (a++b) r).2=none:=by
  rw [U4 d];show (walk b (BW a r)).2.map _=none;rw [c];rfl
 refine ⟨e,?_⟩;rw [Od e,Od c,Od d,Hj,<- Iu,<- Iu,<- Mu,<- Hj,Iu]
theorem iU {j:Nat}(d:(walk a r).2=none)(c:(walk b (BW a r)).2=some j):(walk (a++b) r).2=some (j+a.length):=by
 rw [U4 d];show (walk b (BW a r)).2.map _=_;rw [c];rfl
theorem jj {j:Nat}(c:(walk a r).2=some j):(walk (a++b) r).2=some j:=by
 rw [kj c];exact c
end
def HH (ps:List Pc)(r:Ay):List ZB:=match (walk ps r).2 with
 | none=>[.none,.list [Ai (BW ps r).1,Ai (BW ps r).2]]
 | some n=>[.int (n:Int),.none]
theorem Hh {ps:List Pc}{r:Ay}(a:(walk ps r).2=none):HH ps r=[.none,.list [Ai (BW ps r).1,Ai (BW ps r).2]]:=by
 unfold HH;rw [a]
theorem Gi {ps:List Pc}{r:Ay}{n:Nat}(a:(walk ps r).2=some n):HH ps r=[.int (n:Int),.none]:=by
 unfold HH;rw [a]
theorem jm (t:Str):Wp (Y1 "stopped "++t) (some 8) none=t:=by
 have e:Y1 "stopped "++t=⟨([115,116,111,112,112,101,100,32]++cl t).toArray⟩:=ext (by rw [BV,YF])
 rw [e];exact (Yv _ 8 (by simp)).trans (ext (by simp))
theorem Yl (p q:Rat):Flat 2 (.list [Ai p,Ai q]):=JF λ d hd=>by
 simp only [W4,YV,or_false] at hd;rcases hd with rfl | rfl<;>exact GQ _
theorem Ov (ps:List Pc)(r:Ay):Flat 3 (.list (HH ps r)):=JF λ d hd=>by
 unfold HH at hd
 split at hd
 ·simp only [W4,YV,or_false] at hd;rcases hd with rfl | rfl
  ·exact flat_non.mono (by decide)
  ·exact Yl _ _
 ·simp only [W4,YV,or_false] at hd;rcases hd with rfl | rfl
  ·exact (oU _).mono (by decide)
  ·exact flat_non.mono (by decide)
def yO (K:FrG)(C:Addr):Sp:=λ vs H Q _=>∃(o b d:Addr) (q:List Addr) (x:Str) (c:CP) (n:Nat) (ps:List Pc) (v:V) (y u:Rat),vs=[.ref o,.str x,v]/\DkA K H q C o b d c n/\Nm x/\c x=some ps/\DV K H v (.list ([y,u].map Ai))/\Short y/\Short u/\∀l xs a,Same H a->a l=some (.lst xs)->DVs K a xs (HH ps (y,u))->Q (.ref l) a
def uy (K:FrG):Sp:=λ vs H Q _=>∃(v w:V) (p q y u:Rat),vs=[v,w]/\DV K H v (.list [Ai p,Ai q])/\(DV K H w (.list [Ai y,Ai u])\/DV K H w (.tuple [Ai y,Ai u]))/\(Bd 700 p/\Bd 700 q/\Bd 700 y/\Bd 700 u)/\∀b a,Same H a->DV K a b (Ai (p * y+q * u))->Q b a
def rB (K:FrG)(C:Addr):Sp:=λ vs H Q _=>∃(o b d:Addr) (q:List Addr) (x:Str) (c:CP) (n:Nat) (ps:List Pc) (v:V) (y u:Rat),vs=[.ref o,.str x,v]/\DkA K H q C o b d c n/\Nm x/\c x=some ps/\c (Y1 "back")=some ps.reverse/\DV K H v (.list ([y,u].map Ai))/\Bd 12 y/\Bd 12 u/\∀a,Same H a->Q (.bl true) a
def o9 (K:FrG)(C:Addr):Sp:=λ vs H Q _=>∃(o b d:Addr) (q:List Addr) (x:Str) (c:CP) (n:Nat) (ps:List Pc) (v:V) (y:Rat),vs=[.ref o,.str x,v]/\DkA K H q C o b d c n/\Nm x/\c x=some ps/\OkM ps/\DV K H v (Ai y)/\Bd 12 y/\∀a,Same H a->Q (.bl true) a
def vJ (K:FrG)(C:Addr):Sp:=λ vs H Q _=>∃(o c d:Addr) (q:List Addr) (x:Str) (g:CP) (n:Nat) (ps:List Pc),vs=[.ref o,.str x]/\DkA K H q C o c d g n/\(∀a∈q,∃h,H a=some h)/\n<=900/\Nm x/\x≠Y1 "apart"/\g x=some ps/\
 ∀(e:CP) (f:Nat) b,SD d H b->DkA K b q C o c d e f->f<=n+1->(∀y,y≠Y1 "apart"->e y=g y)->Q (.bl true) b
def AK1 (K:FrG)(C:Addr):Sp:=λ vs H Q _=>∃(o e d:Addr) (q:List Addr) (x:Str) (g:CP) (n:Nat) (ps:List Pc) (v:V) (y:Rat),vs=[.ref o,.str x,v]/\DkA K H q C o e d g n/\(∀a∈q,∃h,H a=some h)/\n<=800/\Nm x/\x∉Es/\g x=some ps/\OkS ps/\DV K H v (Ai y)/\Bd 12 y/\
 ∀(b:CP) (f:Nat) c,SD d H c->DkA K c q C o e d b f->f<=n+2->b (Y1 "back")=some ps.reverse->(∀y,y∉Es->b y=g y)->Q (.bl true) c
def ux (K:FrG)(C:Addr):Sp:=λ vs H Q _=>∃(o e d:Addr) (q:List Addr) (x y:Str) (f:CP) (n:Nat) (a b:List Pc) (v:V) (g u:Rat),vs=[.ref o,.str x,.str y,.int (a.length:Int),v]/\DkA K H q C o e d f n/\(∀a∈q,∃h,H a=some h)/\n<=800/\Nm x/\Nm y/\x∉Es/\y∉Es/\f x=some a/\f y=some b/\OkS a/\OkS b/\DV K H v (.list ([g,u].map Ai))/\Bd 12 g/\Bd 12 u/\
 ∀c,SD d H c->DkA K c q C o e d (setB f (Y1 "both") (a++b)) (n+1)->Q (.bl true) c
theorem zU {t:Tab}{s:Rat}(a:t.c * s+t.d=0):Ge t s=Y1 "none":=by
 unfold Ge img;rw [if_pos (show (spread t s).2=0 from a)]
theorem AI7 {t:Tab}{s:Rat}(f:¬ t.c * s+t.d=0):Ge t s=Di [(0 - (t.a * s+t.b)) / (t.c * s+t.d),1 / (t.c * s+t.d)]:=by
 unfold Ge img;rw [if_neg (show ¬ (spread t s).2=0 from f)]
 have e:0 - (spread t s).1 / (spread t s).2=(0 - (t.a * s+t.b)) / (t.c * s+t.d):=by
  show 0 - (t.a * s+t.b) / (t.c * s+t.d)=_;rw [Rat.div_def,Rat.div_def]
  grind
 show Di [0 - (spread t s).1 / (spread t s).2,1 / (spread t s).2]=_;rw [e];rfl
end Lib
namespace L2
open PySem PySem.Spec PyProof.Rows
theorem Hw {a b:TS}{f:Ends}{e:St}{H:Hp}(i:St->Hp->Prop)(g:∀nx:St->Hp->Prop,(∀c d,i c d->nx c d)->a { f with nx:=nx } e H)(h:∀c d,i c d->b f c d):tSeq a b f e H:=g (b f) h
end L2
namespace Tx
open PySem PySem.Builtin PySem.Builtin.Str L2 Lib Fr Op PySem.NumText
theorem iJ (c:Nat):∀l:List Nat,(cut c l).flatten=l.filter λ d=>!decide (d=c)
 | []=>rfl
 | a::r=>by
  have b:=iJ c r;by_cases f:a=c
  ·rw [cut,if_pos f,JJ,b,List.filter_cons,if_neg (by simp [f])]
   rfl
  ·rw [cut,if_neg f,List.filter_cons,if_pos (by simp [f]),<- b]
   cases e:cut c r with
   | nil=>rfl
   | cons p ps=>rfl
theorem YH:∀a:List Y2,cl (ZE (Y1 "") a)=(a.map cl).flatten
 | []=>rfl
 | [t]=>by rw [j1];simp
 | t::u::r=>by
  rw [Fz,BV,BV,YH (u::r),show cl (Y1 "")=[] by decide+kernel,WJ]
  rfl
theorem cR (x:Y2):cl (uL x (Y1 ";") (Y1 ""))=(cl x).filter λ d=>!decide (d=59):=by
 rw [<- iJ,<- FN,<- YH]
 congr 1
 rw [show Y1 ";"=(⟨#[59]⟩:Y2) by decide+kernel]
 have b:(⟨#[59]⟩:Y2).length=1:=rfl;unfold uL Xo;cases c:Wc x ⟨#[59]⟩ 0 x.length (x.length+1) with
 | nil=>
  simp only [List.isEmpty_nil,Bool.true_or,if_true]
  split
  ·rw [j1]
  ·rw [j1]
 | cons i r=>
  rw [if_neg (by rw [b];simp)]
  have h:0 < x.length:=by
   cases e:x.length with
   | succ n=>omega
   | zero=>
    have ex:x=⟨#[]⟩:=by
     obtain ⟨a⟩:=x;have:a.size=0:=e;rw [zF this]
    rw [ex] at c;exact absurd c (by rw [show Wc ⟨#[]⟩ ⟨#[59]⟩ 0 (⟨#[]⟩:Y2).length ((⟨#[]⟩:Y2).length+1)=[] by decide+kernel];simp)
  have f:(decide (x.length < (⟨#[59]⟩:Y2).length) || decide (zD x < zD ⟨#[59]⟩))=false:=by
   have g:zD (⟨#[59]⟩:Y2)=1:=by decide+kernel
   have j:1<=zD x:=by
    unfold zD
    split
    ·exact Zj _
    ·split<;>decide
   rw [b,g];simp only [Bool.or_eq_false_iff,decide_eq_false_iff_not];omega
  rw [f,if_neg (by simp),if_neg (by simp)]
  exact Nd _ _
theorem Xj {l:List Nat}(a:59∉l):l.filter (λ d=>!decide (d=59))=l:=by
 rw [List.filter_eq_self];intro d hd;simp only [wP,decide_eq_false_iff_not];exact λ e=>a (e▸hd)
def Du:List Pc->List Y2
 | []=>[]
 | p::r=>toks p++Du r
theorem Wi (p:Pc):toks p≠[]:=by cases p<;>simp [toks]
theorem AK8 {a b:List Y2}(c:a≠[])(d:b≠[])(s:Y2):cl (ZE s (a++b))=cl (ZE s a)++(cl s++cl (ZE s b)):=by
 induction a with
 | nil=>exact absurd rfl c
 | cons x r e=>
  cases r with
  | nil=>
   cases b with
   | nil=>exact absurd rfl d
   | cons y b=>
    show cl (ZE s (x::y::b))=_;rw [Fz,j1,BV,BV,YA]
  | cons y r=>
   show cl (ZE s (x::y::(r++b)))=_;rw [Fz,Fz,BV,BV,BV,BV];have:=e (by simp)
   rw [show (y::r)++b=y::(r++b) from rfl] at this
   rw [this];simp only [YA]
theorem Z5 (p:Pc):59∉cl (CW p):=by
 unfold CW;rw [Dg];exact gf (by decide+kernel) λ t ht=>by
  cases p<;>simp only [toks,wd,fracs,YU,xp,W4,YV,or_false] at ht
  all_goals first
   | (rcases ht with rfl | rfl | rfl)
   | (rcases ht with rfl | rfl)
  all_goals first
   | exact Hz _ 59 (by omega)
   | decide+kernel
theorem VL:∀ps:List Pc,ps≠[]->(cl (Bs ps)).filter (λ d=>!decide (d=59))=cl (ZE (Y1 " ") (Du ps))
 | [],b=>absurd rfl b
 | [p],_=>by
  have e:Bs [p]=CW p:=by show wB _ [CW p]=_;rw [Dg];rfl
  have e2:CW p=ZE (Y1 " ") (Du [p]):=by
   show _=ZE (Y1 " ") (toks p++[]);rw [WJ,<- Dg];rfl
  rw [e,Xj (Z5 p),<- e2]
 | p::q::r,_=>by
  have a:=VL (q::r) (by simp)
  have e:Bs (p::q::r)=CW p++Y1 "; "++Bs (q::r):=by
   unfold Bs;rw [Dg,Dg];rfl
  have ne:Du (q::r)≠[]:=by
   show toks q++Du r≠[];intro c;exact Wi q (FH.mp c).1
  rw [e,BV,BV,wc,wc,Xj (Z5 p),a];show _=cl (ZE (Y1 " ") (toks p++Du (q::r)));rw [AK8 (Wi p) ne,show (cl (Y1 "; ")).filter (λ d=>!decide (d=59))=cl (Y1 " ") by decide+kernel,YA]
  unfold CW;rw [Dg]
theorem aZ {ps:List Pc}(a:ps≠[]):uL (Bs ps) (Y1 ";") (Y1 "")=ZE (Y1 " ") (Du ps):=ext (by rw [cR,VL ps a])
theorem vQ:uL (Bs []) (Y1 ";") (Y1 "")=Y1 "":=ext (by rw [cR];decide+kernel)
theorem YB:∀ps:List Pc,∀t∈Du ps,32∉cl t
 | [],_,a=>nomatch a
 | p::r,t,a=>by
  rcases XO.mp a with a | a
  ·cases p<;>simp only [toks,wd,fracs,YU,xp,W4,YV,or_false] at a
   all_goals first
    | (rcases a with rfl | rfl | rfl)
    | (rcases a with rfl | rfl)
   all_goals first
    | exact Hz _ 32 (by omega)
    | decide+kernel
  ·exact YB r t a
theorem iQ {ps:List Pc}(a:ps≠[]):Xo (ZE (Y1 " ") (Du ps)) (Y1 " ")=Du ps:=by
 have ne:Du ps≠[]:=by
  cases ps with
  | nil=>exact absurd rfl a
  | cons p r=>exact λ b=>Wi p (FH.mp b).1
 refine Hb ?_;rw [show Y1 " "=(⟨#[32]⟩:Y2) by decide+kernel,FN]
 exact JN ne (YB ps)
end Tx
namespace Lib
open PySem L2 Fr Op Tx
def JC (p:Pc):Prop:=(∃q,p=.gap q)\/∃q,p=.glass q
theorem qm (t:Tab):∀p∈DK t,JC p:=by
 have b:∀p∈En t,JC p:=λ p a=>by
  unfold En Df FQ at a
  split at a
  ·simp only [W4,YV,or_false] at a;rcases a with rfl | rfl | rfl
   ·exact .inr ⟨_,rfl⟩
   ·exact .inl ⟨_,rfl⟩
   ·exact .inr ⟨_,rfl⟩
  ·split at a
   ·simp only [W4,YV,or_false] at a;rcases a with rfl | rfl | rfl
    ·exact .inl ⟨_,rfl⟩
    ·exact .inr ⟨_,rfl⟩
    ·exact .inl ⟨_,rfl⟩
   ·simp only [W4,YV,or_false] at a;rcases a with rfl | rfl | rfl | rfl
    ·exact .inl ⟨_,rfl⟩
    ·exact .inr ⟨_,rfl⟩
    ·exact .inl ⟨_,rfl⟩
    ·exact .inr ⟨_,rfl⟩
 intro p a;unfold DK at a
 split at a
 ·cases a
 ·exact b p (js.mp a).1
theorem AI9 (t:Tab):(DK t).length<=4:=by
 unfold DK
 split
 ·decide
 ·refine U1 (QP _ _) ?_;unfold En Df FQ
  split
  ·simp
  ·split<;>simp
theorem Ft {p:Pc}(a:JC p):toks p=[wd p,Aq p.part]:=by
 rcases a with ⟨q,rfl⟩ | ⟨q,rfl⟩<;>rfl
theorem K1 {xs:List V}{L:List Nat}{n:Nat}(a:xs.length=n)(e:we (UA (some 1) none (some 2) n).1 (UA (some 1) none (some 2) n).2.1 (UA (some 1) none (some 2) n).2.2=L):FJ xs (some 1) none (some 2)=L.filterMap (xs[·]?):=by
 unfold FJ;rw [a,e]
theorem yN:∀ps:List Pc,(∀p∈ps,JC p)->ps.length<=4->FJ ((Du ps).map V.str) (some 1) none (some 2)=(ps.map λ p=>V.str (Aq p.part))
 | [],_,_=>(K1 (n:=0) (L:=[]) rfl (by decide)).trans rfl
 | [p],a,_=>by
  show FJ ((toks p++[]).map V.str) _ _ _=_;rw [Ft (a p (by simp))]
  exact (K1 (n:=2) (L:=[1]) rfl (by decide)).trans rfl
 | [p,q],a,_=>by
  show FJ ((toks p++(toks q++[])).map V.str) _ _ _=_;rw [Ft (a p (by simp)),Ft (a q (by simp))]
  exact (K1 (n:=4) (L:=[1,3]) rfl (by decide)).trans rfl
 | [p,q,r],a,_=>by
  show FJ ((toks p++(toks q++(toks r++[]))).map V.str) _ _ _=_;rw [Ft (a p (by simp)),Ft (a q (by simp)),Ft (a r (by simp))]
  exact (K1 (n:=6) (L:=[1,3,5]) rfl (by decide)).trans rfl
 | [p,q,r,s],a,_=>by
  show FJ ((toks p++(toks q++(toks r++(toks s++[])))).map V.str) _ _ _=_;rw [Ft (a p (by simp)),Ft (a q (by simp)),Ft (a r (by simp)),Ft (a s (by simp))]
  exact (K1 (n:=8) (L:=[1,3,5,7]) rfl (by decide)).trans rfl
 | _::_::_::_::_::_,_,l=>absurd l (by simp)
theorem wI:∀ps:List Pc,Bs ps=Y1 ""->ps=[]
 | [],_=>rfl
 | p::r,f=>by
  exfalso;have e:=Jz (p::r) (by simp)
  rw [f] at e;obtain ⟨t,g,h⟩:=Ou p r;have a:Xo (Bs (p::r)) (Y1 " ")=Cr (p::r):=aH (by simp)
  rw [f] at a;have c:Xo (Y1 "") (Y1 " ")=[Y1 ""]:=by decide+kernel
  rw [c] at a;have d:=congrArg Jh a;have b:2<=(Cr (p::r)).length:=by
   cases r with
   | nil=>cases p<;>simp [Cr,toks,fracs]
   | cons q r=>cases p<;>simp [Cr,De]
  rw [<- d] at b;exact absurd b (by decide)
theorem jK {p:Pc}(a:PBig p)(b:JC p):Bd 1900 p.part:=by
 rcases b with ⟨q,rfl⟩ | ⟨q,rfl⟩<;>exact a.2 _ (by simp [fracs,Pc.part])
theorem AG1 {ps:List Pc}(d:∀p∈ps,JC p)(e:Fit (ps.map Pc.part)):∀p∈ps,DN p:=λ p b=>by
 have c:=e.short p.part (List.mem_map_of_mem b);rcases d p b with ⟨q,rfl⟩ | ⟨q,rfl⟩
 ·exact ⟨trivial,λ r a=>by rw [U0.mp a];exact c⟩
 ·exact ⟨trivial,λ r a=>by rw [U0.mp a];exact c⟩
theorem Y5 {ps:List Pc}{y u:Rat}(e:(walk ps (y,u)).2=none):HH ps.reverse ((BW ps (y,u)).1,0 - (BW ps (y,u)).2)=[.none,.list [Ai y,Ai (0 - u)]]:=by
 obtain ⟨a,b⟩:=AK4 e;have c:((BW ps (y,u)).1,0 - (BW ps (y,u)).2)=Op.flip (BW ps (y,u)):=by
  unfold Op.flip;rw [show 0 - (BW ps (y,u)).2=-(BW ps (y,u)).2 by grind]
 rw [c,Hh a,b];show [ZB.none,.list [Ai y,Ai (-u)]]=_;rw [show 0 - u=-u by grind]
theorem zf {q:Rat}(a:Short q):Short (0 - q):=by
 rw [show 0 - q=-q by grind]
 exact ⟨by rw [No,wM];exact a.n,by rw [Nt];exact a.d⟩
theorem KD {K:FrG}{H:Hp}{xs:List V}{a b c d:ZB}(e:DVs K H xs [a,b,c,d]):∃f g h i,xs=[f,g,h,i]/\DV K H f a/\DV K H g b/\DV K H h c/\DV K H i d:=by
 cases e with
 | cons j e=>cases e with
  | cons k e=>cases e with
   | cons l e=>cases e with
    | cons m e=>
     cases e
     exact ⟨_,_,_,_,rfl,j,k,l,m⟩
theorem vY {ps:List Pc}(hl:ps.length<=4)(f:∀p∈ps,PBig p):(Bs ps).length<=15000:=by
 have a:∀t∈ps.map CW,t.length<=3700:=λ t ht=>by
  obtain ⟨p,b,rfl⟩:=WO.mp ht;unfold CW;rw [Dg];have c:=Ol (Y1 " ") (toks p) 1200 (O3 p (f p b));have d:(toks p).length<=3:=by cases p<;>simp [toks,fracs]
  rw [show (Y1 " ").length=1 by decide+kernel] at c
  have e:=Yh (1200+1) d;omega
 unfold Bs;rw [Dg];have c:=Ol (Y1 "; ") (ps.map CW) 3700 a;rw [Y3,show (Y1 "; ").length=2 by decide+kernel] at c
 have e:=Yh (3700+2) hl;omega
theorem yu (t:Str):Y1 "bench apart "++t=Fl (Y1 "apart") t:=by
 unfold Fl
 apply ext
 simp only [BV,YA];rw [show cl (Y1 "bench apart ")=cl (Y1 "bench ")++(cl (Y1 "apart")++cl (Y1 " ")) by decide+kernel]
 simp only [YA]
theorem xV {K:FrG}{H c:Hp}{a d:Addr}{xs:List V}{f:List (Key×V)}(b:SqL K H a xs)(hd:H d=some (.dK f))(s:SD d H c):SqL K c a xs:=by
 rcases b with (b | ⟨o,b⟩) | b
 ·exact .inl (.inl (s _ _ (λ e=>by rw [e,hd] at b;cases b) b))
 ·exact .inl (.inr ⟨o,s _ _ (λ e=>by rw [e,hd] at b;cases b) b⟩)
 ·exact .inr b
theorem zH {K:FrG}{H b:Hp}{d:Addr}{v:V}{y u:Rat}{e:List (Key×V)}(g:DV K H v (.list ([y,u].map Ai)))(hd:H d=some (.dK e))(s:SD d H b):DV K b v (.list ([y,u].map Ai)):=by
 obtain ⟨a,xs,rfl,f,c⟩:=DV.lst_of g;exact .lst (xV f hd s) (Eg (Ls hd s) (by rfl) c)
end Lib
namespace K73
open PySem L2 Lib Fr Op
seal PE PT PW PA PS PSs PG PGs PI PO
def top (i:Nat):Stmt:=PySem.Challenge.pw_grindbench_k73_whole_walks_and_tables.main.body.getD i (.Pass ⟨0,0,0,0⟩)
abbrev VH:Stmt:=top 10
theorem AI3:FnScope ["thing"] ["thing"] (defScope VH):=by walk_at "s"
abbrev Te:Stmt:=top 11
theorem I9:FnScope ["one","other","greater","lesser","rest"] ["one","other"] (defScope Te):=by walk_at "s"
abbrev Tv:Stmt:=top 12
theorem QM:FnScope ["thing","top","bottom"] ["thing"] (defScope Tv):=by walk_at "s"
abbrev SJ:Stmt:=top 13
theorem Rp:FnScope ["top","bottom","divisor"] ["top","bottom"] (defScope SJ):=by walk_at "s"
abbrev WM:Stmt:=top 14
theorem lR:FnScope ["one","other"] ["one","other"] (defScope WM):=by walk_at "s"
abbrev X7:Stmt:=top 15
theorem vh:FnScope ["one","other"] ["one","other"] (defScope X7):=by walk_at "s"
abbrev Vy:Stmt:=top 16
theorem ww:FnScope ["one","other"] ["one","other"] (defScope Vy):=by walk_at "s"
abbrev R7:Stmt:=top 17
theorem uH:FnScope ["one","other"] ["one","other"] (defScope R7):=by walk_at "s"
abbrev Qw:Stmt:=top 18
theorem uF:FnScope ["one","other"] ["one","other"] (defScope Qw):=by walk_at "s"
abbrev Kl:Stmt:=top 28
theorem yt:FnScope ["thing"] ["thing"] (defScope Kl):=by walk_at "s"
abbrev Wd:Stmt:=top 29
theorem lQ:FnScope ["told"] ["told"] (defScope Wd):=by walk_at "s"
abbrev U3:Stmt:=top 30
theorem Qk:FnScope ["bench","number","thing"] ["bench"] (defScope U3):=by walk_at "s"
abbrev Qf:Stmt:=top 35
theorem j8:FnScope ["thing"] ["thing"] (defScope Qf):=by walk_at "s"
abbrev Uy:Stmt:=top 36
theorem vA:FnScope ["table"] ["table"] (defScope Uy):=by walk_at "s"
abbrev Sg:Stmt:=top 37
theorem jb:FnScope ["high","slanted"] ["high","slanted"] (defScope Sg):=by walk_at "s"
abbrev RG:Stmt:=top 38
theorem Hy:FnScope ["bench","high","slanted","told","piece"] ["bench"] (defScope RG):=by walk_at "s"
abbrev Ru:Stmt:=top 39
theorem U7:FnScope ["table","ray","height","slant"] ["table","ray"] (defScope Ru):=by walk_at "s"
abbrev U8:Stmt:=top 40
theorem yH:FnScope ["first","second"] ["first","second"] (defScope U8):=by walk_at "s"
abbrev Xf:Stmt:=top 42
theorem wY:FnScope ["one"] ["one"] (defScope Xf):=by walk_at "s"
abbrev QD:Stmt:=top 43
theorem AI5:FnScope ["one","whole"] ["one","whole"] (defScope QD):=by walk_at "s"
abbrev W3:Stmt:=top 44
theorem Qn:FnScope ["table","first","last"] ["table"] (defScope W3):=by walk_at "s"
abbrev Wx:Stmt:=top 45
theorem Nb:FnScope ["table","strength","first","last"] ["table"] (defScope Wx):=by walk_at "s"
abbrev K4:Stmt:=top 46
theorem Nu:FnScope ["table","pieces"] ["table"] (defScope K4):=by walk_at "s"
abbrev gh:Stmt:=top 48
abbrev Zg:Stmt:=top 49
abbrev au:Stmt:=top 50
abbrev iH:Stmt:=top 51
abbrev Yn:Stmt:=top 53
abbrev Z6:Stmt:=top 55
abbrev ZZ:Stmt:=top 56
abbrev bA:Stmt:=top 57
abbrev Y8:Stmt:=top 58
abbrev dM:Stmt:=top 59
abbrev ZQ:Stmt:=top 60
abbrev bf:Stmt:=top 61
abbrev gQ:Stmt:=top 62
abbrev Vn:Stmt:=top 66
theorem Uj:FnScope ["one","top","bottom"] ["one"] (defScope Vn):=by walk_at "s"
abbrev Wl:Stmt:=top 67
theorem rM:FnScope ["text"] ["text"] (defScope Wl):=by walk_at "s"
abbrev K9:Stmt:=top 69
theorem J8:FnScope ["text","is_below","parts","top","bottom","one"] ["text"] (defScope K9):=by walk_at "s"
abbrev Vq:Stmt:=top 71
theorem Xb:FnScope ["table","s","height","slant"] ["table","s"] (defScope Vq):=by walk_at "s"
abbrev WD:Stmt:=top 72
theorem Y6:FnScope ["table","s","spread"] ["table","s"] (defScope WD):=by walk_at "s"
abbrev Uu:Stmt:=top 73
theorem bY:FnScope ["table","s","spread"] ["table","s"] (defScope Uu):=by walk_at "s"
abbrev fY:Stmt:=top 75
abbrev Xx:Stmt:=top 76
abbrev dm:Stmt:=top 77
abbrev eV:Stmt:=top 78
abbrev gB:Stmt:=top 79
abbrev cV:Stmt:=top 80
abbrev Y0:Stmt:=top 81
abbrev ZG:Stmt:=top 82
abbrev QC:Stmt:=top 86
theorem ik:FnScope ["thing"] ["thing"] (defScope QC):=by walk_at "s"
abbrev WK:Stmt:=top 88
theorem Im:FnScope ["bench","ray","rays","number","told","piece"] ["bench","ray"] (defScope WK):=by walk_at "s"
abbrev Ud:Stmt:=top 91
theorem Om:FnScope ["table","power","rounds"] ["table"] (defScope Ud):=by walk_at "s"
abbrev cI:Stmt:=top 96
abbrev QB:Stmt:=top 105
theorem X3:FnScope ["text","words","word"] ["text"] (defScope QB):=by walk_at "s"
abbrev XS:Stmt:=top 106
theorem yU:FnScope ["word"] ["word"] (defScope XS):=by walk_at "s"
abbrev eF:Stmt:=top 108
abbrev WL:Stmt:=top 109
theorem nH:FnScope ["reader","word","deep","times","parts"] ["reader","word","deep"] (defScope WL):=by walk_at "s"
abbrev U9:Stmt:=top 110
theorem Ld:FnScope ["reader","deep","word","low","high"] ["reader","deep"] (defScope U9):=by walk_at "s"
abbrev Rf:Stmt:=top 112
theorem bB:FnScope ["reader","deep","parts"] ["reader","deep"] (defScope Rf):=by walk_at "s"
abbrev Wn:Stmt:=top 113
theorem Jl:FnScope ["parts","count","part"] ["parts"] (defScope Wn):=by walk_at "s"
abbrev VJ:Stmt:=top 114
theorem Oc:FnScope ["parts","pieces","part"] ["parts"] (defScope VJ):=by walk_at "s"
abbrev S9:Stmt:=top 115
theorem RW:FnScope ["text","reader","parts"] ["text"] (defScope S9):=by walk_at "s"
abbrev T3:Stmt:=top 116
theorem tK:FnScope ["piece"] ["piece"] (defScope T3):=by walk_at "s"
abbrev Tg:Stmt:=top 117
theorem rO:FnScope ["bench"] ["bench"] (defScope Tg):=by walk_at "s"
abbrev W8:Stmt:=top 119
theorem aa:FnScope ["bench"] ["bench"] (defScope W8):=by walk_at "s"
abbrev Uw:Stmt:=top 124
theorem mL:FnScope ["ratios"] ["ratios"] (defScope Uw):=by walk_at "s"
abbrev cQ:Stmt:=top 125
abbrev Ra:Stmt:=top 126
theorem dH:FnScope ["bench","numbers","walk"] ["bench","numbers"] (defScope Ra):=by walk_at "s"
abbrev Tu:Stmt:=top 127
theorem yE:FnScope ["bench","numbers"] ["bench","numbers"] (defScope Tu):=by walk_at "s"
abbrev Xd:Stmt:=top 128
theorem yg:FnScope ["bench","numbers"] ["bench","numbers"] (defScope Xd):=by walk_at "s"
abbrev S8:Stmt:=top 129
theorem Qt:FnScope ["bench","numbers","table","place"] ["bench","numbers"] (defScope S8):=by walk_at "s"
abbrev YK:Stmt:=top 130
abbrev dC:Stmt:=top 131
abbrev Tf:Stmt:=top 132
theorem Zx:FnScope ["bench","numbers","rounds"] ["bench","numbers"] (defScope Tf):=by walk_at "s"
abbrev Ui:Stmt:=top 134
theorem lO:FnScope ["word"] ["word"] (defScope Ui):=by walk_at "s"
abbrev RD:Stmt:=top 135
theorem qX:FnScope ["word"] ["word"] (defScope RD):=by walk_at "s"
abbrev Vh:Stmt:=top 137
theorem Fo:FnScope ["words","form","names","name","numbers"] ["words"] (defScope Vh):=by walk_at "s"
abbrev Ri:Stmt:=top 140
theorem AG2:FnScope ["_law_script","_law_k"] ["_law_script","_law_k"] (defScope Ri):=by walk_at "s"
abbrev UG:Stmt:=top 141
theorem JP:FnScope ["_law_script","_law_start","_law_cells","_law_number","_law_k","_law_mixed"] ["_law_script","_law_start"] (defScope UG):=by walk_at "s"
abbrev XN:Stmt:=top 142
theorem Oo:FnScope ["_law_drawn_here","_law_many","_law_cells","_law_turn","_law_digit"] ["_law_drawn_here","_law_many"] (defScope XN):=by walk_at "s"
abbrev Vv:Stmt:=top 143
theorem NK:FnScope ["_law_top","_law_bottom","_law_one","_law_other"] ["_law_top","_law_bottom"] (defScope Vv):=by walk_at "s"
abbrev X5:Stmt:=top 144
theorem AH1:FnScope ["_law_one","_law_other"] ["_law_one","_law_other"] (defScope X5):=by walk_at "s"
abbrev LR:Stmt:=top 145
theorem JM:FnScope ["_law_drawn_here","_law_far","_law_top","_law_bottom"] ["_law_drawn_here","_law_far"] (defScope LR):=by walk_at "s"
abbrev VR:Stmt:=top 146
theorem JX:FnScope ["_law_drawn_here","_law_far","_law_way","_law_one","_law_other"] ["_law_drawn_here","_law_far"] (defScope VR):=by walk_at "s"
abbrev R8:Stmt:=top 147
theorem uQ:FnScope ["_law_one","_law_other"] ["_law_one","_law_other"] (defScope R8):=by walk_at "s"
abbrev V3:Stmt:=top 148
theorem jJ:FnScope ["_law_one","_law_other"] ["_law_one","_law_other"] (defScope V3):=by walk_at "s"
abbrev T8:Stmt:=top 149
theorem xu:FnScope ["_law_one","_law_other"] ["_law_one","_law_other"] (defScope T8):=by walk_at "s"
abbrev Sv:Stmt:=top 150
theorem Jq:FnScope ["_law_number","_law_figures","_law_left"] ["_law_number"] (defScope Sv):=by walk_at "s"
abbrev Qq:Stmt:=top 151
theorem nM:FnScope ["_law_part_here"] ["_law_part_here"] (defScope Qq):=by walk_at "s"
abbrev Wb:Stmt:=top 152
theorem xm:FnScope ["_law_piece_here"] ["_law_piece_here"] (defScope Wb):=by walk_at "s"
abbrev Rq:Stmt:=top 153
theorem wK:FnScope ["_law_bench"] ["_law_bench"] (defScope Rq):=by walk_at "s"
abbrev Wr:Stmt:=top 154
theorem QG:FnScope ["_law_number","_law_k","_law_letter","_law_at"] ["_law_number","_law_k"] (defScope Wr):=by walk_at "s"
abbrev Vx:Stmt:=top 155
theorem Gu:FnScope ["_law_drawn_here","_law_many","_law_least","_law_found","_law_k","_law_bench","_law_j","_law_piece_here","_law_low_here"] ["_law_drawn_here","_law_many","_law_least"] (defScope Vx):=by walk_at "s"
abbrev Ms:Stmt:=top 156
theorem Ju:FnScope ["_law_drawn_here","_law_number","_law_least","_law_names","_law_benches_here","_law_desk","_law_k"] ["_law_drawn_here","_law_number","_law_least"] (defScope Ms):=by walk_at "s"
abbrev Sy:Stmt:=top 157
theorem YQ:FnScope ["_law_word","_law_parts"] ["_law_word"] (defScope Sy):=by walk_at "s"
abbrev V2:Stmt:=top 158
theorem oG:FnScope ["_law_text_here"] ["_law_text_here"] (defScope V2):=by walk_at "s"
abbrev RP:Stmt:=top 159
theorem iw:FnScope ["_law_parts"] ["_law_parts"] (defScope RP):=by walk_at "s"
abbrev Tz:Stmt:=top 160
theorem yF:FnScope ["_law_parts"] ["_law_parts"] (defScope Tz):=by walk_at "s"
abbrev U5:Stmt:=top 161
theorem ZJ:FnScope ["_law_desk","_law_name","_law_ray","_law_found"] ["_law_desk","_law_name","_law_ray"] (defScope U5):=by walk_at "s"
abbrev W7:Stmt:=top 162
theorem mC:FnScope ["_law_row_here","_law_ray"] ["_law_row_here","_law_ray"] (defScope W7):=by walk_at "s"
abbrev Ve:Stmt:=top 163
theorem Ji:FnScope ["_law_desk","_law_name","_law_ray","_law_at","_law_behind","_law_table","_law_back"] ["_law_desk","_law_name","_law_ray"] (defScope Ve):=by walk_at "s"
abbrev QR:Stmt:=top 164
theorem xn:FnScope ["_law_one","_law_other"] ["_law_one","_law_other"] (defScope QR):=by walk_at "s"
abbrev Vz:Stmt:=top 165
theorem Fx:FnScope ["_law_desk","_law_name","_law_s","_law_a","_law_b","_law_c","_law_d","_law_low_here","_law_due","_law_place"] ["_law_desk","_law_name","_law_s"] (defScope Vz):=by walk_at "s"
abbrev Xg:Stmt:=top 166
theorem Jw:FnScope ["_law_desk","_law_name","_law_s","_law_a","_law_b","_law_c","_law_d"] ["_law_desk","_law_name","_law_s"] (defScope Xg):=by walk_at "s"
abbrev Qg:Stmt:=top 167
theorem Er:FnScope ["_law_desk","_law_one","_law_other","_law_many","_law_ray","_law_at","_law_behind","_law_first","_law_second","_law_due","_law_row_here","_law_k"] ["_law_desk","_law_one","_law_other","_law_many","_law_ray"] (defScope Qg):=by walk_at "s"
abbrev TY:Stmt:=top 168
theorem QK:FnScope ["_law_desk","_law_name","_law_text_here","_law_words"] ["_law_desk","_law_name"] (defScope TY):=by walk_at "s"
abbrev KN:Stmt:=top 169
theorem El:FnScope ["_law_script","_law_drawn_here","_law_number","_law_desk","_law_names","_law_benches_here","_law_cell","_law_ray","_law_one","_law_other","_law_many"] ["_law_script"] (defScope KN):=by walk_at "s"
abbrev Fy:Stmt:=inClass (top 24) 0
theorem Z8:FnScope ["self","ray"] ["self","ray"] (defScope Fy):=by walk_at "s"
abbrev Kv:Stmt:=inClass (top 24) 1
theorem zG:FnScope ["self","ray"] ["self","ray"] (defScope Kv):=by walk_at "s"
abbrev Kc:Stmt:=inClass (top 25) 0
theorem qd:FnScope ["self","length"] ["self","length"] (defScope Kc):=by walk_at "s"
abbrev K6:Stmt:=inClass (top 25) 1
theorem rG:FnScope ["self","ray"] ["self","ray"] (defScope K6):=by walk_at "s"
abbrev Ks:Stmt:=inClass (top 26) 0
theorem uz:FnScope ["self","strength"] ["self","strength"] (defScope Ks):=by walk_at "s"
abbrev JS:Stmt:=inClass (top 26) 1
theorem vU:FnScope ["self","ray"] ["self","ray"] (defScope JS):=by walk_at "s"
abbrev LK:Stmt:=inClass (top 27) 0
theorem xX:FnScope ["self","low","high"] ["self","low","high"] (defScope LK):=by walk_at "s"
abbrev La:Stmt:=inClass (top 27) 1
theorem AL5:FnScope ["self","ray"] ["self","ray"] (defScope La):=by walk_at "s"
abbrev Ka:Stmt:=inClass (top 104) 0
theorem vm:FnScope ["self","words"] ["self","words"] (defScope Ka):=by walk_at "s"
abbrev Jf:Stmt:=inClass (top 104) 1
theorem iY:FnScope ["self"] ["self"] (defScope Jf):=by walk_at "s"
abbrev Ja:Stmt:=inClass (top 104) 2
theorem jz:FnScope ["self"] ["self"] (defScope Ja):=by walk_at "s"
abbrev K5:Stmt:=inClass (top 104) 3
theorem oM:FnScope ["self","word"] ["self","word"] (defScope K5):=by walk_at "s"
abbrev Jm:Stmt:=inClass (top 138) 0
theorem sW:FnScope ["self"] ["self"] (defScope Jm):=by walk_at "s"
abbrev Kf:Stmt:=inClass (top 138) 1
theorem Dr:FnScope ["self","row","words","read","names"] ["self","row"] (defScope Kf):=by walk_at "s"
abbrev Jo:Stmt:=inClass (top 138) 2
theorem bH:FnScope ["self","row","words"] ["self","row"] (defScope Jo):=by walk_at "s"
abbrev K8:Stmt:=inClass (top 138) 3
theorem ug:FnScope ["self","name"] ["self","name"] (defScope K8):=by walk_at "s"
abbrev Kr:Stmt:=inClass (top 138) 4
theorem yP:FnScope ["self","name","bench"] ["self","name","bench"] (defScope Kr):=by walk_at "s"
structure Adr where
 z0:Nat:=0
 BenchError:Addr
 NoNumber:Addr
 NoText:Addr
 NoTable:Addr
 NoBox:Addr
 NoRow:Addr
 Unknown:Addr
 NoBench:Addr
 Piece:Addr
 Gap:Addr
 Glass:Addr
 Stop:Addr
 Reader:Addr
 Desk:Addr
 NOUGHT:Addr
 ONE:Addr
 LEAVING:Addr
 ROWS:Addr
 ROWS_join:Addr
 ROWS_turn:Addr
 ROWS_show:Addr
 ROWS_walk:Addr
 ROWS_table:Addr
 ROWS_apart:Addr
 ROWS_image:Addr
 ROWS_field:Addr
 ROWS_sharp:Addr
 ROWS_rounds:Addr
 ANSWERS:Addr
 ANSWERS_show:Addr
 ANSWERS_walk:Addr
 ANSWERS_table:Addr
 ANSWERS_apart:Addr
 ANSWERS_image:Addr
 ANSWERS_field:Addr
 ANSWERS_sharp:Addr
 ANSWERS_rounds:Addr
 tGAP:Tok
 tGLASS:Tok
 tSTOP:Tok
 tMOST_PIECES:Tok
 tFIGURES:Tok
 tMOST_FIGURES:Tok
 tPARTED:Tok
 tTIMES:Tok
 tOPENED:Tok
 tCLOSED:Tok
 tMOST_TIMES:Tok
 tMOST_DEEP:Tok
 tLETTERS:Tok
 tMOST_LETTERS:Tok
 tDONE:Tok
 tNONE:Tok
 tFROM:Tok
 tMOST_ROUNDS_OF_FRACTIONS:Tok
 pr:GU
structure Exc (K:FrG)(mg:Str->Option Value)(ad:Adr):Prop where
 tt:True:=trivial
 Np:mg "BenchError"=some (.ref ad.BenchError)
 Ly:mg "NoNumber"=some (.ref ad.NoNumber)
 Mz:mg "NoText"=some (.ref ad.NoText)
 Pb:mg "NoTable"=some (.ref ad.NoTable)
 OJ:mg "NoBox"=some (.ref ad.NoBox)
 MJ:mg "NoRow"=some (.ref ad.NoRow)
 Lx:mg "Unknown"=some (.ref ad.Unknown)
 Pa:mg "NoBench"=some (.ref ad.NoBench)
 NQ:mg "Piece"=some (.ref ad.Piece)
 JW:mg "Gap"=some (.ref ad.Gap)
 Kq:mg "Glass"=some (.ref ad.Glass)
 Ky:mg "Stop"=some (.ref ad.Stop)
 Js:mg "Reader"=some (.ref ad.Reader)
 Jc:mg "Desk"=some (.ref ad.Desk)
 m_GAP:mg "GAP"=some (.str "gap" ad.tGAP)
 z_GAP:ad.tGAP≠0
 m_GLASS:mg "GLASS"=some (.str "glass" ad.tGLASS)
 z_GLASS:ad.tGLASS≠0
 m_STOP:mg "STOP"=some (.str "stop" ad.tSTOP)
 z_STOP:ad.tSTOP≠0
 m_MOST_PIECES:mg "MOST_PIECES"=some (.int 60 ad.tMOST_PIECES)
 m_FIGURES:mg "FIGURES"=some (.str "0123456789" ad.tFIGURES)
 MN:ad.tFIGURES≠0
 m_MOST_FIGURES:mg "MOST_FIGURES"=some (.int 15 ad.tMOST_FIGURES)
 m_PARTED:mg "PARTED"=some (.str ";" ad.tPARTED)
 z_PARTED:ad.tPARTED≠0
 m_TIMES:mg "TIMES"=some (.str "times" ad.tTIMES)
 z_TIMES:ad.tTIMES≠0
 MF:mg "OPENED"=some (.str "(" ad.tOPENED)
 O2:ad.tOPENED≠0
 P0:mg "CLOSED"=some (.str ")" ad.tCLOSED)
 Mj:ad.tCLOSED≠0
 Ox:mg "MOST_TIMES"=some (.int 60 ad.tMOST_TIMES)
 N7:mg "MOST_DEEP"=some (.int 4 ad.tMOST_DEEP)
 m_LETTERS:mg "LETTERS"=some (.str "abcdefghijklmnopqrstuvwxyz" ad.tLETTERS)
 Oi:ad.tLETTERS≠0
 m_MOST_LETTERS:mg "MOST_LETTERS"=some (.int 8 ad.tMOST_LETTERS)
 m_DONE:mg "DONE"=some (.str "ok" ad.tDONE)
 z_DONE:ad.tDONE≠0
 m_NONE:mg "NONE"=some (.str "none" ad.tNONE)
 z_NONE:ad.tNONE≠0
 PQ:mg "FROM"=some (.str "from" ad.tFROM)
 NT:ad.tFROM≠0
 m_MOST_ROUNDS_OF_FRACTIONS:mg "MOST_ROUNDS_OF_FRACTIONS"=some (.int 6 ad.tMOST_ROUNDS_OF_FRACTIONS)
 l_Gap:Cls K ad.Gap
 i_Gap:MkFn K mg "Gap" ad.Gap "Gap.__init__" Kc
 q_Gap_lets:MtFn K ad.Gap "lets" "Piece.lets" Fy
 q_Gap_bent:MtFn K ad.Gap "bent" "Gap.bent" K6
 n_Gap_length:NoAttr K ad.Gap "length"
 l_Glass:Cls K ad.Glass
 i_Glass:MkFn K mg "Glass" ad.Glass "Glass.__init__" Ks
 q_Glass_lets:MtFn K ad.Glass "lets" "Piece.lets" Fy
 q_Glass_bent:MtFn K ad.Glass "bent" "Glass.bent" JS
 n_Glass_strength:NoAttr K ad.Glass "strength"
 l_Stop:Cls K ad.Stop
 i_Stop:MkFn K mg "Stop" ad.Stop "Stop.__init__" LK
 q_Stop_lets:MtFn K ad.Stop "lets" "Stop.lets" La
 q_Stop_bent:MtFn K ad.Stop "bent" "Piece.bent" Kv
 n_Stop_low:NoAttr K ad.Stop "low"
 n_Stop_high:NoAttr K ad.Stop "high"
 l_Reader:Cls K ad.Reader
 i_Reader:MkFn K mg "Reader" ad.Reader "Reader.__init__" Ka
 q_Reader_is_done:MtFn K ad.Reader "is_done" "Reader.is_done" Jf
 q_Reader_take:MtFn K ad.Reader "take" "Reader.take" Ja
 q_Reader_take_if:MtFn K ad.Reader "take_if" "Reader.take_if" K5
 n_Reader_words:NoAttr K ad.Reader "words"
 n_Reader_place:NoAttr K ad.Reader "place"
 l_Desk:Cls K ad.Desk
 i_Desk:MkFn K mg "Desk" ad.Desk "Desk.__init__" Jm
 q_Desk_say:MtFn K ad.Desk "say" "Desk.say" Kf
 q_Desk_lay:MtFn K ad.Desk "lay" "Desk.lay" Jo
 q_Desk_bench_by:MtFn K ad.Desk "bench_by" "Desk.bench_by" K8
 q_Desk_keep:MtFn K ad.Desk "keep" "Desk.keep" Kr
 n_Desk_benches:NoAttr K ad.Desk "benches"
 m_NOUGHT:mg "NOUGHT"=some (.ref ad.NOUGHT)
 s_NOUGHT:∀H:Hp,SqT K H ad.NOUGHT [.int 0,.int 1]
 m_ONE:mg "ONE"=some (.ref ad.ONE)
 s_ONE:∀H:Hp,SqT K H ad.ONE [.int 1,.int 1]
 m_LEAVING:mg "LEAVING"=some (.ref ad.LEAVING)
 s_LEAVING:∀H:Hp,SqT K H ad.LEAVING [.ref ad.ONE,.ref ad.NOUGHT,.ref ad.NOUGHT,.ref ad.ONE]
 m_ROWS:mg "ROWS"=some (.ref ad.ROWS)
 g_ROWS:∀(P:ZY) (w:World),w.params=ad.pr->DKG P w K ad.ROWS (DQ [("join",V.ref ad.ROWS_join),("turn",V.ref ad.ROWS_turn),("show",V.ref ad.ROWS_show),("walk",V.ref ad.ROWS_walk),("table",V.ref ad.ROWS_table),("apart",V.ref ad.ROWS_apart),("image",V.ref ad.ROWS_image),("field",V.ref ad.ROWS_field),("sharp",V.ref ad.ROWS_sharp),("rounds",V.ref ad.ROWS_rounds)])
 s_ROWS_join:∀H:Hp,SqT K H ad.ROWS_join [.int 3,.int 0]
 s_ROWS_turn:∀H:Hp,SqT K H ad.ROWS_turn [.int 2,.int 0]
 s_ROWS_show:∀H:Hp,SqT K H ad.ROWS_show [.int 1,.int 0]
 s_ROWS_walk:∀H:Hp,SqT K H ad.ROWS_walk [.int 1,.int 2]
 s_ROWS_table:∀H:Hp,SqT K H ad.ROWS_table [.int 1,.int 0]
 s_ROWS_apart:∀H:Hp,SqT K H ad.ROWS_apart [.int 1,.int 0]
 s_ROWS_image:∀H:Hp,SqT K H ad.ROWS_image [.int 1,.int 1]
 AL8:∀H:Hp,SqT K H ad.ROWS_field [.int 1,.int 4]
 AM0:∀H:Hp,SqT K H ad.ROWS_sharp [.int 1,.int 5]
 s_ROWS_rounds:∀H:Hp,SqT K H ad.ROWS_rounds [.int 1,.int 0]
 m_ANSWERS:mg "ANSWERS"=some (.ref ad.ANSWERS)
 Lq:mg "show_answer"=some (.ref ad.ANSWERS_show)
 f_ANSWERS_walk:mg "walk_answer"=some (.ref ad.ANSWERS_walk)
 f_ANSWERS_table:mg "table_answer"=some (.ref ad.ANSWERS_table)
 f_ANSWERS_apart:mg "apart_answer"=some (.ref ad.ANSWERS_apart)
 f_ANSWERS_image:mg "image_answer"=some (.ref ad.ANSWERS_image)
 Pn:mg "field_answer"=some (.ref ad.ANSWERS_field)
 MK:mg "sharp_answer"=some (.ref ad.ANSWERS_sharp)
 f_ANSWERS_rounds:mg "rounds_answer"=some (.ref ad.ANSWERS_rounds)
 g_ANSWERS:∀(P:ZY) (w:World),w.params=ad.pr->DKG P w K ad.ANSWERS (DQ [("show",V.ref ad.ANSWERS_show),("walk",V.ref ad.ANSWERS_walk),("table",V.ref ad.ANSWERS_table),("apart",V.ref ad.ANSWERS_apart),("image",V.ref ad.ANSWERS_image),("field",V.ref ad.ANSWERS_field),("sharp",V.ref ad.ANSWERS_sharp),("rounds",V.ref ad.ANSWERS_rounds)])
structure Txt (K:FrG)(mg:Str->Option Value)(ad:Adr):Prop where
 ex:Exc K mg ad
 abs:mg "abs"=none
 all:mg "all"=none
 bool:mg "bool"=none
 enumerate:mg "enumerate"=none
 int:mg "int"=none
 isinstance:mg "isinstance"=none
 len:mg "len"=none
 list:mg "list"=none
 max:mg "max"=none
 range:mg "range"=none
 reversed:mg "reversed"=none
 str:mg "str"=none
 tuple:mg "tuple"=none
 UV:TopFn K mg "is_whole" VH
 Vk:TopFn K mg "common_divisor" Te
 SN:TopFn K mg "is_ratio" Tv
 T9:TopFn K mg "ratio_of" SJ
 XJ:TopFn K mg "sum_of" WM
 Pz:TopFn K mg "less_by" X7
 T5:TopFn K mg "product_of" Vy
 Ro:TopFn K mg "quotient_of" R7
 Vc:TopFn K mg "is_less" Qw
 UJ:TopFn K mg "is_piece" Kl
 TF:TopFn K mg "piece_of" Wd
 Th:TopFn K mg "look_at" U3
 V4:TopFn K mg "is_table" Qf
 Ur:TopFn K mg "look_at_table" Uy
 Ue:TopFn K mg "table_of_rays" Sg
 Su:TopFn K mg "table_of" RG
 XF:TopFn K mg "made_by" Ru
 VN:TopFn K mg "joined" U8
 Ug:TopFn K mg "less" Xf
 Ry:TopFn K mg "part_short_of_one" QD
 X8:TopFn K mg "glass_gap_glass" W3
 Vo:TopFn K mg "gap_glass_gap" Wx
 VG:TopFn K mg "taken_apart" K4
 bz:TopFn K mg "is_stretch" gh
 dF:TopFn K mg "look_at_stretch" Zg
 cB:TopFn K mg "is_box" au
 fO:TopFn K mg "look_at_box" iH
 gm:TopFn K mg "limits_of" Yn
 aG:TopFn K mg "is_before" Z6
 bM:TopFn K mg "corners_of" ZZ
 Y4:TopFn K mg "edges_of" bA
 Ys:TopFn K mg "room_at" Y8
 Zf:TopFn K mg "crossing_of" dM
 Yq:TopFn K mg "cut_by" ZQ
 Zk:TopFn K mg "from_the_least" bf
 eE:TopFn K mg "field_of" gQ
 Rz:TopFn K mg "show_ratio" Vn
 Vi:TopFnA K mg "read_part_figures" "read_part" Wl
 W6:TopFn K mg "read_ratio" K9
 XR:TopFn K mg "spread_of" Vq
 Qu:TopFn K mg "image_of" WD
 Wt:TopFn K mg "growth_of" Uu
 dD:TopFn K mg "in_order" fY
 bD:TopFn K mg "lesser_of" Xx
 Ze:TopFn K mg "greater_of" dm
 fK:TopFn K mg "slants_by" eV
 iM:TopFn K mg "slants_of" gB
 Yj:TopFn K mg "height_at" cV
 gk:TopFn K mg "spots_of" Y0
 iC:TopFn K mg "blur_of" ZG
 XQ:TopFn K mg "is_name" QC
 Py:TopFn K mg "walk_of" WK
 Vr:TopFn K mg "rounds_of" Ud
 Xk:TopFn K mg "sharp_places" cI
 R6:TopFn K mg "words_of" QB
 Rx:TopFnA K mg "read_number_texts" "read_number" XS
 YL:TopFn K mg "read_times" eF
 XX:TopFn K mg "read_round" WL
 WF:TopFnA K mg "read_part_texts" "read_part" U9
 T6:TopFn K mg "read_parts" Rf
 Lj:TopFn K mg "count_of" Wn
 Ng:TopFn K mg "told_out" VJ
 XD:TopFn K mg "read_bench" S9
 Rr:TopFn K mg "show_piece" T3
 Wv:TopFn K mg "show_bench" Tg
 M9:TopFn K mg "turned_bench" W8
 Sx:TopFn K mg "shown" Uw
 cH:TopFn K mg "show_answer" cQ
 QF:TopFn K mg "walk_answer" Ra
 U6:TopFn K mg "table_answer" Tu
 Wa:TopFn K mg "apart_answer" Xd
 Vd:TopFn K mg "image_answer" S8
 fG:TopFn K mg "field_answer" YK
 bF:TopFn K mg "sharp_answer" dC
 RK:TopFn K mg "rounds_answer" Tf
 QX:TopFn K mg "look_at_name" Ui
 QJ:TopFnA K mg "read_number_desk" "read_number" RD
 M3:TopFn K mg "read_row" Vh
 Wm:TopFn K mg "_law_cell_at" Ri
 T4:TopFn K mg "_law_drawn" UG
 RV:TopFn K mg "_law_draw" XN
 WY:TopFn K mg "_law_low" Vv
 Ww:TopFn K mg "_law_under" X5
 X6:TopFn K mg "_law_part" LR
 R5:TopFn K mg "_law_piece" VR
 Uk:TopFn K mg "_law_plus" R8
 TV:TopFn K mg "_law_times" V3
 R3:TopFn K mg "_law_less" T8
 Up:TopFn K mg "_law_written" Sv
 Wu:TopFn K mg "_law_shown" Qq
 V9:TopFn K mg "_law_piece_text" Wb
 RQ:TopFn K mg "_law_text" Rq
 Px:TopFn K mg "_law_called" Wr
 Uo:TopFn K mg "_law_benches" Vx
 Ux:TopFn K mg "_law_laid" Ms
 QL:TopFn K mg "_law_read" Sy
 Va:TopFn K mg "_law_read_all" V2
 Vj:TopFn K mg "_law_row" RP
 Wo:TopFn K mg "_law_is_short" Tz
 Wk:TopFn K mg "_law_sent" U5
 UL:TopFn K mg "_law_times_row" W7
 WQ:TopFn K mg "_law_walked_so" Ve
 TX:TopFn K mg "_law_over" QR
 Qp:TopFn K mg "_law_imaged_so" Vz
 Q0:TopFn K mg "_law_turned_so" Xg
 QT:TopFn K mg "_law_joined_so" Qg
 Tw:TopFn K mg "_law_apart_so" TY
theorem lG {K:FrG}{R3:Heap}{mg:Str->Option Value}{c9 l6 G2 r7 H9 I0 r8 r9 I1 k b d a c F s0 d9 r6 Q R S T A B C D E s U l m f g h i j e:Addr}{tGAP:Tok}{tGLASS:Tok}{tSTOP:Tok}{tMOST_PIECES:Tok}{tFIGURES:Tok}{tMOST_FIGURES:Tok}{tPARTED:Tok}{tTIMES:Tok}{tOPENED:Tok}{tCLOSED:Tok}{tMOST_TIMES:Tok}{tMOST_DEEP:Tok}{tLETTERS:Tok}{tMOST_LETTERS:Tok}{tDONE:Tok}{tNONE:Tok}{tFROM:Tok}{tMOST_ROUNDS_OF_FRACTIONS:Tok}{J4:Addr}{A2:Value}{A3 A4:Option Addr}{A5:Array (Option Value)}{A6 A7 A8 d0 A9:Value}{J5:Addr}{B0:Value}{B1 B2:Option Addr}{B3:Array (Option Value)}{B4 B5 B6 d1 B7:Value}{J6:Addr}{B8:Value}{B9 C0:Option Addr}{C1:Array (Option Value)}{C2 C3 C4 d2 C5:Value}{J7:Addr}{l7:Value}{l8 l9:Option Addr}{m0:Array (Option Value)}{m1 m2 m3 V m4:Value}{J8:Addr}{m5:Value}{m6 m7:Option Addr}{m8:Array (Option Value)}{m9 n0 n1 Y n2:Value}{J9:Addr}{n3:Value}{n4 n5:Option Addr}{n6:Array (Option Value)}{n7 n8 n9 Z o0:Value}{K0:Addr}{s1:Value}{s2 s3:Option Addr}{s4:Array (Option Value)}{s5 s6 s7 a2 s8:Value}{K1:Addr}{s9:Value}{t0 t1:Option Addr}{t2:Array (Option Value)}{t3 t4 t5 a3 t6:Value}{K2:Addr}{t7:Value}{t8 t9:Option Addr}{u0:Array (Option Value)}{u1 u2 u3 a4 u4:Value}{K3:Addr}{h8:Value}{h9 i0:Option Addr}{i1:Array (Option Value)}{i2 i3 i4 G i5:Value}{K4:Addr}{b0:Value}{b1 b2:Option Addr}{b3:Array (Option Value)}{b4 b5 b6 n b7:Value}{K7:Addr}{i6:Value}{i7 i8:Option Addr}{i9:Array (Option Value)}{j0 j1 j2 I j3:Value}{K9:Addr}{b8:Value}{b9 c0:Option Addr}{c1:Array (Option Value)}{c2 c3 c4 o c5:Value}{L0:Addr}{u5:Value}{u6 u7:Option Addr}{u8:Array (Option Value)}{u9 v0 v1 a5 v2:Value}{L1:Addr}{C6:Value}{C7 C8:Option Addr}{C9:Array (Option Value)}{D0 D1 D2 d3 D3:Value}{L2:Addr}{D4:Value}{D5 D6:Option Addr}{D7:Array (Option Value)}{D8 D9 E0 d4 E1:Value}{NB:Addr}{e0:Value}{e1 e2:Option Addr}{e3:Array (Option Value)}{e4 e5 e6 t e7:Value}{L3:Addr}{v3:Value}{v4 v5:Option Addr}{v6:Array (Option Value)}{v7 v8 v9 a6 w0:Value}{E2:Tok}{E3:Tok}{I2:Option Addr}{I3:Nat}{I4:Array (Option Value)}{I6:Tok}{I7:Tok}{J0:Option Addr}{J1:Nat}{J2:Array (Option Value)}{G3:Option Addr}{G4:Nat}{G5:Array (Option Value)}{L5:Int}{w1:Tok}{L6:Int}{w2:Tok}{L7:Int}{w3:Tok}{L8:Int}{w4:Tok}{L9:Int}{o1:Tok}{M0:Int}{o2:Tok}{M1:Int}{o3:Tok}{M2:Int}{o4:Tok}{M3:Int}{o5:Tok}{M4:Int}{j4:Tok}{I8:Nat}{j5:Tok}{j6:Tok}{w5:Option Addr}{w6:Nat}{w7:Array (Option Value)}{j7:Tok}{j8:Tok}{w8:Option Addr}{w9:Nat}{x0:Array (Option Value)}{j9:Tok}{k0:Tok}{x1:Option Addr}{x2:Nat}{x3:Array (Option Value)}{k1:Tok}{k2:Tok}{x4:Option Addr}{x5:Nat}{x6:Array (Option Value)}{g4:Tok}{g5:Tok}{o6:Option Addr}{o7:Nat}{o8:Array (Option Value)}{g6:Tok}{g7:Tok}{o9:Option Addr}{p0:Nat}{p1:Array (Option Value)}{g8:Tok}{g9:Tok}{p2:Option Addr}{p3:Nat}{p4:Array (Option Value)}{h0:Tok}{h1:Tok}{p5:Option Addr}{p6:Nat}{p7:Array (Option Value)}{h2:Tok}{h3:Tok}{p8:Option Addr}{p9:Nat}{q0:Array (Option Value)}{e8:Tok}{e9:Tok}{k3:Option Addr}{k4:Nat}{k5:Array (Option Value)}{M5:Int}{h4:Tok}{M6:Int}{h5:Tok}{M7:Int}{f0:Tok}{M8:Int}{f1:Tok}{M9:Int}{f2:Tok}{N0:Int}{f3:Tok}{N1:Int}{f4:Tok}{N2:Int}{c6:Tok}{G6:Nat}(pr:GU)(X:K.In R3)(p:R3.Ns Zi mg)(Np:ZA K Zi "BenchError"=some (some (.ref c9)))(Ly:ZA K Zi "NoNumber"=some (some (.ref l6)))(Mz:ZA K Zi "NoText"=some (some (.ref G2)))(Pb:ZA K Zi "NoTable"=some (some (.ref r7)))(OJ:ZA K Zi "NoBox"=some (some (.ref H9)))(MJ:ZA K Zi "NoRow"=some (some (.ref I0)))(Lx:ZA K Zi "Unknown"=some (some (.ref r8)))(Pa:ZA K Zi "NoBench"=some (some (.ref r9)))(NQ:ZA K Zi "Piece"=some (some (.ref I1)))(JW:ZA K Zi "Gap"=some (some (.ref k)))(Kq:ZA K Zi "Glass"=some (some (.ref b)))(Ky:ZA K Zi "Stop"=some (some (.ref d)))(Js:ZA K Zi "Reader"=some (some (.ref a)))(Jc:ZA K Zi "Desk"=some (some (.ref c)))(m_GAP:ZA K Zi "GAP"=some (some (.str "gap" tGAP)))(z_GAP:tGAP≠0)(m_GLASS:ZA K Zi "GLASS"=some (some (.str "glass" tGLASS)))(z_GLASS:tGLASS≠0)(m_STOP:ZA K Zi "STOP"=some (some (.str "stop" tSTOP)))(z_STOP:tSTOP≠0)(m_MOST_PIECES:ZA K Zi "MOST_PIECES"=some (some (.int 60 tMOST_PIECES)))(m_FIGURES:ZA K Zi "FIGURES"=some (some (.str "0123456789" tFIGURES)))(MN:tFIGURES≠0)(m_MOST_FIGURES:ZA K Zi "MOST_FIGURES"=some (some (.int 15 tMOST_FIGURES)))(m_PARTED:ZA K Zi "PARTED"=some (some (.str ";" tPARTED)))(z_PARTED:tPARTED≠0)(m_TIMES:ZA K Zi "TIMES"=some (some (.str "times" tTIMES)))(z_TIMES:tTIMES≠0)(MF:ZA K Zi "OPENED"=some (some (.str "(" tOPENED)))(O2:tOPENED≠0)(P0:ZA K Zi "CLOSED"=some (some (.str ")" tCLOSED)))(Mj:tCLOSED≠0)(Ox:ZA K Zi "MOST_TIMES"=some (some (.int 60 tMOST_TIMES)))(N7:ZA K Zi "MOST_DEEP"=some (some (.int 4 tMOST_DEEP)))(m_LETTERS:ZA K Zi "LETTERS"=some (some (.str "abcdefghijklmnopqrstuvwxyz" tLETTERS)))(Oi:tLETTERS≠0)(m_MOST_LETTERS:ZA K Zi "MOST_LETTERS"=some (some (.int 8 tMOST_LETTERS)))(m_DONE:ZA K Zi "DONE"=some (some (.str "ok" tDONE)))(z_DONE:tDONE≠0)(m_NONE:ZA K Zi "NONE"=some (some (.str "none" tNONE)))(z_NONE:tNONE≠0)(PQ:ZA K Zi "FROM"=some (some (.str "from" tFROM)))(NT:tFROM≠0)(m_MOST_ROUNDS_OF_FRACTIONS:ZA K Zi "MOST_ROUNDS_OF_FRACTIONS"=some (some (.int 6 tMOST_ROUNDS_OF_FRACTIONS)))(x7:UM K k jA=true)(x8:UO K k=true)(x9:JE K k=true)(y0:Zu K (.ref k) "__setattr__"=some (some (.builtin "object.__setattr__")))(E4:QU K k=true)(G7:Zu K (.ref k) "__init__"=some (some (.ref J4)))(E5:Wj K (.ref J4)=true)(E6:YE K (.ref k)=true)(G8:K.lookup J4=some ⟨A2,A3,.func (YN "__init__" "Gap.__init__" (defArgs Kc) (defBody Kc) (defScope Kc) .none A6 A7 A8 A4 d0 A9),A5⟩)(N3:YY K d0 "Gap.__init__"=true)(E7:YE K (.ref J4)=true)(G9:Zu K (.ref k) "lets"=some (some (.ref J5)))(E8:Wj K (.ref J5)=true)(d5:YE K (.ref J5)=true)(H0:K.lookup J5=some ⟨B0,B1,.func (YN "lets" "Piece.lets" (defArgs Fy) (defBody Fy) (defScope Fy) .none B4 B5 B6 B2 d1 B7),B3⟩)(N4:YY K d1 "Piece.lets"=true)(H1:Zu K (.ref k) "bent"=some (some (.ref J6)))(E9:Wj K (.ref J6)=true)(d6:YE K (.ref J6)=true)(H2:K.lookup J6=some ⟨B8,B9,.func (YN "bent" "Gap.bent" (defArgs K6) (defBody K6) (defScope K6) .none C2 C3 C4 C0 d2 C5),C1⟩)(N5:YY K d2 "Gap.bent"=true)(n_Gap_length:Zu K (.ref k) "length"=some none)(f5:UM K b jA=true)(f6:UO K b=true)(f7:JE K b=true)(f8:Zu K (.ref b) "__setattr__"=some (some (.builtin "object.__setattr__")))(q1:QU K b=true)(y1:Zu K (.ref b) "__init__"=some (some (.ref J7)))(q2:Wj K (.ref J7)=true)(q3:YE K (.ref b)=true)(y2:K.lookup J7=some ⟨l7,l8,.func (YN "__init__" "Glass.__init__" (defArgs Ks) (defBody Ks) (defScope Ks) .none m1 m2 m3 l9 V m4),m0⟩)(N6:YY K V "Glass.__init__"=true)(q4:YE K (.ref J7)=true)(y3:Zu K (.ref b) "lets"=some (some (.ref J8)))(q5:Wj K (.ref J8)=true)(a0:YE K (.ref J8)=true)(y4:K.lookup J8=some ⟨m5,m6,.func (YN "lets" "Piece.lets" (defArgs Fy) (defBody Fy) (defScope Fy) .none m9 n0 n1 m7 Y n2),m8⟩)(N8:YY K Y "Piece.lets"=true)(y5:Zu K (.ref b) "bent"=some (some (.ref J9)))(q6:Wj K (.ref J9)=true)(a1:YE K (.ref J9)=true)(y6:K.lookup J9=some ⟨n3,n4,.func (YN "bent" "Glass.bent" (defArgs JS) (defBody JS) (defScope JS) .none n7 n8 n9 n5 Z o0),n6⟩)(N9:YY K Z "Glass.bent"=true)(n_Glass_strength:Zu K (.ref b) "strength"=some none)(k6:UM K d jA=true)(k7:UO K d=true)(k8:JE K d=true)(k9:Zu K (.ref d) "__setattr__"=some (some (.builtin "object.__setattr__")))(y7:QU K d=true)(F0:Zu K (.ref d) "__init__"=some (some (.ref K0)))(y8:Wj K (.ref K0)=true)(y9:YE K (.ref d)=true)(F1:K.lookup K0=some ⟨s1,s2,.func (YN "__init__" "Stop.__init__" (defArgs LK) (defBody LK) (defScope LK) .none s5 s6 s7 s3 a2 s8),s4⟩)(O0:YY K a2 "Stop.__init__"=true)(z0:YE K (.ref K0)=true)(F2:Zu K (.ref d) "lets"=some (some (.ref K1)))(z1:Wj K (.ref K1)=true)(a7:YE K (.ref K1)=true)(F3:K.lookup K1=some ⟨s9,t0,.func (YN "lets" "Stop.lets" (defArgs La) (defBody La) (defScope La) .none t3 t4 t5 t1 a3 t6),t2⟩)(O1:YY K a3 "Stop.lets"=true)(F4:Zu K (.ref d) "bent"=some (some (.ref K2)))(z2:Wj K (.ref K2)=true)(a8:YE K (.ref K2)=true)(F5:K.lookup K2=some ⟨t7,t8,.func (YN "bent" "Piece.bent" (defArgs Kv) (defBody Kv) (defScope Kv) .none u1 u2 u3 t9 a4 u4),u0⟩)(O3:YY K a4 "Piece.bent"=true)(n_Stop_low:Zu K (.ref d) "low"=some none)(n_Stop_high:Zu K (.ref d) "high"=some none)(v:UM K a jA=true)(x:UO K a=true)(y:JE K a=true)(z:Zu K (.ref a) "__setattr__"=some (some (.builtin "object.__setattr__")))(l0:QU K a=true)(q7:Zu K (.ref a) "__init__"=some (some (.ref K3)))(l1:Wj K (.ref K3)=true)(l2:YE K (.ref a)=true)(q8:K.lookup K3=some ⟨h8,h9,.func (YN "__init__" "Reader.__init__" (defArgs Ka) (defBody Ka) (defScope Ka) .none i2 i3 i4 i0 G i5),i1⟩)(O4:YY K G "Reader.__init__"=true)(l3:YE K (.ref K3)=true)(f9:Zu K (.ref a) "is_done"=some (some (.ref K4)))(c7:Wj K (.ref K4)=true)(q:YE K (.ref K4)=true)(g0:K.lookup K4=some ⟨b0,b1,.func (YN "is_done" "Reader.is_done" (defArgs Jf) (defBody Jf) (defScope Jf) .none b4 b5 b6 b2 n b7),b3⟩)(O5:YY K n "Reader.is_done"=true)(q9:Zu K (.ref a) "take"=some (some (.ref K7)))(l4:Wj K (.ref K7)=true)(J:YE K (.ref K7)=true)(r0:K.lookup K7=some ⟨i6,i7,.func (YN "take" "Reader.take" (defArgs Ja) (defBody Ja) (defScope Ja) .none j0 j1 j2 i8 I j3),i9⟩)(O6:YY K I "Reader.take"=true)(g1:Zu K (.ref a) "take_if"=some (some (.ref K9)))(c8:Wj K (.ref K9)=true)(r:YE K (.ref K9)=true)(g2:K.lookup K9=some ⟨b8,b9,.func (YN "take_if" "Reader.take_if" (defArgs K5) (defBody K5) (defScope K5) .none c2 c3 c4 c0 o c5),c1⟩)(O7:YY K o "Reader.take_if"=true)(n_Reader_words:Zu K (.ref a) "words"=some none)(n_Reader_place:Zu K (.ref a) "place"=some none)(L:UM K c jA=true)(M:UO K c=true)(N:JE K c=true)(O:Zu K (.ref c) "__setattr__"=some (some (.builtin "object.__setattr__")))(z3:QU K c=true)(F6:Zu K (.ref c) "__init__"=some (some (.ref L0)))(z4:Wj K (.ref L0)=true)(z5:YE K (.ref c)=true)(F7:K.lookup L0=some ⟨u5,u6,.func (YN "__init__" "Desk.__init__" (defArgs Jm) (defBody Jm) (defScope Jm) .none u9 v0 v1 u7 a5 v2),u8⟩)(O8:YY K a5 "Desk.__init__"=true)(z6:YE K (.ref L0)=true)(H3:Zu K (.ref c) "say"=some (some (.ref L1)))(F8:Wj K (.ref L1)=true)(d7:YE K (.ref L1)=true)(H4:K.lookup L1=some ⟨C6,C7,.func (YN "say" "Desk.say" (defArgs Kf) (defBody Kf) (defScope Kf) .none D0 D1 D2 C8 d3 D3),C9⟩)(O9:YY K d3 "Desk.say"=true)(H5:Zu K (.ref c) "lay"=some (some (.ref L2)))(F9:Wj K (.ref L2)=true)(d8:YE K (.ref L2)=true)(H6:K.lookup L2=some ⟨D4,D5,.func (YN "lay" "Desk.lay" (defArgs Jo) (defBody Jo) (defScope Jo) .none D8 D9 E0 D6 d4 E1),D7⟩)(P1:YY K d4 "Desk.lay"=true)(h6:Zu K (.ref c) "bench_by"=some (some (.ref NB)))(g3:Wj K (.ref NB)=true)(u:YE K (.ref NB)=true)(h7:K.lookup NB=some ⟨e0,e1,.func (YN "bench_by" "Desk.bench_by" (defArgs K8) (defBody K8) (defScope K8) .none e4 e5 e6 e2 t e7),e3⟩)(P2:YY K t "Desk.bench_by"=true)(G0:Zu K (.ref c) "keep"=some (some (.ref L3)))(z7:Wj K (.ref L3)=true)(a9:YE K (.ref L3)=true)(G1:K.lookup L3=some ⟨v3,v4,.func (YN "keep" "Desk.keep" (defArgs Kr) (defBody Kr) (defScope Kr) .none v7 v8 v9 v5 a6 w0),v6⟩)(P3:YY K a6 "Desk.keep"=true)(n_Desk_benches:Zu K (.ref c) "benches"=some none)(m_NOUGHT:ZA K Zi "NOUGHT"=some (some (.ref F)))(I5:K.lookup F=some ⟨.type "tuple",I2,.seq #[.int 0 E2,.int 1 E3] I3,I4⟩)(m_ONE:ZA K Zi "ONE"=some (some (.ref s0)))(J3:K.lookup s0=some ⟨.type "tuple",J0,.seq #[.int 1 I6,.int 1 I7] J1,J2⟩)(m_LEAVING:ZA K Zi "LEAVING"=some (some (.ref d9)))(H7:K.lookup d9=some ⟨.type "tuple",G3,.seq #[.ref s0,.ref F,.ref F,.ref s0] G4,G5⟩)(m_ROWS:ZA K Zi "ROWS"=some (some (.ref r6)))(I9:K.lookup r6=some ⟨.type "dict",none,.dict #[⟨L5,.str "join" w1,.ref Q⟩,⟨L6,.str "turn" w2,.ref R⟩,⟨L7,.str "show" w3,.ref S⟩,⟨L8,.str "walk" w4,.ref T⟩,⟨L9,.str "table" o1,.ref A⟩,⟨M0,.str "apart" o2,.ref B⟩,⟨M1,.str "image" o3,.ref C⟩,⟨M2,.str "field" o4,.ref D⟩,⟨M3,.str "sharp" o5,.ref E⟩,⟨M4,.str "rounds" j4,.ref s⟩] I8,#[]⟩)(P4:L5=DG pr "join")(P5:L6=DG pr "turn")(P6:L7=DG pr "show")(P7:L8=DG pr "walk")(P8:L9=DG pr "table")(P9:M0=DG pr "apart")(Q0:M1=DG pr "image")(Q1:M2=DG pr "field")(Q2:M3=DG pr "sharp")(Q3:M4=DG pr "rounds")(Q4:(r6 == JY)=false)(z8:K.lookup Q=some ⟨.type "tuple",w5,.seq #[.int 3 j5,.int 0 j6] w6,w7⟩)(z9:K.lookup R=some ⟨.type "tuple",w8,.seq #[.int 2 j7,.int 0 j8] w9,x0⟩)(A0:K.lookup S=some ⟨.type "tuple",x1,.seq #[.int 1 j9,.int 0 k0] x2,x3⟩)(A1:K.lookup T=some ⟨.type "tuple",x4,.seq #[.int 1 k1,.int 2 k2] x5,x6⟩)(r1:K.lookup A=some ⟨.type "tuple",o6,.seq #[.int 1 g4,.int 0 g5] o7,o8⟩)(r2:K.lookup B=some ⟨.type "tuple",o9,.seq #[.int 1 g6,.int 0 g7] p0,p1⟩)(r3:K.lookup C=some ⟨.type "tuple",p2,.seq #[.int 1 g8,.int 1 g9] p3,p4⟩)(r4:K.lookup D=some ⟨.type "tuple",p5,.seq #[.int 1 h0,.int 4 h1] p6,p7⟩)(r5:K.lookup E=some ⟨.type "tuple",p8,.seq #[.int 1 h2,.int 5 h3] p9,q0⟩)(l5:K.lookup s=some ⟨.type "tuple",k3,.seq #[.int 1 e8,.int 0 e9] k4,k5⟩)(m_ANSWERS:ZA K Zi "ANSWERS"=some (some (.ref U)))(Lq:ZA K Zi "show_answer"=some (some (.ref l)))(f_ANSWERS_walk:ZA K Zi "walk_answer"=some (some (.ref m)))(f_ANSWERS_table:ZA K Zi "table_answer"=some (some (.ref f)))(f_ANSWERS_apart:ZA K Zi "apart_answer"=some (some (.ref g)))(f_ANSWERS_image:ZA K Zi "image_answer"=some (some (.ref h)))(Pn:ZA K Zi "field_answer"=some (some (.ref i)))(MK:ZA K Zi "sharp_answer"=some (some (.ref j)))(f_ANSWERS_rounds:ZA K Zi "rounds_answer"=some (some (.ref e)))(H8:K.lookup U=some ⟨.type "dict",none,.dict #[⟨M5,.str "show" h4,.ref l⟩,⟨M6,.str "walk" h5,.ref m⟩,⟨M7,.str "table" f0,.ref f⟩,⟨M8,.str "apart" f1,.ref g⟩,⟨M9,.str "image" f2,.ref h⟩,⟨N0,.str "field" f3,.ref i⟩,⟨N1,.str "sharp" f4,.ref j⟩,⟨N2,.str "rounds" c6,.ref e⟩] G6,#[]⟩)(Q5:M5=DG pr "show")(Rn:M6=DG pr "walk")(Q6:M7=DG pr "table")(Q7:M8=DG pr "apart")(Q8:M9=DG pr "image")(Q9:N0=DG pr "field")(R0:N1=DG pr "sharp")(R1:N2=DG pr "rounds")(R2:(U == JY)=false):Exc K mg ⟨0,c9,l6,G2,r7,H9,I0,r8,r9,I1,k,b,d,a,c,F,s0,d9,r6,Q,R,S,T,A,B,C,D,E,s,U,l,m,f,g,h,i,j,e,tGAP,tGLASS,tSTOP,tMOST_PIECES,tFIGURES,tMOST_FIGURES,tPARTED,tTIMES,tOPENED,tCLOSED,tMOST_TIMES,tMOST_DEEP,tLETTERS,tMOST_LETTERS,tDONE,tNONE,tFROM,tMOST_ROUNDS_OF_FRACTIONS,pr⟩:=⟨trivial,U2 X p Np,U2 X p Ly,U2 X p Mz,U2 X p Pb,U2 X p OJ,U2 X p MJ,U2 X p Lx,U2 X p Pa,U2 X p NQ,U2 X p JW,U2 X p Kq,U2 X p Ky,U2 X p Js,U2 X p Jc,U2 X p m_GAP,z_GAP,U2 X p m_GLASS,z_GLASS,U2 X p m_STOP,z_STOP,U2 X p m_MOST_PIECES,U2 X p m_FIGURES,MN,U2 X p m_MOST_FIGURES,U2 X p m_PARTED,z_PARTED,U2 X p m_TIMES,z_TIMES,U2 X p MF,O2,U2 X p P0,Mj,U2 X p Ox,U2 X p N7,U2 X p m_LETTERS,Oi,U2 X p m_MOST_LETTERS,U2 X p m_DONE,z_DONE,U2 X p m_NONE,z_NONE,U2 X p PQ,NT,U2 X p m_MOST_ROUNDS_OF_FRACTIONS,⟨x7,x8,x9,y0⟩,⟨⟨_,_,DW G8 N3 E7,⟨E4,G7,E5,E6⟩⟩,U2 X p JW⟩,⟨⟨_,_,DW H0 N4 d5,⟨G9,E8,d5⟩⟩,⟨x7,x8,x9,y0⟩⟩,⟨⟨_,_,DW H2 N5 d6,⟨H1,E9,d6⟩⟩,⟨x7,x8,x9,y0⟩⟩,n_Gap_length,⟨f5,f6,f7,f8⟩,⟨⟨_,_,DW y2 N6 q4,⟨q1,y1,q2,q3⟩⟩,U2 X p Kq⟩,⟨⟨_,_,DW y4 N8 a0,⟨y3,q5,a0⟩⟩,⟨f5,f6,f7,f8⟩⟩,⟨⟨_,_,DW y6 N9 a1,⟨y5,q6,a1⟩⟩,⟨f5,f6,f7,f8⟩⟩,n_Glass_strength,⟨k6,k7,k8,k9⟩,⟨⟨_,_,DW F1 O0 z0,⟨y7,F0,y8,y9⟩⟩,U2 X p Ky⟩,⟨⟨_,_,DW F3 O1 a7,⟨F2,z1,a7⟩⟩,⟨k6,k7,k8,k9⟩⟩,⟨⟨_,_,DW F5 O3 a8,⟨F4,z2,a8⟩⟩,⟨k6,k7,k8,k9⟩⟩,n_Stop_low,n_Stop_high,⟨v,x,y,z⟩,⟨⟨_,_,DW q8 O4 l3,⟨l0,q7,l1,l2⟩⟩,U2 X p Js⟩,⟨⟨_,_,DW g0 O5 q,⟨f9,c7,q⟩⟩,⟨v,x,y,z⟩⟩,⟨⟨_,_,DW r0 O6 J,⟨q9,l4,J⟩⟩,⟨v,x,y,z⟩⟩,⟨⟨_,_,DW g2 O7 r,⟨g1,c8,r⟩⟩,⟨v,x,y,z⟩⟩,n_Reader_words,n_Reader_place,⟨L,M,N,O⟩,⟨⟨_,_,DW F7 O8 z6,⟨z3,F6,z4,z5⟩⟩,U2 X p Jc⟩,⟨⟨_,_,DW H4 O9 d7,⟨H3,F8,d7⟩⟩,⟨L,M,N,O⟩⟩,⟨⟨_,_,DW H6 P1 d8,⟨H5,F9,d8⟩⟩,⟨L,M,N,O⟩⟩,⟨⟨_,_,DW h7 P2 u,⟨h6,g3,u⟩⟩,⟨L,M,N,O⟩⟩,⟨⟨_,_,DW G1 P3 a9,⟨G0,z7,a9⟩⟩,⟨L,M,N,O⟩⟩,n_Desk_benches,U2 X p m_NOUGHT,λ H=>.inr ⟨_,_,_,I5,rfl,rfl,by show 2<=Y7;decide,(.cons ⟨_,rfl⟩ (.cons ⟨_,rfl⟩ .nil))⟩,U2 X p m_ONE,λ H=>.inr ⟨_,_,_,J3,rfl,rfl,by show 2<=Y7;decide,(.cons ⟨_,rfl⟩ (.cons ⟨_,rfl⟩ .nil))⟩,U2 X p m_LEAVING,λ H=>.inr ⟨_,_,_,H7,rfl,rfl,by show 4<=Y7;decide,(.cons rfl (.cons rfl (.cons rfl (.cons rfl .nil))))⟩,U2 X p m_ROWS,λ P w L4=>gJ L4 I9 (.cons P4 rfl rfl (.cons P5 rfl rfl (.cons P6 rfl rfl (.cons P7 rfl rfl (.cons P8 rfl rfl (.cons P9 rfl rfl (.cons Q0 rfl rfl (.cons Q1 rfl rfl (.cons Q2 rfl rfl (.cons Q3 rfl rfl .nil)))))))))) (show Uz [("join":Str),("turn":Str),("show":Str),("walk":Str),("table":Str),("apart":Str),("image":Str),("field":Str),("sharp":Str),("rounds":Str)] by decide+kernel) Q4,λ H=>.inr ⟨_,_,_,z8,rfl,rfl,by show 2<=Y7;decide,(.cons ⟨_,rfl⟩ (.cons ⟨_,rfl⟩ .nil))⟩,λ H=>.inr ⟨_,_,_,z9,rfl,rfl,by show 2<=Y7;decide,(.cons ⟨_,rfl⟩ (.cons ⟨_,rfl⟩ .nil))⟩,λ H=>.inr ⟨_,_,_,A0,rfl,rfl,by show 2<=Y7;decide,(.cons ⟨_,rfl⟩ (.cons ⟨_,rfl⟩ .nil))⟩,λ H=>.inr ⟨_,_,_,A1,rfl,rfl,by show 2<=Y7;decide,(.cons ⟨_,rfl⟩ (.cons ⟨_,rfl⟩ .nil))⟩,λ H=>.inr ⟨_,_,_,r1,rfl,rfl,by show 2<=Y7;decide,(.cons ⟨_,rfl⟩ (.cons ⟨_,rfl⟩ .nil))⟩,λ H=>.inr ⟨_,_,_,r2,rfl,rfl,by show 2<=Y7;decide,(.cons ⟨_,rfl⟩ (.cons ⟨_,rfl⟩ .nil))⟩,λ H=>.inr ⟨_,_,_,r3,rfl,rfl,by show 2<=Y7;decide,(.cons ⟨_,rfl⟩ (.cons ⟨_,rfl⟩ .nil))⟩,λ H=>.inr ⟨_,_,_,r4,rfl,rfl,by show 2<=Y7;decide,(.cons ⟨_,rfl⟩ (.cons ⟨_,rfl⟩ .nil))⟩,λ H=>.inr ⟨_,_,_,r5,rfl,rfl,by show 2<=Y7;decide,(.cons ⟨_,rfl⟩ (.cons ⟨_,rfl⟩ .nil))⟩,λ H=>.inr ⟨_,_,_,l5,rfl,rfl,by show 2<=Y7;decide,(.cons ⟨_,rfl⟩ (.cons ⟨_,rfl⟩ .nil))⟩,U2 X p m_ANSWERS,U2 X p Lq,U2 X p f_ANSWERS_walk,U2 X p f_ANSWERS_table,U2 X p f_ANSWERS_apart,U2 X p f_ANSWERS_image,U2 X p Pn,U2 X p MK,U2 X p f_ANSWERS_rounds,λ P w L4=>gJ L4 H8 (.cons Q5 rfl rfl (.cons Rn rfl rfl (.cons Q6 rfl rfl (.cons Q7 rfl rfl (.cons Q8 rfl rfl (.cons Q9 rfl rfl (.cons R0 rfl rfl (.cons R1 rfl rfl .nil)))))))) (show Uz [("show":Str),("walk":Str),("table":Str),("apart":Str),("image":Str),("field":Str),("sharp":Str),("rounds":Str)] by decide+kernel) R2⟩
section
variable {P:ZY}{w:World}{K:FrG}{mg:Str->Option Value}{base:Heap}{ad:Adr}{c:Bool}
theorem Z3 (T:Txt K mg ad):CalB P w K mg base true 1 "is_whole" ["thing"] (pU K):=by
 refine T.UV.calN AI3 (λ _ _ _ _ _ _=>Bl λ _=>rfl) (λ vs H Q E h=>?_) (λ f k A outer s H vs Q E l h=>?_)
 ·obtain ⟨v,d,rfl,_⟩:=h;rfl
 obtain ⟨v,d,rfl,hv,q⟩:=h;obtain ⟨b,a,i,j,e⟩:=xj d;refine ⟨_,(Af (Am (Ib (Be Ed rfl T.isinstance Dy (Ac (pv 0) (Ac (Ec (v:=.ty "int") rfl T.int Gs rfl) Aa))) (Ik (NP (Be Ed rfl T.isinstance Dy (Ac (pv 0) (Ac (Ec (v:=.ty "bool") rfl T.bool zj rfl) Aa)))))))),?_⟩;refine ⟨_,rfl,_,_,_,b,rfl,hv,i,_,rfl,?_⟩;cases b with
 | false=>
  have g:Le d=false:=e.symm;rw [g] at q;exact iteF q
 | true=>
  refine iteT ?_;refine ⟨_,rfl,_,_,_,a,rfl,hv,j,_,rfl,?_⟩;have g:(!a)=Le d:=e;show Q (.bl (!a)) H;rw [g];exact q
theorem Xi (T:Txt K mg ad):CalB P w K mg base true 1 "common_divisor" ["one","other"] zK:=by
 refine T.Vk.calN I9 (λ _ _ _ _ _ _=>Ba λ _ _=>rfl) (λ vs H Q E j=>?_) (λ f v A outer s H vs Q E x j=>?_)
 ·obtain ⟨a,b,rfl,_⟩:=j;rfl
 obtain ⟨a,b,rfl,q⟩:=j;refine ⟨_,(Ae (Ar (i:=2) I9.nd (Be Iw rfl T.abs Iz (Ac (pv 0) Aa))) (Ae (Ar (i:=3) I9.nd (Be Iw rfl T.abs Iz (Ac (pv 1) Aa))) (Ae (Jj Xs (Az Dk (pv 3) Ab) (Ae (Ar (i:=4) I9.nd (Ak DR (pv 2) (pv 3))) (Ae (Ar (i:=2) I9.nd (pv 3)) (Af (Ar (i:=3) I9.nd (pv 4)))))) (Af (Am (pv 2)))))),?_⟩;refine ⟨_,rfl,_,rfl,_,rfl,_,rfl,?_⟩;have l:=Fr.Oj a;have o:=Fr.Oj b;refine ⟨λ k p d=>H=d/\∃(m:Nat) (r:Option V),p=[some (.int a),some (.int b),some (.int m),some (.int k),r]/\GA m k=GA a.natAbs b.natAbs,⟨b.natAbs,rfl,a.natAbs,none,by rw [<- l,<- o];rfl,rfl⟩,?_⟩
 rintro n _ _ ⟨rfl,m,r,rfl,e⟩
 refine ⟨_,rfl,rfl,_,rfl,?_⟩;refine ite2 (λ c=>?_) (λ c=>?_)
 ·have g:n≠0:=by
   intro t;subst t;simp at c
  have u:(m:Int) % (n:Int)=((m % n:Nat):Int):=(Fh m n).symm;refine ⟨λ h d=>H=d/\h=[some (.int a),some (.int b),some (.int n),some (.int ((m:Int) % (n:Int))),some (.int ((m:Int) % (n:Int)))],?_,?_⟩
  ·rintro _ _ ⟨rfl,rfl⟩
   rw [u];exact ⟨m % n,Mo _ (by omega),rfl,n,_,rfl,by rw [Fr.ZF,e]⟩
  ·exact ⟨_,rfl,_,rfl,_,_,rfl,rfl,(by show (0:Int) < (n:Int);omega),_,rfl,_,rfl,rfl,rfl⟩
 ·have g:n=0:=by
   by_cases t:n=0
   ·exact t
   ·exfalso
    apply c
    rw [EY];simp
    omega
  subst g;refine ⟨_,rfl,?_⟩;have e2:(m:Int)=Fr.gcd a b:=by
   unfold Fr.gcd;rw [<- e,Nat.gcd_zero_right]
  rw [e2];exact q
theorem Sw (T:Txt K mg ad):CalB P w K mg base true 2 "is_ratio" ["thing"] (zr K):=by
 refine T.SN.calN QM (λ _ _ _ _ _ _=>Bl λ _=>rfl) (λ vs H Q E g=>?_) (λ f h A outer s H vs Q E d g=>?_)
 ·obtain ⟨_,_,rfl,_⟩:=g;rfl
 obtain ⟨v,b,rfl,hv,q⟩:=g;obtain ⟨a,rfl,e⟩:=hv.fr;refine ⟨_,(Ae (Aw (PW.pt (pw_or (Bt (Bj (Be Ed rfl T.isinstance Dy (Ac (pv 0) (Ac (Ec (v:=.ty "tuple") rfl T.tuple Rh rfl) Aa))))) (pw_or1 (Az Dk (Be Cp rfl T.len Ce (Ac (pv 0) Aa)) Ab)))) (Af (Am CQ)) Ax) (Ae (Ar (i:=1) QM.nd (Ad ix_tup (pv 0) Ab)) (Ae (Ar (i:=2) QM.nd (Ad ix_tup (pv 0) Ab)) (Ae (Aw (PW.pt (pw_or (Bt (Bj (Ah (Z3 T) d.m Ag (Ac (pv 1) Aa)))) (pw_or1 (Bt (Bj (Ah (Z3 T) d.m Ag (Ac (pv 2) Aa))))))) (Af (Am CQ)) Ax) (Af (Am (Ib (Dq dX (pv 2) Ab) (Ik (Dq Bp (Ah (Xi T) d.m Ag (Ac (pv 1) (Ac (pv 2) Aa))) Ab))))))))),?_⟩
 refine ⟨_,rfl,_,_,_,_,rfl,hv,WX _,_,rfl,iteF ?_⟩;refine ⟨_,rfl,a,_,rfl,.inr e,rfl,_,rfl,iteF ?_⟩;refine ⟨_,rfl,a,_,_,_,rfl,rfl,e,rfl,?_⟩;refine ⟨_,rfl,a,_,_,_,rfl,rfl,e,rfl,?_⟩;refine ⟨_,rfl,_,_,rfl,.int _,_,rfl,iteF ?_⟩;refine ⟨_,rfl,_,_,rfl,.int _,_,rfl,iteF ?_⟩;refine ⟨_,rfl,_,_,rfl,rfl,_,rfl,Bg (decide_eq_true (Il b)) ⟨_,rfl,_,rfl,_,_,rfl,rfl,?_⟩⟩;show Q (.bl (decide (V.int (Fr.gcd b.num (b.den:Int))=V.int 1))) H;rw [EY,decide_eq_true (rW b)];exact q
theorem Ow (T:Txt K mg ad):CalB P w K mg base true 2 "ratio_of" ["top","bottom"] uB:=by
 refine T.T9.calN Rp (λ _ _ _ _ _ _=>Ba λ _ _=>rfl) (λ vs H Q E u=>?_) (λ f z A outer s H vs Q E j u=>?_)
 ·obtain ⟨x,y,rfl,_⟩:=u;rfl
 obtain ⟨a,b,rfl,g,bs,q⟩:=u;refine ⟨_,(Ae (Aw (PW.pt (pw_or (Bt (Bj (Ah (Z3 T) j.m Ag (Ac (pv 0) Aa)))) (pw_or (Bt (Bj (Ah (Z3 T) j.m Ag (Ac (pv 1) Aa)))) (pw_or1 (Az Bp (pv 1) Ab))))) (Af Cj) Ax) (Ae (Ar (i:=2) Rp.nd (Ah (Xi T) j.m Ag (Ac (pv 0) (Ac (pv 1) Aa)))) (Ae (Aw (Az Fi (pv 1) Ab) (Af (Ar (i:=2) Rp.nd (Ak Ex Ab (pv 2)))) Ax) (Af (Am (Bk (Bf (Ak Oe (pv 0) (pv 2)) (Bf (Ak Oe (pv 1) (pv 2)) Aa)))))))),?_⟩
 refine ⟨_,rfl,_,_,rfl,.int a,_,rfl,?_⟩;refine iteF ?_;refine ⟨_,rfl,_,_,rfl,.int b,_,rfl,?_⟩;refine iteF ?_;refine ⟨_,rfl,rfl,_,rfl,?_⟩;refine ite2 (λ t=>?_) (λ _=>?_)
 ·exfalso;rw [EY] at t;exact g (of_decide_eq_true t)
 refine ⟨_,rfl,_,rfl,a,b,rfl,?_⟩;have B:=Fr.aA (a:=a) g;have C:=Fr.eG a b;have o:∀h:Int,h.natAbs=(Fr.gcd a b).natAbs->h.natAbs.log2 < 9000:=λ h r=>by
  have v:h.natAbs < lim:=by omega
  exact Yu v
 have d:∀h:Int,h=Fr.sg a b->Vl a h/\Vl b h:=λ h r=>by
  subst r;exact ⟨⟨Fr.JD g,o _ Fr.Wy⟩,⟨Fr.JD g,o _ Fr.Wy⟩⟩
 refine ⟨_,rfl,_,_,rfl,rfl,_,rfl,?_⟩;refine ite2 (λ k=>?_) (λ k=>?_)
 ·have l:b < 0:=of_decide_eq_true k;have e:(0:Int) - Fr.gcd a b=Fr.sg a b:=by
   unfold Fr.sg;rw [if_pos l]
  refine ⟨_,rfl,_,_,rfl,rfl,?_⟩;refine ⟨_,rfl,_,rfl,_,_,rfl,rfl,(d _ e).1,_,rfl,_,rfl,_,_,rfl,rfl,(d _ e).2,(by show 2<=Y7;decide),λ p n=>?_⟩
  rw [e];exact q p n
 ·have l:¬ b < 0:=λ t=>k (decide_eq_true t)
  have e:Fr.gcd a b=Fr.sg a b:=by
   unfold Fr.sg;rw [if_neg l]
  refine ⟨_,rfl,_,rfl,_,_,rfl,rfl,(d _ e).1,_,rfl,_,rfl,_,_,rfl,rfl,(d _ e).2,(by show 2<=Y7;decide),λ p n=>?_⟩
  rw [e];exact q p n
theorem V5 (T:Txt K mg ad):CalB P w K mg base true 3 "sum_of" ["one","other"] (PR K (IV λ p q=>p+q)):=by
 refine T.XJ.calN lR (λ _ _ _ _ _ _=>Ba λ _ _=>rfl) (λ vs H Q E j=>?_) (λ f u A outer s H vs Q E g j=>?_)
 ·obtain ⟨_,_,dv,⟨_,_,rfl,_⟩,_⟩:=j;exact dv.len
 obtain ⟨_,_,dv,⟨p,q,rfl,sp,d,rfl⟩,k⟩:=j;obtain ⟨_,_,rfl,l,o⟩:=dv.two;obtain ⟨a,rfl,h⟩:=l.fr;obtain ⟨b,rfl,i⟩:=o.fr;refine ⟨_,(Af (Am (Ah (Ow T) g.m Ag (Bf (Ak CJ (Ak Cq (Ad ix_tup (pv 0) Ab) (Ad ix_tup (pv 1) Ab)) (Ak Cq (Ad ix_tup (pv 1) Ab) (Ad ix_tup (pv 0) Ab))) (Bf (Ak Cq (Ad ix_tup (pv 0) Ab) (Ad ix_tup (pv 1) Ab)) Aa))))),?_⟩
 refine ⟨_,rfl,a,_,_,_,rfl,rfl,h,rfl,_,rfl,b,_,_,_,rfl,rfl,i,rfl,_,_,rfl,rfl,Cv sp.n d.dn,?_⟩;refine ⟨_,rfl,b,_,_,_,rfl,rfl,i,rfl,_,rfl,a,_,_,_,rfl,rfl,h,rfl,_,_,rfl,rfl,Cv d.n sp.dn,_,_,rfl,rfl,?_⟩;refine ⟨_,rfl,a,_,_,_,rfl,rfl,h,rfl,_,rfl,b,_,_,_,rfl,rfl,i,rfl,_,_,rfl,rfl,Cv sp.dn d.dn,?_⟩;refine ⟨_,_,rfl,Gj p q,Gz sp.dn d.dn,λ r g=>k _ _ (Aj g _) ?_⟩
 have e:=Fw (K:=K) (H:=H) (t:=p.num * (q.den:Int)+q.num * (p.den:Int)) (b:=(p.den:Int) * (q.den:Int)) (p:=r) (Gj p q);rw [Fr.Xe] at e;exact e
theorem KJ (T:Txt K mg ad):CalB P w K mg base true 3 "less_by" ["one","other"] (PR K (IV λ p q=>p - q)):=by
 refine T.Pz.calN vh (λ _ _ _ _ _ _=>Ba λ _ _=>rfl) (λ vs H Q E j=>?_) (λ f u A outer s H vs Q E g j=>?_)
 ·obtain ⟨_,_,dv,⟨_,_,rfl,_⟩,_⟩:=j;exact dv.len
 obtain ⟨_,_,dv,⟨p,q,rfl,sp,d,rfl⟩,k⟩:=j;obtain ⟨_,_,rfl,l,o⟩:=dv.two;obtain ⟨a,rfl,h⟩:=l.fr;obtain ⟨b,rfl,i⟩:=o.fr;refine ⟨_,(Af (Am (Ah (Ow T) g.m Ag (Bf (Ak Ex (Ak Cq (Ad ix_tup (pv 0) Ab) (Ad ix_tup (pv 1) Ab)) (Ak Cq (Ad ix_tup (pv 1) Ab) (Ad ix_tup (pv 0) Ab))) (Bf (Ak Cq (Ad ix_tup (pv 0) Ab) (Ad ix_tup (pv 1) Ab)) Aa))))),?_⟩
 refine ⟨_,rfl,a,_,_,_,rfl,rfl,h,rfl,_,rfl,b,_,_,_,rfl,rfl,i,rfl,_,_,rfl,rfl,Cv sp.n d.dn,?_⟩;refine ⟨_,rfl,b,_,_,_,rfl,rfl,i,rfl,_,rfl,a,_,_,_,rfl,rfl,h,rfl,_,_,rfl,rfl,Cv d.n sp.dn,_,_,rfl,rfl,?_⟩;refine ⟨_,rfl,a,_,_,_,rfl,rfl,h,rfl,_,rfl,b,_,_,_,rfl,rfl,i,rfl,_,_,rfl,rfl,Cv sp.dn d.dn,?_⟩;refine ⟨_,_,rfl,Gj p q,Gz sp.dn d.dn,λ r g=>k _ _ (Aj g _) ?_⟩
 have e:=Fw (K:=K) (H:=H) (t:=p.num * (q.den:Int) - q.num * (p.den:Int)) (b:=(p.den:Int) * (q.den:Int)) (p:=r) (Gj p q);rw [Fr.YW] at e;exact e
theorem KC (T:Txt K mg ad):CalB P w K mg base true 3 "product_of" ["one","other"] (PR K (IV λ p q=>p * q)):=by
 refine T.T5.calN ww (λ _ _ _ _ _ _=>Ba λ _ _=>rfl) (λ vs H Q E j=>?_) (λ f u A outer s H vs Q E d j=>?_)
 ·obtain ⟨_,_,dv,⟨_,_,rfl,_⟩,_⟩:=j;exact dv.len
 obtain ⟨_,_,dv,⟨p,q,rfl,sp,g,rfl⟩,k⟩:=j;obtain ⟨_,_,rfl,l,o⟩:=dv.two;obtain ⟨a,rfl,h⟩:=l.fr;obtain ⟨b,rfl,i⟩:=o.fr;refine ⟨_,(Af (Am (Ah (Ow T) d.m Ag (Bf (Ak Cq (Ad ix_tup (pv 0) Ab) (Ad ix_tup (pv 1) Ab)) (Bf (Ak Cq (Ad ix_tup (pv 0) Ab) (Ad ix_tup (pv 1) Ab)) Aa))))),?_⟩
 refine ⟨_,rfl,a,_,_,_,rfl,rfl,h,rfl,_,rfl,b,_,_,_,rfl,rfl,i,rfl,_,_,rfl,rfl,Cv sp.n g.n,?_⟩;refine ⟨_,rfl,a,_,_,_,rfl,rfl,h,rfl,_,rfl,b,_,_,_,rfl,rfl,i,rfl,_,_,rfl,rfl,Cv sp.dn g.dn,?_⟩;refine ⟨_,_,rfl,Gj p q,Gz sp.dn g.dn,λ r d=>k _ _ (Aj d _) ?_⟩
 have e:=Fw (K:=K) (H:=H) (t:=p.num * q.num) (b:=(p.den:Int) * (q.den:Int)) (p:=r) (Gj p q);rw [Fr.Q6] at e;exact e
theorem Uv (T:Txt K mg ad):CalB P w K mg base true 3 "quotient_of" ["one","other"] (PR K bN):=by
 refine T.Ro.calN uH (λ _ _ _ _ _ _=>Ba λ _ _=>rfl) (λ vs H Q E l=>?_) (λ f y A outer s H vs Q E d l=>?_)
 ·obtain ⟨_,_,dv,⟨_,_,rfl,_⟩,_⟩:=l;exact dv.len
 obtain ⟨_,_,dv,⟨p,q,rfl,sp,g,o,rfl⟩,k⟩:=l;obtain ⟨_,_,rfl,u,v⟩:=dv.two;obtain ⟨a,rfl,h⟩:=u.fr;obtain ⟨b,rfl,i⟩:=v.fr;refine ⟨_,(Af (Am (Ah (Ow T) d.m Ag (Bf (Ak Cq (Ad ix_tup (pv 0) Ab) (Ad ix_tup (pv 1) Ab)) (Bf (Ak Cq (Ad ix_tup (pv 0) Ab) (Ad ix_tup (pv 1) Ab)) Aa))))),?_⟩
 refine ⟨_,rfl,a,_,_,_,rfl,rfl,h,rfl,_,rfl,b,_,_,_,rfl,rfl,i,rfl,_,_,rfl,rfl,Cv sp.n g.dn,?_⟩;refine ⟨_,rfl,a,_,_,_,rfl,rfl,h,rfl,_,rfl,b,_,_,_,rfl,rfl,i,rfl,_,_,rfl,rfl,Cv sp.dn g.n,?_⟩;have x:q.num≠0:=λ e=>o (Fr.Qz q |>.mp e)
 have j:(p.den:Int) * q.num≠0:=yA (V8 p) x;refine ⟨_,_,rfl,j,Gz sp.dn g.n,λ r d=>k _ _ (Aj d _) ?_⟩
 have e:=Fw (K:=K) (H:=H) (t:=p.num * (q.den:Int)) (b:=(p.den:Int) * q.num) (p:=r) j;rw [Fr.Mm] at e;exact e
theorem Mv (T:Txt K mg ad):CalB P w K mg base true 1 "is_less" ["one","other"] (PR K dq):=by
 refine T.Vc.calN uF (λ _ _ _ _ _ _=>Ba λ _ _=>rfl) (λ vs H Q E i=>?_) (λ f m A outer s H vs Q E o i=>?_)
 ·obtain ⟨_,_,dv,⟨_,_,rfl,_⟩,_⟩:=i;exact dv.len
 obtain ⟨_,_,dv,⟨p,q,rfl,sp,d,rfl⟩,k⟩:=i;obtain ⟨_,_,rfl,j,l⟩:=dv.two;obtain ⟨a,rfl,g⟩:=j.fr;obtain ⟨b,rfl,h⟩:=l.fr;refine ⟨_,(Af (Am (Dq Fi (Ak Cq (Ad ix_tup (pv 0) Ab) (Ad ix_tup (pv 1) Ab)) (Ak Cq (Ad ix_tup (pv 1) Ab) (Ad ix_tup (pv 0) Ab))))),?_⟩;refine ⟨_,rfl,a,_,_,_,rfl,rfl,g,rfl,_,rfl,b,_,_,_,rfl,rfl,h,rfl,_,_,rfl,rfl,Cv sp.n d.dn,?_⟩;refine ⟨_,rfl,b,_,_,_,rfl,rfl,h,rfl,_,rfl,a,_,_,_,rfl,rfl,g,rfl,_,_,rfl,rfl,Cv d.n sp.dn,_,_,rfl,rfl,?_⟩;have e:decide (p.num * (q.den:Int) < q.num * (p.den:Int))=decide (p < q):=decide_eq_decide.mpr (Fr.cN p q);show Q (.bl (decide (p.num * (q.den:Int) < q.num * (p.den:Int)))) H;rw [e];exact k _ _ (Same.refl _) (.bl _)
end
end K73
namespace K73
open PySem L2 Lib Fr Op
seal PE PT PW PA PS PSs PG PGs PI PO Bv
section
variable {P:ZY}{w:World}{K:FrG}{mg:Str->Option Value}{base:Heap}{ad:Adr}{c:Bool}
theorem yI (T:Txt K mg ad):MkC P w K mg base 1 "Gap" ad.Gap ["self","length"] (Zz ad.Gap "length"):=by
 refine T.ex.i_Gap.mkc qd (λ _ _ _ _ _ _=>Ba λ _ _=>rfl) (λ vs H Q E d=>?_) (λ f g A outer s H vs Q E h d=>?_)
 ·obtain ⟨a,b,x,rfl,_⟩:=d;rfl
 obtain ⟨a,b,x,rfl,e,q⟩:=d;refine ⟨_,(Af (Hu (pv 0) (pv 1))),?_⟩;exact ⟨_,rfl,_,rfl,a,ad.Gap,b,[],rfl,e,T.ex.l_Gap,T.ex.n_Gap_length,by decide,q⟩
theorem zg (T:Txt K mg ad):MkC P w K mg base 1 "Glass" ad.Glass ["self","strength"] (Zz ad.Glass "strength"):=by
 refine T.ex.i_Glass.mkc uz (λ _ _ _ _ _ _=>Ba λ _ _=>rfl) (λ vs H Q E d=>?_) (λ f g A outer s H vs Q E h d=>?_)
 ·obtain ⟨a,b,x,rfl,_⟩:=d;rfl
 obtain ⟨a,b,x,rfl,e,q⟩:=d;refine ⟨_,(Af (Hu (pv 0) (pv 1))),?_⟩;exact ⟨_,rfl,_,rfl,a,ad.Glass,b,[],rfl,e,T.ex.l_Glass,T.ex.n_Glass_strength,by decide,q⟩
theorem jZ (T:Txt K mg ad):MkC P w K mg base 1 "Stop" ad.Stop ["self","low","high"] (mF ad.Stop "low" "high"):=by
 refine T.ex.i_Stop.mkc xX (λ _ _ _ _ _ _=>Gb λ _ _ _=>rfl) (λ vs H Q E d=>?_) (λ f g A outer s H vs Q E h d=>?_)
 ·obtain ⟨a,b,x,y,rfl,_⟩:=d;rfl
 obtain ⟨a,b,x,y,rfl,e,q⟩:=d;refine ⟨_,(Ae (Hu (pv 0) (pv 1)) (Af (Hu (pv 0) (pv 2)))),?_⟩;refine ⟨_,rfl,_,rfl,a,ad.Stop,b,[],rfl,e,T.ex.l_Stop,T.ex.n_Stop_low,by decide,?_⟩
 refine ⟨_,rfl,_,rfl,a,ad.Stop,b,_,rfl,Al,T.ex.l_Stop,T.ex.n_Stop_high,(by show 1 < 1000;decide),?_⟩
 rw [Hc];exact q
theorem xR (T:Txt K mg ad):MC P w K mg base 4 ad.Gap "lets" ["self","ray"] cT:=by
 refine T.ex.q_Gap_lets.mc Z8 (λ _ _ _ _ _ _=>Ba λ _ _=>rfl) (λ vs H Q E a=>?_) (λ f b A outer s H vs Q E d a=>?_)
 ·obtain ⟨x,y,rfl,_⟩:=a;rfl
 obtain ⟨x,y,rfl,q⟩:=a;exact ⟨_,(Af (Am CQ)),q⟩
theorem pq (T:Txt K mg ad):MC P w K mg base 4 ad.Glass "lets" ["self","ray"] cT:=by
 refine T.ex.q_Glass_lets.mc Z8 (λ _ _ _ _ _ _=>Ba λ _ _=>rfl) (λ vs H Q E a=>?_) (λ f b A outer s H vs Q E d a=>?_)
 ·obtain ⟨x,y,rfl,_⟩:=a;rfl
 obtain ⟨x,y,rfl,q⟩:=a;exact ⟨_,(Af (Am CQ)),q⟩
theorem iy (T:Txt K mg ad):MC P w K mg base 4 ad.Stop "lets" ["self","ray"] (Rv K ad.Gap ad.Glass ad.Stop (λ p r=>.bool (p.lets r)) isStop):=by
 refine T.ex.q_Stop_lets.mc AL5 (λ _ _ _ _ _ _=>Ba λ _ _=>rfl) (λ vs H Q E x=>?_) (λ f G A outer s H vs Q E j x=>?_)
 ·obtain ⟨_,_,_,_,_,_,rfl,_⟩:=x;rfl
 obtain ⟨o,y,p,r,n,m,rfl,l,z,B,q,pb,b,k⟩:=x;cases z with
 | gap _ _=>exact l.elim
 | glass _ _=>exact l.elim
 | @stop a J L M lo g t C D=>
  obtain ⟨u,N,O,rfl,h,i,I⟩:=B.t2;refine ⟨_,(Af (Am (Ib (NP (Ah (Mv T) j.m Ag (Ao (Ad ix_tup (pv 1) Ab) (Cm (Eh (pv 0)) Aa)))) (Ik (NP (Ah (Mv T) j.m Ag (Cm (Eh (pv 0)) (Ao (Ad ix_tup (pv 1) Ab) Aa)))))))),?_⟩
  refine ⟨_,rfl,u,_,_,_,rfl,rfl,h,rfl,_,rfl,a,_,_,_,_,rfl,t,T.ex.l_Stop,T.ex.n_Stop_low,rfl,?_⟩;refine ⟨_,_,.cons i (.cons C .nil),⟨_,_,rfl,q.y.sm (Ir b),pb.1.sm (Mr b),rfl⟩,λ v R d hv=>?_⟩
  obtain rfl:=hv.bl_of;refine ⟨_,rfl,_,rfl,?_⟩;cases c1:decide (r.1 < lo) with
  | true=>
   refine iteF ?_;refine k _ _ d ?_;have e:(Pc.stop lo g).lets r=false:=by show (!decide (r.1 < lo) && _)=false;rw [c1];rfl
   show DV K _ _ (.bool ((Pc.stop lo g).lets r));rw [e];exact .bl _
  | false=>
   refine iteT ?_;refine ⟨_,rfl,a,_,_,_,_,rfl,d _ _ t,T.ex.l_Stop,T.ex.n_Stop_high,rfl,_,rfl,u,_,_,_,rfl,rfl,h.keep d,rfl,?_⟩;refine ⟨_,_,.cons (D.keep d) (.cons (i.keep d) .nil),⟨_,_,rfl,pb.2.sm (Mr b),q.y.sm (Ir b),rfl⟩,λ v S F hv=>?_⟩
   obtain rfl:=hv.bl_of;refine ⟨_,rfl,?_⟩;refine k _ _ (d.trans F) ?_;have e:(Pc.stop lo g).lets r=!decide (g < r.1):=by show (!decide (r.1 < lo) && _)=_;rw [c1];rfl
   show DV K _ _ (.bool ((Pc.stop lo g).lets r));rw [e];exact .bl _
theorem mU (T:Txt K mg ad):MC P w K mg base 4 ad.Stop "bent" ["self","ray"] uc:=by
 refine T.ex.q_Stop_bent.mc zG (λ _ _ _ _ _ _=>Ba λ _ _=>rfl) (λ vs H Q E a=>?_) (λ f b A outer s H vs Q E d a=>?_)
 ·obtain ⟨x,y,rfl,_⟩:=a;rfl
 obtain ⟨x,y,rfl,q⟩:=a;exact ⟨_,(Af (Am (pv 1))),_,rfl,q⟩
theorem tD (T:Txt K mg ad):MC P w K mg base 4 ad.Gap "bent" ["self","ray"] (Rv K ad.Gap ad.Glass ad.Stop (λ p r=>Cu (p.bent r)) xO):=by
 refine T.ex.q_Gap_bent.mc rG (λ _ _ _ _ _ _=>Ba λ _ _=>rfl) (λ vs H Q E C=>?_) (λ f J A outer s H vs Q E q C=>?_)
 ·obtain ⟨_,_,_,_,_,_,rfl,_⟩:=C;rfl
 obtain ⟨o,y,p,r,n,m,rfl,x,D,F,i,pb,b,k⟩:=C;cases D with
 | glass _ _=>exact x.elim
 | stop _ _ _=>exact x.elim
 | @gap a L M d G I=>
  have pb:Bd m d:=pb;obtain ⟨j,N,O,rfl,e,z,h⟩:=F.t2;refine ⟨_,(Af (Am (Bk (BL (Ah (V5 T) q.m Ag (Ao (Ad ix_tup (pv 1) Ab) (BL (Ah (KC T) q.m Ag (Cm (Eh (pv 0)) (Ao (Ad ix_tup (pv 1) Ab) Aa))) Aa))) (Ao (Ad ix_tup (pv 1) Ab) Aa))))),?_⟩
  refine ⟨_,rfl,j,_,_,_,rfl,rfl,e,rfl,?_⟩;refine ⟨_,rfl,a,_,_,_,_,rfl,G,T.ex.l_Gap,T.ex.n_Gap_length,rfl,_,rfl,j,_,_,_,rfl,rfl,e,rfl,?_⟩;refine ⟨_,_,.cons I (.cons h .nil),⟨_,_,rfl,pb.sm (Mr b),i.u.sm (Ir b),rfl⟩,λ v R g hv=>?_⟩
  refine ⟨_,_,.cons (z.keep g) (.cons hv .nil),⟨_,_,rfl,i.y.sm (Ir b),(pb.mul i.u).sm (Ye b),rfl⟩,λ S U l B=>?_⟩
  refine ⟨_,rfl,j,_,_,_,rfl,rfl,e.keep (g.trans l),rfl,(by show 2<=Y7;decide),λ t ht=>?_⟩
  exact k _ _ ((g.trans l).trans (Aj ht _)) (DV.upd2 ht B (h.keep (g.trans l)))
theorem nF (T:Txt K mg ad):MC P w K mg base 4 ad.Glass "bent" ["self","ray"] (Rv K ad.Gap ad.Glass ad.Stop (λ p r=>Cu (p.bent r)) qH):=by
 refine T.ex.q_Glass_bent.mc vU (λ _ _ _ _ _ _=>Ba λ _ _=>rfl) (λ vs H Q E C=>?_) (λ f J A outer s H vs Q E l C=>?_)
 ·obtain ⟨_,_,_,_,_,_,rfl,_⟩:=C;rfl
 obtain ⟨o,y,p,r,n,m,rfl,q,D,F,h,pb,b,k⟩:=C;cases D with
 | gap _ _=>exact q.elim
 | stop _ _ _=>exact q.elim
 | @glass a L M d G I=>
  have pb:Bd m d:=pb;obtain ⟨i,N,O,rfl,e,g,x⟩:=F.t2;refine ⟨_,(Af (Am (Bk (Ao (Ad ix_tup (pv 1) Ab) (BL (Ah (KJ T) l.m Ag (Ao (Ad ix_tup (pv 1) Ab) (BL (Ah (KC T) l.m Ag (Cm (Eh (pv 0)) (Ao (Ad ix_tup (pv 1) Ab) Aa))) Aa))) Aa))))),?_⟩
  refine ⟨_,rfl,i,_,_,_,rfl,rfl,e,rfl,?_⟩;refine ⟨_,rfl,i,_,_,_,rfl,rfl,e,rfl,?_⟩;refine ⟨_,rfl,a,_,_,_,_,rfl,G,T.ex.l_Glass,T.ex.n_Glass_strength,rfl,_,rfl,i,_,_,_,rfl,rfl,e,rfl,?_⟩;refine ⟨_,_,.cons I (.cons g .nil),⟨_,_,rfl,pb.sm (Mr b),h.y.sm (Ir b),rfl⟩,λ v R j hv=>?_⟩
  refine ⟨_,_,.cons (x.keep j) (.cons hv .nil),⟨_,_,rfl,h.u.sm (Ir b),(pb.mul h.y).sm (Ye b),rfl⟩,λ S U z B=>?_⟩
  refine ⟨(by show 2<=Y7;decide),λ t ht=>?_⟩
  exact k _ _ ((j.trans z).trans (Aj ht _)) (DV.upd2 ht (g.keep (j.trans z)) B)
theorem zP (T:Txt K mg ad){H:Hp}{v y:V}{p:Pc}{r:Ay}{n m:Nat}(j:ObAt K ad.Gap ad.Glass ad.Stop H v p)(g:DV K H y (Cu r))(h:RB n r)(pb:p.bd m)(e:n+m<=3900):
  ∃(a C i:Addr) (fs:List (Str×V)) (ps:List Str) (sp:Sp),v=.ref a/\H a=some (.ins C i fs)/\fs.lookup ("lets":Str)=none/\MC P w K mg base 4 C "lets" ps sp/\∀Q:VK,(∀d,Same H d->Q (.bl (p.lets r)) d)->sp [v,y] H Q E0:=by
 cases id j with
 | gap b f=>exact ⟨_,_,_,_,_,_,rfl,b,rfl,xR T,λ Q k=>⟨_,_,rfl,k _ (Same.refl _)⟩⟩
 | glass b f=>exact ⟨_,_,_,_,_,_,rfl,b,rfl,pq T,λ Q k=>⟨_,_,rfl,k _ (Same.refl _)⟩⟩
 | stop b f l=>exact ⟨_,_,_,_,_,_,rfl,b,rfl,iy T,λ Q k=>⟨_,_,.stop _ _,r,n,m,rfl,trivial,j,g,h,pb,e,λ v d s' hv=>by obtain rfl:=hv.bl_of;exact k _ s'⟩⟩
theorem TQ (T:Txt K mg ad){H:Hp}{v y:V}{p:Pc}{r:Ay}{n m:Nat}(i:ObAt K ad.Gap ad.Glass ad.Stop H v p)(e:DV K H y (Cu r))(g:RB n r)(pb:p.bd m)(d:n+m<=3900):
  ∃(a C j:Addr) (fs:List (Str×V)) (ps:List Str) (sp:Sp),v=.ref a/\H a=some (.ins C j fs)/\fs.lookup ("bent":Str)=none/\MC P w K mg base 4 C "bent" ps sp/\∀Q:VK,(∀v f,Same H f->DV K f v (Cu (p.bent r))->Q v f)->sp [v,y] H Q E0:=by
 cases id i with
 | gap b h=>exact ⟨_,_,_,_,_,_,rfl,b,rfl,tD T,λ Q k=>⟨_,_,.gap _,r,n,m,rfl,trivial,i,e,g,pb,d,k⟩⟩
 | glass b h=>exact ⟨_,_,_,_,_,_,rfl,b,rfl,nF T,λ Q k=>⟨_,_,.glass _,r,n,m,rfl,trivial,i,e,g,pb,d,k⟩⟩
 | stop b h l=>exact ⟨_,_,_,_,_,_,rfl,b,rfl,mU T,λ Q k=>⟨_,_,rfl,k _ _ (Same.refl _) e⟩⟩
theorem cu (T:Txt K mg ad):CalB P w K mg base true 3 "piece_of" ["told"] (uE K ad.Gap ad.Glass ad.Stop):=by
 refine T.TF.calN lQ (λ _ _ _ _ _ _=>Bl λ _=>rfl) (λ vs H Q E u=>?_) (λ f B A outer s H vs Q E t u=>?_)
 ·obtain ⟨v,p,rfl,_⟩:=u;rfl
 obtain ⟨v,p,rfl,hv,q⟩:=u;refine ⟨_,(Ae (Aw (Az Bp (Ad ix_tup (pv 0) Ab) (BZ (v:=.str "gap") rfl T.ex.m_GAP ⟨⟨_,T.ex.z_GAP⟩,rfl⟩)) (Af (Am (Nr (yI T) t.m (Ao (Ad ix_tup (pv 0) Ab) Aa)))) Ax) (Ae (Aw (Az Bp (Ad ix_tup (pv 0) Ab) (BZ (v:=.str "glass") rfl T.ex.m_GLASS ⟨⟨_,T.ex.z_GLASS⟩,rfl⟩)) (Af (Am (Nr (zg T) t.m (Ao (Ad ix_tup (pv 0) Ab) Aa)))) Ax) (Af (Am (Nr (jZ T) t.m (Ao (Ad ix_tup (pv 0) Ab) (Ao (Ad ix_tup (pv 0) Ab) Aa))))))),?_⟩
 cases p with
 | gap d=>
  obtain ⟨a,x,y,rfl,e,k,l⟩:=DV.t2 hv;obtain rfl:=k.str_of;refine ⟨_,rfl,a,_,_,_,rfl,rfl,e,rfl,rfl,_,rfl,Bg (by decide) ?_⟩
  refine ⟨_,rfl,a,_,_,_,rfl,rfl,e,rfl,λ o b n h i=>⟨o,b,y,rfl,Al,rfl,?_⟩⟩
  have r:Same H (upd H b (.own o)):=Aj h _;have j:upd H b (.own o) o=none:=by rw [BK (QO i)];exact n
  have g:=r.trans (Aj j (.ins ad.Gap b [("length",y)]));rw [Hc];exact q _ _ g (.gap Al (l.keep g))
 | glass d=>
  obtain ⟨a,x,y,rfl,e,k,l⟩:=DV.t2 hv;obtain rfl:=k.str_of;refine ⟨_,rfl,a,_,_,_,rfl,rfl,e,rfl,rfl,_,rfl,BR (by decide) ?_⟩
  refine ⟨_,rfl,a,_,_,_,rfl,rfl,e,rfl,rfl,_,rfl,Bg (by decide) ?_⟩
  refine ⟨_,rfl,a,_,_,_,rfl,rfl,e,rfl,λ o b n h i=>⟨o,b,y,rfl,Al,rfl,?_⟩⟩
  have r:Same H (upd H b (.own o)):=Aj h _;have j:upd H b (.own o) o=none:=by rw [BK (QO i)];exact n
  have g:=r.trans (Aj j (.ins ad.Glass b [("strength",y)]));rw [Hc];exact q _ _ g (.glass Al (l.keep g))
 | stop lo D=>
  obtain ⟨a,x,y,C,rfl,e,k,l,z⟩:=DV.t3 hv;obtain rfl:=k.str_of;refine ⟨_,rfl,a,_,_,_,rfl,rfl,e,rfl,rfl,_,rfl,BR (by decide) ?_⟩
  refine ⟨_,rfl,a,_,_,_,rfl,rfl,e,rfl,rfl,_,rfl,BR (by decide) ?_⟩
  refine ⟨_,rfl,a,_,_,_,rfl,rfl,e,rfl,_,rfl,a,_,_,_,rfl,rfl,e,rfl,λ o b n h i=>⟨o,b,y,C,rfl,Al,rfl,?_⟩⟩
  have r:Same H (upd H b (.own o)):=Aj h _;have j:upd H b (.own o) o=none:=by rw [BK (QO i)];exact n
  have g:=r.trans (Aj j (.ins ad.Stop b [("low",y),("high",C)]));rw [Hc];exact q _ _ g (.stop Al (l.keep g) (z.keep g))
theorem Xl (T:Txt K mg ad):CalB P w K mg base true 3 "is_piece" ["thing"] (yo K):=by
 refine T.UJ.calN yt (λ _ _ _ _ _ _=>Bl λ _=>rfl) (λ vs H Q E U=>?_) (λ f z A outer s H vs Q E B U=>?_)
 ·obtain ⟨_,_,_,rfl,_⟩:=U;rfl
 obtain ⟨v,b0,m,rfl,hv,ok,pb,C,q⟩:=U;obtain ⟨R,es,W,sh⟩:=xY ok pb;rw [W] at hv;obtain ⟨a,xs,rfl,b,D⟩:=hv.tup_of;obtain ⟨b1,d,rfl,F,j⟩:=D.cons_of;obtain rfl:=F.str_of;have hl:=j.len;rw [Y3] at hl;have a9:=sh.len;obtain ⟨b2,X,Y⟩:∃t,PSs (Dn true P w K mg base ["thing"] "is_piece" (defScope Kl) f z A outer s H E).nox ((defBody Kl).drop 2) t/\∀(S:Ends) (r:Hp),Same H r->(∀h,Same H h->S.rt (.bl true) h)->t S [some (.ref a)] r:=by
  refine ⟨_,(Ae (Aw (Az Bp (Ad ix_tup (pv 0) Ab) (BZ (v:=.str "stop") rfl T.ex.m_STOP ⟨⟨_,T.ex.z_STOP⟩,rfl⟩)) (Af (Am (Ib (Dq Bp (Be Cp rfl T.len Ce (Ac (pv 0) Aa)) Ab) (Ik (NP (Ah (Mv T) B.m Ag (Ao (Ad ix_tup (pv 0) Ab) (Ao (Ad ix_tup (pv 0) Ab) Aa)))))))) Ax) (Af (Am (Ib (Dq oZ (Ad ix_tup (pv 0) Ab) (Bk (Ac (BZ (v:=.str "gap") rfl T.ex.m_GAP ⟨⟨_,T.ex.z_GAP⟩,rfl⟩) (Ac (BZ (v:=.str "glass") rfl T.ex.m_GLASS ⟨⟨_,T.ex.z_GLASS⟩,rfl⟩) Aa)))) (Ik (Dq Bp (Be Cp rfl T.len Ce (Ac (pv 0) Aa)) Ab)))))),?_⟩
  intro S r t2 q;refine ⟨_,rfl,a,_,_,_,rfl,rfl,b.keep t2,Ek,rfl,_,rfl,?_⟩;rw [By];cases sh with
  | stop G I J=>
   obtain ⟨b3,b4,rfl,Z,a0⟩:=j.two;refine Bg (by decide) ?_
   refine ⟨_,rfl,a,_,rfl,.inr (b.keep t2),rfl,_,rfl,iteT ?_⟩;refine ⟨_,rfl,a,_,_,_,rfl,rfl,b.keep t2,rfl,_,rfl,a,_,_,_,rfl,rfl,b.keep t2,rfl,?_⟩;refine ⟨_,_,.cons (a0.keep t2) (.cons (Z.keep t2) .nil),⟨_,_,rfl,J.sm C,I.sm C,rfl⟩,λ v b5 a1 hv=>?_⟩
   obtain rfl:=hv.bl_of;refine ⟨_,rfl,?_⟩;rw [decide_eq_false G];exact q _ (t2.trans a1)
  | one e1 e2=>
   refine BR e1 ?_;refine ⟨_,rfl,a,_,_,_,rfl,rfl,b.keep t2,Ek,(by show 2<=Y7;decide),λ a2 L=>?_⟩
   have t3:=t2.trans (Aj L (.tup [.str "gap",.str "glass"]));refine ⟨a2,_,rfl,.inr (SqT.of Al),rfl,rfl,_,rfl,Bg ((jW R).trans e2) ?_⟩;refine ⟨_,rfl,a,_,rfl,.inr (b.keep t3),rfl,?_⟩;have M:d.length=1:=hl;show S.rt (.bl (decide (V.int ((d.length+1:Nat):Int)=V.int 2))) _;rw [M];exact q _ t3
 refine ⟨_,(Ae (Aw (PW.pt (pw_or (Bt (Bj (Be Ed rfl T.isinstance Dy (Ac (pv 0) (Ac (Ec (v:=.ty "tuple") rfl T.tuple Rh rfl) Aa))))) (pw_or (Az Fi (Be Cp rfl T.len Ce (Ac (pv 0) Aa)) Ab) (pw_or1 (Bt (Bj (Be Ed rfl T.isinstance Dy (Ao (Ad ix_tup (pv 0) Ab) (Ac (Ec (v:=.ty "str") rfl T.str Ep rfl) Aa))))))))) (Af (Am CQ)) Ax) (Ae (Aw (Bt (Bj (Be (Mw rfl) rfl T.all PN (Cm (Ej ["part"] [none] rfl (JV (DP Q5 (pv 0) (CZ Ab) Dh)) (λ _ _ _ _ _=>(Bc (i:=0) (show Uz [("part":Str)] by decide))) (λ _ _ _ _ _=>Eb) (λ _ _ _ _ _=>(Ah (Sw T) B.m Ag (Ac (pv 0) Aa))) (Ds (by decide) (by decide)) (by decide) rfl (by decide) rfl (Dt rfl)) Aa)))) (Af (Am CQ)) Ax) X)),?_⟩
 refine ⟨_,rfl,_,_,_,_,rfl,hv,WX _,_,rfl,iteF ?_⟩;refine ⟨_,rfl,a,_,rfl,.inr b,_,_,rfl,rfl,_,rfl,BR (decide_eq_false (by simp only [X4];omega)) ?_⟩
 refine ⟨_,rfl,a,_,_,_,rfl,rfl,b,Ek,_,_,_,_,rfl,F,Gp _,_,rfl,iteF ?_⟩;refine ⟨_,rfl,_,rfl,a,_,rfl,b,(λ e=>by rw [PL] at e;simp only [X4] at e;omega),λ p a3=>⟨p,rfl,⟨_,SqT.of Al⟩,?_⟩⟩
 rw [RN];have u:=Aj a3 (.tup ((V.str R::d).drop 1));have g:=j.keep u;have o:upd H p (.tup ((V.str R::d).drop 1)) p=some (.tup d):=Al;generalize upd H p (.tup ((V.str R::d).drop 1))=a4 at u g o ⊢;refine JR (K:=K) (a:=p) (xs:=d) (λ i k l h=>∃c0,k=[c0]/\l=Xt i (V.bl true)/\Same a4 h) ⟨_,rfl,rfl,Same.refl _⟩ ?_ ?_ ?_
 ·rintro i k l h y ⟨c0,rfl,rfl,s'⟩
  refine ⟨?_,SqT.of (s' _ _ o)⟩;have b6:=small1000 (n:=1000) (by decide)
  rw [yQ];omega
 ·rintro i x k l h y ⟨c0,rfl,rfl,s'⟩
  obtain ⟨b7,N,a5⟩:=g.get y;obtain ⟨a6,rfl⟩:=bO N;exact ⟨_,rfl,_,a6,rfl,a5.keep s',nx (CK y) ⟨_,rfl,NG.symm,s'⟩⟩
 ·rintro k l h a7 ⟨c0,rfl,rfl,s'⟩ O
  have a8:=Aj O (.lst (Xt d.length (V.bl true)));refine ⟨a7,Xt d.length true,rfl,SqL.of (by rw [o8];exact Al),_,rfl,?_⟩
  rw [vd];exact iteF (Y _ _ (u.trans (s'.trans a8)) q)
theorem Lb (T:Txt K mg ad):CalB P w K mg base true 4 "look_at" ["bench"] (AI8 K):=by
 refine T.Th.calN Qk (λ _ _ _ _ _ _=>Bl λ _=>rfl) (λ vs H Q E u=>?_) (λ f G A outer s H vs Q E y u=>?_)
 ·obtain ⟨_,_,_,rfl,_⟩:=u;rfl
 obtain ⟨v,ps,m,rfl,hv,z,B,q⟩:=u;obtain ⟨a,xs,rfl,l,k⟩:=DV.lst_of hv;have hl:xs.length=ps.length:=by have:=k.len;rw [Y3] at this;exact this
 have I:=z.len;refine ⟨_,(Ae (Aw (PW.pt (pw_or (Bt (Bj (Be Ed rfl T.isinstance Dy (Ac (pv 0) (Ac (Ec (v:=.ty "list") rfl T.list fc rfl) Aa))))) (pw_or1 (Az HY (Be Cp rfl T.len Ce (Ac (pv 0) Aa)) (BZ (v:=.int 60) rfl T.ex.m_MOST_PIECES ⟨_,rfl⟩))))) (Af Cj) Ax) (Af (Dm Xs rfl (aJ rfl T.enumerate (Ac (pv 0) Aa)) (Yc (n:=2) rfl (Cy (Bc (i:=1) Qk.nd) (Cy (Bc (i:=2) Qk.nd) Gf))) (Af (Aw (Bt (Bj (Ah (Xl T) y.m Ag (Ac (pv 2) Aa)))) (Af Cj) Ax))))),?_⟩
 refine ⟨_,rfl,_,_,_,_,rfl,hv,AH0 _,_,rfl,?_⟩;refine iteF ?_;refine ⟨_,rfl,a,_,rfl,.inl l,_,_,rfl,rfl,_,rfl,BR (decide_eq_false (by omega)) ?_⟩
 refine ⟨_,rfl,a,rfl,⟨_,l⟩,?_⟩;refine fM (K:=K) (a:=a) (xs:=xs) (λ i g h=>∃c1 j,g=[some (.ref a),c1,j]/\Same H h) ⟨_,_,rfl,Same.refl _⟩ ?_ ?_ ?_
 ·rintro i g h o ⟨c1,j,rfl,b⟩
  exact l.keep b
 ·rintro i x g h p o ⟨c1,j,rfl,b⟩ C
  obtain ⟨d,hd,D⟩:=k.get o;obtain ⟨J,r,rfl⟩:=HB hd;have e:=ZN r;have t:=b.trans (Aj C (.tup [.int i,x]));refine ⟨p,_,rfl,SqT.of Al,rfl,_,_,rfl,_,_,rfl,rfl,?_⟩;exact ⟨_,rfl,_,_,_,rfl,D.keep t,z.ok _ e,z.bd _ e,B,λ L F=>⟨_,rfl,iteF ⟨_,_,rfl,t.trans F⟩⟩⟩
 ·rintro g h ⟨c1,j,rfl,b⟩
  exact q _ b
theorem sZ (T:Txt K mg ad):CalB P w K mg base true 5 "walk_of" ["bench","ray"] (mV K):=by
 refine T.Py.calN Im (λ _ _ _ _ _ _=>Ba λ _ _=>rfl) (λ vs H Q E c7=>?_) (λ f d5 A outer s H vs Q E W c7=>?_)
 ·obtain ⟨_,_,_,_,_,_,rfl,_⟩:=c7;rfl
 obtain ⟨b,y,ps,r,n,m,rfl,b2,b3,b4,c8,b5,q⟩:=c7;obtain ⟨a,xs,rfl,b6,a3⟩:=DV.lst_of b2;have hl:xs.length=ps.length:=by have:=a3.len;rw [Y3] at this;exact this
 have d6:=b3.len;refine ⟨_,(Ae (Cw (Ah (Lb T) W.m Ag (Ac (pv 0) Aa))) (Ae (Ar (i:=2) Im.nd (Bu (Ac (pv 1) Aa))) (Ae (Dm Xs rfl (aJ rfl T.enumerate (Ac (pv 0) Aa)) (Yc (n:=2) rfl (Cy (Bc (i:=3) Im.nd) (Cy (Bc (i:=4) Im.nd) Gf))) (Ae (Ar (i:=5) Im.nd (Ah (cu T) W.m Ag (Ac (pv 4) Aa))) (Ae (Aw (Bt (Bj (Bb (k:=4) (pv 5) W.m (Ac (pv 1) Aa)))) (Af (Am (Bk (Ac (pv 2) (Ac (pv 3) Aa))))) Ax) (Ae (Ar (i:=1) Im.nd (Bb (k:=4) (pv 5) W.m (Ac (pv 1) Aa))) (Af (Cw (CT WB WH WI Ga (pv 2) (Ac (pv 1) Aa)))))))) (Af (Am (Bk (Ac (pv 2) (BP DX Aa)))))))),?_⟩
 refine ⟨_,rfl,_,ps,m,rfl,b2,b3,by omega,λ d7 b7=>?_⟩
 refine ⟨_,rfl,(by show 1<=Y7;decide),λ l a4=>?_⟩
 have a8:H l=none:=b7.free a4;have X:=b7.trans (Aj a4 (.lst [y]));refine ⟨_,rfl,a,rfl,⟨_,b6.keep X⟩,?_⟩;refine fM (K:=K) (a:=a) (xs:=xs) (λ i Y z=>∃c1 Z a0 v g B vs,Y=[some (.ref a),some v,some (.ref l),c1,Z,a0]/\Same H z/\z l=some (.lst vs)/\DVs K z vs ((r::B).map Cu)/\DV K z v (Cu g)/\At ps r i B g/\RB (n+i * (m+1)) g/\B.length<=i) ⟨_,_,_,y,r,[],[y],rfl,X,Al,.cons (b4.keep X) .nil,b4.keep X,AH4 ps r,by simpa using c8,Zj _⟩ ?_ ?_ ?_
 ·rintro i Y z b8 ⟨c1,Z,a0,v,g,B,vs,rfl,D,_⟩
  exact b6.keep D
 ·rintro i x Y z p b8 ⟨c1,Z,a0,v,g,B,vs,rfl,D,J,h,hv,j,L,a5⟩ c9
  obtain ⟨d,hd,d0⟩:=a3.get b8;obtain ⟨a1,M,rfl⟩:=HB hd;have G:=ZN M;have b9:=CK M;have c0:=Aj c9 (.tup [.int i,x]);have d1:=D.trans c0;have c2:=xQ b5 b9;refine ⟨p,_,rfl,SqT.of Al,rfl,_,_,rfl,_,_,rfl,rfl,?_⟩;refine ⟨_,rfl,_,a1,rfl,d0.keep d1,λ o d8 d2 c3=>?_⟩
  have a6:=c0.trans d2;obtain ⟨a9,C,b0,fs,O,sp,e1,e2,b1,d3,R⟩:=zP (P:=P) (w:=w) (base:=base) T c3 (hv.keep a6) L (b3.bd _ G) c2;refine ⟨_,rfl,a9,C,b0,fs,O,sp,e1,e2,b1,d3,_,rfl,R _ (λ d9 c4=>⟨_,rfl,?_⟩)⟩
  have u:=a6.trans c4;have d4:=D.trans u;cases N:a1.lets g with
  | false=>
   refine iteT ?_;refine ⟨_,rfl,_,rfl,(by show 2<=Y7;decide),λ t ht=>?_⟩
   have I:=Aj ht (.tup [.ref l,.int (i:Int)]);have S:=j.stop M N;refine q t l vs (.int i) _ (d4.trans I) a8 ((u.trans I) _ _ J) Al ?_ ?_
   ·rw [S];exact h.keep (u.trans I)
   ·rw [S];exact .int _
  | true=>
   refine iteF ?_;obtain ⟨a9,C,b0,fs,O,sp,e1,e2,b1,d3,R⟩:=TQ (P:=P) (w:=w) (base:=base) T (c3.keep c4) (hv.keep u) L (b3.bd _ G) c2;refine ⟨_,rfl,a9,C,b0,fs,O,sp,e1,e2,b1,d3,_,rfl,R _ (λ a2 e0 c5 a7=>?_)⟩
   have U:=u.trans c5;have V:=U _ _ J;refine ⟨_,rfl,.inl ⟨rfl,_,SqL.of V⟩,_,rfl,l,vs,a2,rfl,rfl,V,vV h (by omega),?_⟩
   have c6:=Qs V (.lst (vs++[a2]));refine ⟨_,_,_,a2,a1.bent g,B++[a1.bent g],vs++[a2],rfl,?_,Al,?_,?_,j.step M N,?_,?_⟩
   ·intro b o e;rw [BK (Bq e a8)];exact (D.trans U) _ _ e
   ·rw [<- Qy,ZH];exact Eg c6 (by rw [<- ZH];exact Eu dW _) ((h.keep U).append (.cons a7 .nil))
   ·exact G9 c6 (dW _) a7
   ·have:=Kh (b3.bd _ G) L;exact Rb.mono this (lU _ _ _)
   ·exact mJ a5
 ·rintro Y z ⟨c1,Z,a0,v,g,B,vs,rfl,D,J,h,hv,j,L,a5⟩
  refine ⟨_,rfl,(by show 2<=Y7;decide),λ t ht=>?_⟩
  have I:=Aj ht (.tup [.ref l,.non]);rw [hl] at j;have S:=j.done;refine q t l vs .non _ (D.trans I) a8 (I _ _ J) Al ?_ ?_
  ·rw [S];exact h.keep I
  ·rw [S];exact .non
theorem dN (T:Txt K mg ad)(H:Hp):DV K H (.ref ad.NOUGHT) (Ai 0):=.tup (T.ex.s_NOUGHT H) (.cons (.int 0) (.cons (.int 1) .nil))
theorem dO (T:Txt K mg ad)(H:Hp):DV K H (.ref ad.ONE) (Ai 1):=.tup (T.ex.s_ONE H) (.cons (.int 1) (.cons (.int 1) .nil))
theorem AJ5 (T:Txt K mg ad):CalB P w K mg base true 4 "is_table" ["thing"] (PR K sS):=by
 refine T.V4.calN j8 (λ _ _ _ _ _ _=>Bl λ _=>rfl) (λ vs H Q E R=>?_) (λ f Y A outer s H vs Q E g R=>?_)
 ·obtain ⟨_,_,dv,⟨_,_,rfl,_⟩,_⟩:=R;exact dv.len
 obtain ⟨_,_,dv,⟨t,n,rfl,tb,Z,rfl⟩,k⟩:=R;obtain ⟨_,rfl,C⟩:=dv.one;obtain ⟨a,q,r,y,z,rfl,e,D,F,G,I⟩:=DV.t4 C;have B:DVs K H [q,r,y,z] [Ai t.a,Ai t.b,Ai t.c,Ai t.d]:=.cons D (.cons F (.cons G (.cons I .nil)));refine ⟨_,(Ae (Aw (PW.pt (pw_or (Bt (Bj (Be Ed rfl T.isinstance Dy (Ac (pv 0) (Ac (Ec (v:=.ty "tuple") rfl T.tuple Rh rfl) Aa))))) (pw_or (Az Dk (Be Cp rfl T.len Ce (Ac (pv 0) Aa)) Ab) (pw_or1 (Bt (Bj (Be (Mw rfl) rfl T.all PN (Cm (Ej ["part"] [none] rfl (JV (pv 0)) (λ _ _ _ _ _=>(Bc (i:=0) (show Uz [("part":Str)] by decide))) (λ _ _ _ _ _=>Eb) (λ _ _ _ _ _=>(Ah (Sw T) g.m Ag (Ac (pv 0) Aa))) (Ds (by decide) (by decide)) (by decide) rfl (by decide) rfl (Dt rfl)) Aa)))))))) (Af (Am CQ)) Ax) (Af (Am (Dq (Gn g.units) (Ah (KJ T) g.m Ag (BL (Ah (KC T) g.m Ag (Ao (Ad ix_tup (pv 0) Ab) (Ao (Ad ix_tup (pv 0) Ab) Aa))) (BL (Ah (KC T) g.m Ag (Ao (Ad ix_tup (pv 0) Ab) (Ao (Ad ix_tup (pv 0) Ab) Aa))) Aa))) (BZ (v:=.ref ad.ONE) rfl T.ex.m_ONE rfl))))),?_⟩
 refine ⟨_,rfl,_,_,_,_,rfl,C,WX _,_,rfl,iteF ?_⟩;refine ⟨_,rfl,a,_,rfl,.inr e,rfl,_,rfl,iteF ?_⟩;refine ⟨_,rfl,a,rfl,⟨_,e⟩,?_⟩;refine JR (K:=K) (a:=a) (xs:=[q,r,y,z]) (λ i h j l=>∃c0,h=[c0]/\j=Xt i (.bl true)/\l=H) ⟨_,rfl,rfl,rfl⟩ ?_ ?_ ?_
 ·rintro i h j l o ⟨c0,rfl,rfl,rfl⟩
  refine ⟨?_,e⟩;rw [yQ];exact XP (small1000 (by simp only [X4,YR] at o;omega))
 ·rintro i x h j l o ⟨c0,rfl,rfl,rfl⟩
  obtain ⟨d,hd,J⟩:=B.get o;obtain ⟨S,rfl⟩:=bO (es:=[t.a,t.b,t.c,t.d]) hd;exact ⟨_,rfl,_,S,rfl,J,nx (CK o) ⟨_,rfl,NG.symm,rfl⟩⟩
 ·rintro h j l p ⟨c0,rfl,rfl,rfl⟩ U
  have u:=Aj U (.lst (Xt [q,r,y,z].length (.bl true)));refine ⟨p,[true,true,true,true],rfl,SqL.of Al,_,rfl,iteF ?_⟩;refine ⟨_,rfl,a,_,_,_,rfl,rfl,e.keep u,rfl,_,rfl,a,_,_,_,rfl,rfl,e.keep u,rfl,?_⟩;refine ⟨_,_,.cons (D.keep u) (.cons (I.keep u) .nil),⟨_,_,rfl,tb.a.sm (by omega),tb.d.sm (by omega),rfl⟩,λ a0 a1 V L=>?_⟩
  have us:=u.trans V;refine ⟨_,rfl,a,_,_,_,rfl,rfl,e.keep us,rfl,_,rfl,a,_,_,_,rfl,rfl,e.keep us,rfl,?_⟩;refine ⟨_,_,.cons (F.keep us) (.cons (G.keep us) .nil),⟨_,_,rfl,tb.b.sm (by omega),tb.c.sm (by omega),rfl⟩,λ a2 a3 M N=>?_⟩
  refine ⟨_,_,.cons (L.keep M) (.cons N .nil),⟨_,_,rfl,(tb.a.mul tb.d).sm (by omega),(tb.b.mul tb.c).sm (by omega),rfl⟩,λ a4 W X O=>?_⟩
  exact Qj O (dO T W) (k _ _ (us.trans (M.trans X)) (.bl _))
theorem Ot (T:Txt K mg ad):CalB P w K mg base true 5 "look_at_table" ["table"] (PR K kW):=by
 refine T.Ur.calN vA (λ _ _ _ _ _ _=>Bl λ _=>rfl) (λ vs H Q E b=>?_) (λ f i A outer s H vs Q E d b=>?_)
 ·obtain ⟨_,_,dv,⟨_,_,rfl,_⟩,_⟩:=b;exact dv.len
 obtain ⟨_,_,dv,⟨t,n,rfl,tb,e,a,rfl⟩,k⟩:=b;obtain ⟨_,rfl,g⟩:=dv.one;refine ⟨_,(Af (Aw (Bt (Bj (Ah (AJ5 T) d.m Ag (Ac (pv 0) Aa)))) (Af Cj) Ax)),?_⟩
 refine ⟨_,rfl,_,_,.cons g .nil,⟨t,n,rfl,tb,e,rfl⟩,λ v j h hv=>?_⟩
 rw [decide_eq_true a] at hv;obtain rfl:=hv.bl_of;exact ⟨_,rfl,iteF (k _ _ h .non)⟩
theorem fH (T:Txt K mg ad):CalB P w K mg base true 1 "table_of_rays" ["high","slanted"] (PR K lC):=by
 refine T.Ue.calN jb (λ _ _ _ _ _ _=>Ba λ _ _=>rfl) (λ vs H Q E m=>?_) (λ f q A outer s H vs Q E u m=>?_)
 ·obtain ⟨_,_,dv,⟨_,_,rfl,_⟩,_⟩:=m;exact dv.len
 obtain ⟨_,_,dv,⟨r,t,rfl,rfl⟩,k⟩:=m;obtain ⟨_,_,rfl,n,o⟩:=dv.two;obtain ⟨a,v,x,rfl,d,e,g⟩:=DV.t2 n;obtain ⟨b,y,z,rfl,h,i,j⟩:=DV.t2 o;refine ⟨_,(Af (Am (Bk (Ao (Ad ix_tup (pv 0) Ab) (Ao (Ad ix_tup (pv 1) Ab) (Ao (Ad ix_tup (pv 0) Ab) (Ao (Ad ix_tup (pv 1) Ab) Aa))))))),?_⟩;refine ⟨_,rfl,a,_,_,_,rfl,rfl,d,rfl,_,rfl,b,_,_,_,rfl,rfl,h,rfl,_,rfl,a,_,_,_,rfl,rfl,d,rfl,_,rfl,b,_,_,_,rfl,rfl,h,rfl,(by show 4<=Y7;decide),λ p l=>?_⟩
 exact k _ _ (Aj l _) (DV.upd4 l e i g j)
theorem M4 (T:Txt K mg ad):CalB P w K mg base true 5 "table_of" ["bench"] (PR K ji):=by
 refine T.Su.calN Hy (λ _ _ _ _ _ _=>Bl λ _=>rfl) (λ vs H Q E b0=>?_) (λ f c4 A outer s H vs Q E l b0=>?_)
 ·obtain ⟨_,_,dv,⟨_,_,rfl,_⟩,_⟩:=b0;exact dv.len
 obtain ⟨_,_,dv,⟨ps,m,rfl,W,c5,rfl⟩,k⟩:=b0;obtain ⟨_,rfl,X⟩:=dv.one;obtain ⟨a,xs,rfl,Y,G⟩:=DV.lst_of X;have hl:xs.length=ps.length:=by have:=G.len;rw [Y3] at this;exact this
 have c7:=W.len;have b3:RB 2 e1:=⟨1,0,1,by decide,by decide,by decide,by decide,by decide+kernel,by decide+kernel⟩
 have b4:RB 2 e2:=⟨0,1,1,by decide,by decide,by decide,by decide,by decide+kernel,by decide+kernel⟩
 refine ⟨_,(Ae (Cw (Ah (Lb T) l.m Ag (Ac (pv 0) Aa))) (Ae (Ar (i:=1) Hy.nd (Bk (Ac (BZ (v:=.ref ad.ONE) rfl T.ex.m_ONE rfl) (Ac (BZ (v:=.ref ad.NOUGHT) rfl T.ex.m_NOUGHT rfl) Aa)))) (Ae (Ar (i:=2) Hy.nd (Bk (Ac (BZ (v:=.ref ad.NOUGHT) rfl T.ex.m_NOUGHT rfl) (Ac (BZ (v:=.ref ad.ONE) rfl T.ex.m_ONE rfl) Aa)))) (Ae (Dm Xs rfl (DY (pv 0)) (Bc (i:=3) Hy.nd) (Ae (Ar (i:=4) Hy.nd (Ah (cu T) l.m Ag (Ac (pv 3) Aa))) (Ae (Ar (i:=1) Hy.nd (Bb (k:=4) (pv 4) l.m (Ac (pv 1) Aa))) (Af (Ar (i:=2) Hy.nd (Bb (k:=4) (pv 4) l.m (Ac (pv 2) Aa))))))) (Af (Am (Ah (fH T) l.m Ag (Ac (pv 1) (Ac (pv 2) Aa))))))))),?_⟩
 refine ⟨_,rfl,_,ps,m,rfl,X,W,by omega,λ y b5=>?_⟩
 refine ⟨(by show 2<=Y7;decide),λ L I=>?_⟩
 have b6:=Aj I (.tup [.ref ad.ONE,.ref ad.NOUGHT]);have b7:DV K (upd y L (.tup [.ref ad.ONE,.ref ad.NOUGHT])) (.ref L) (Cu e1):=DV.upd2 I (dO T y) (dN T y);refine ⟨(by show 2<=Y7;decide),λ Z J=>?_⟩
 have a0:=Aj J (.tup [.ref ad.NOUGHT,.ref ad.ONE]);have b8:DV K (upd (upd y L (.tup [.ref ad.ONE,.ref ad.NOUGHT])) Z (.tup [.ref ad.NOUGHT,.ref ad.ONE])) (.ref Z) (Cu e2):=DV.upd2 J (dN T _) (dO T _);have a1:=b5.trans (b6.trans a0);refine ⟨_,rfl,a,rfl,⟨_,Y.keep a1⟩,?_⟩;refine Gr (K:=K) (a:=a) (xs:=xs) (λ i z h=>∃B D n p,z=[some (.ref a),some n,some p,B,D]/\Same H h/\DV K h n (Cu (BX (ps.take i) e1))/\DV K h p (Cu (BX (ps.take i) e2))/\RB (2+i * (m+1)) (BX (ps.take i) e1)/\RB (2+i * (m+1)) (BX (ps.take i) e2)) ⟨_,_,_,_,rfl,a1,b7.keep a0,b8,by simpa [BX] using b3,by simpa [BX] using b4⟩ ?_ ?_ ?_
 ·rintro i z h a2 ⟨B,D,n,p,rfl,j,_⟩
  exact Y.keep j
 ·rintro i x z h a2 ⟨B,D,n,p,rfl,j,e,g,b1,b2⟩
  obtain ⟨d,hd,b9⟩:=G.get a2;obtain ⟨a3,q,rfl⟩:=HB hd;have b:=ZN q;have c6:=CK q;have a4:2+i * (m+1)+m<=3900:=by
   have:i * (m+1)<=ps.length * (m+1):=Yh _ (by omega)
   omega
  have F:∀r,BX (ps.take (i+1)) r=a3.bent (BX (ps.take i) r):=λ r=>by
   rw [XV,q,Mu];rfl
  refine ⟨_,rfl,_,a3,rfl,b9.keep j,λ o c8 M a5=>?_⟩
  obtain ⟨N,C,O,fs,t,sp,R,S,U,c0,u⟩:=TQ (P:=P) (w:=w) (base:=base) T a5 (e.keep M) b1 (W.bd _ b) a4;refine ⟨_,rfl,N,C,O,fs,t,sp,R,S,U,c0,_,rfl,u _ (λ c1 c9 V a6=>?_)⟩
  obtain ⟨N,C,O,fs,t,sp,R,S,U,c0,u⟩:=TQ (P:=P) (w:=w) (base:=base) T (a5.keep V) (g.keep (M.trans V)) b2 (W.bd _ b) a4;refine ⟨_,rfl,N,C,O,fs,t,sp,R,S,U,c0,_,rfl,u _ (λ c2 d0 a7 a8=>?_)⟩
  refine ⟨_,_,c1,c2,rfl,j.trans (M.trans (V.trans a7)),?_,?_,?_,?_⟩
  ·rw [F];exact a6.keep a7
  ·rw [F];exact a8
  ·rw [F];exact Rb.mono (Kh (W.bd _ b) b1) (by rw [wn];omega)
  ·rw [F];exact Rb.mono (Kh (W.bd _ b) b2) (by rw [wn];omega)
 ·rintro z h ⟨B,D,n,p,rfl,j,e,g,b1,b2⟩
  rw [hl,WA] at e g;exact ⟨_,rfl,_,rfl,_,_,.cons e (.cons g .nil),⟨_,_,rfl,rfl⟩,λ d1 d2 c3 a9=>k _ _ (j.trans c3) a9⟩
theorem jt (T:Txt K mg ad):CalB P w K mg base true 4 "made_by" ["table","ray"] (PR K mj):=by
 refine T.XF.calN U7 (λ _ _ _ _ _ _=>Ba λ _ _=>rfl) (λ vs H Q E L=>?_) (λ f W A outer s H vs Q E h L=>?_)
 ·obtain ⟨_,_,dv,⟨_,_,_,rfl,_⟩,_⟩:=L;exact dv.len
 obtain ⟨_,_,dv,⟨t,r,n,rfl,tb,b1,b2,X,rfl⟩,k⟩:=L;obtain ⟨_,_,rfl,M,N⟩:=dv.two;obtain ⟨a,Y,Z,a0,a1,rfl,l,O,R,S,U⟩:=DV.t4 M;obtain ⟨b,a2,a3,rfl,o,q,u⟩:=DV.t2 N;refine ⟨_,(Ae (Ar (i:=2) U7.nd (Ah (V5 T) h.m Ag (BL (Ah (KC T) h.m Ag (Ao (Ad ix_tup (pv 0) Ab) (Ao (Ad ix_tup (pv 1) Ab) Aa))) (BL (Ah (KC T) h.m Ag (Ao (Ad ix_tup (pv 0) Ab) (Ao (Ad ix_tup (pv 1) Ab) Aa))) Aa)))) (Ae (Ar (i:=3) U7.nd (Ah (V5 T) h.m Ag (BL (Ah (KC T) h.m Ag (Ao (Ad ix_tup (pv 0) Ab) (Ao (Ad ix_tup (pv 1) Ab) Aa))) (BL (Ah (KC T) h.m Ag (Ao (Ad ix_tup (pv 0) Ab) (Ao (Ad ix_tup (pv 1) Ab) Aa))) Aa)))) (Af (Am (Bk (Ac (pv 2) (Ac (pv 3) Aa))))))),?_⟩
 refine ⟨_,rfl,a,_,_,_,rfl,rfl,l,rfl,_,rfl,b,_,_,_,rfl,rfl,o,rfl,?_⟩;refine ⟨_,_,.cons O (.cons q .nil),⟨_,_,rfl,tb.a.sm (by omega),b1.sm (by omega),rfl⟩,λ a4 a5 j x=>?_⟩
 refine ⟨_,rfl,a,_,_,_,rfl,rfl,l.keep j,rfl,_,rfl,b,_,_,_,rfl,rfl,o.keep j,rfl,?_⟩;refine ⟨_,_,.cons (R.keep j) (.cons (u.keep j) .nil),⟨_,_,rfl,tb.b.sm (by omega),b2.sm (by omega),rfl⟩,λ a6 a7 y z=>?_⟩
 refine ⟨_,_,.cons (x.keep y) (.cons z .nil),⟨_,_,rfl,(tb.a.mul b1).sm (by omega),(tb.b.mul b2).sm (by omega),rfl⟩,λ a8 a9 V B=>?_⟩
 have e:=j.trans (y.trans V);refine ⟨_,rfl,a,_,_,_,rfl,rfl,l.keep e,rfl,_,rfl,b,_,_,_,rfl,rfl,o.keep e,rfl,?_⟩;refine ⟨_,_,.cons (S.keep e) (.cons (q.keep e) .nil),⟨_,_,rfl,tb.c.sm (by omega),b1.sm (by omega),rfl⟩,λ b0 b3 C D=>?_⟩
 have g:=e.trans C;refine ⟨_,rfl,a,_,_,_,rfl,rfl,l.keep g,rfl,_,rfl,b,_,_,_,rfl,rfl,o.keep g,rfl,?_⟩;refine ⟨_,_,.cons (U.keep g) (.cons (u.keep g) .nil),⟨_,_,rfl,tb.d.sm (by omega),b2.sm (by omega),rfl⟩,λ b4 b5 v F=>?_⟩
 refine ⟨_,_,.cons (D.keep v) (.cons F .nil),⟨_,_,rfl,(tb.c.mul b1).sm (by omega),(tb.d.mul b2).sm (by omega),rfl⟩,λ b6 b7 G I=>?_⟩
 refine ⟨_,rfl,_,rfl,(by show 2<=Y7;decide),λ p J=>?_⟩
 exact k _ _ (g.trans (v.trans (G.trans (Aj J _)))) (DV.upd2 J (B.keep (C.trans (v.trans G))) I)
theorem jl (T:Txt K mg ad):CalB P w K mg base true 5 "joined" ["first","second"] (PR K m8):=by
 refine T.VN.calN yH (λ _ _ _ _ _ _=>Ba λ _ _=>rfl) (λ vs H Q E F=>?_) (λ f W A outer s H vs Q E i F=>?_)
 ·obtain ⟨_,_,dv,⟨_,_,_,rfl,_⟩,_⟩:=F;exact dv.len
 obtain ⟨_,_,dv,⟨t,u,n,rfl,tt,j,l,rfl⟩,k⟩:=F;obtain ⟨_,y,rfl,G,o⟩:=dv.two;obtain ⟨a,I,J,L,M,rfl,g,N,O,R,S⟩:=DV.t4 G;refine ⟨_,(Af (Am (Ah (fH T) i.m Ag (BL (Ah (jt T) i.m Ag (Ac (pv 1) (Do (Bk (Ao (Ad ix_tup (pv 0) Ab) (Ao (Ad ix_tup (pv 0) Ab) Aa))) Aa))) (BL (Ah (jt T) i.m Ag (Ac (pv 1) (Do (Bk (Ao (Ad ix_tup (pv 0) Ab) (Ao (Ad ix_tup (pv 0) Ab) Aa))) Aa))) Aa))))),?_⟩
 refine ⟨_,rfl,_,rfl,a,_,_,_,rfl,rfl,g,rfl,_,rfl,a,_,_,_,rfl,rfl,g,rfl,(by show 2<=Y7;decide),λ p q=>?_⟩
 have r:=Aj q (.tup [I,L]);refine ⟨_,_,.cons (o.keep r) (.cons (DV.upd2 q N R) .nil),⟨u,(t.a,t.c),n,rfl,j,tt.a,tt.c,l,rfl⟩,λ X Y U v=>?_⟩
 have e:=r.trans U;refine ⟨_,rfl,_,rfl,a,_,_,_,rfl,rfl,g.keep e,rfl,_,rfl,a,_,_,_,rfl,rfl,g.keep e,rfl,(by show 2<=Y7;decide),λ Z h=>?_⟩
 have x:=Aj h (.tup [J,M]);have z:=e.trans x;refine ⟨_,_,.cons (o.keep z) (.cons (DV.upd2 h (O.keep e) (S.keep e)) .nil),⟨u,(t.b,t.d),n,rfl,j,tt.b,tt.d,l,rfl⟩,λ a0 a1 B C=>?_⟩
 exact ⟨_,_,.cons (v.keep (x.trans B)) (.cons C .nil),⟨_,_,rfl,rfl⟩,λ a2 a3 V D=>k _ _ (z.trans (B.trans V)) D⟩
theorem cC (T:Txt K mg ad):CalB P w K mg base true 4 "spread_of" ["table","s"] (PR K yX):=by
 refine T.XR.calN Xb (λ _ _ _ _ _ _=>Ba λ _ _=>rfl) (λ vs H Q E F=>?_) (λ f O A outer s H vs Q E h F=>?_)
 ·obtain ⟨_,_,dv,⟨_,_,_,rfl,_⟩,_⟩:=F;exact dv.len
 obtain ⟨_,_,dv,⟨t,q,n,rfl,tb,j,R,rfl⟩,k⟩:=F;obtain ⟨_,y,rfl,G,r⟩:=dv.two;obtain ⟨a,S,U,V,W,rfl,l,I,J,L,M⟩:=DV.t4 G;refine ⟨_,(Ae (Ar (i:=2) Xb.nd (Ah (V5 T) h.m Ag (BL (Ah (KC T) h.m Ag (Ao (Ad ix_tup (pv 0) Ab) (Ac (pv 1) Aa))) (Ao (Ad ix_tup (pv 0) Ab) Aa)))) (Ae (Ar (i:=3) Xb.nd (Ah (V5 T) h.m Ag (BL (Ah (KC T) h.m Ag (Ao (Ad ix_tup (pv 0) Ab) (Ac (pv 1) Aa))) (Ao (Ad ix_tup (pv 0) Ab) Aa)))) (Af (Am (Bk (Ac (pv 2) (Ac (pv 3) Aa))))))),?_⟩
 refine ⟨_,rfl,a,_,_,_,rfl,rfl,l,rfl,_,rfl,?_⟩;refine ⟨_,_,.cons I (.cons r .nil),⟨_,_,rfl,tb.a.sm (by omega),j.sm (by omega),rfl⟩,λ X Y o u=>?_⟩
 refine ⟨_,rfl,a,_,_,_,rfl,rfl,l.keep o,rfl,?_⟩;refine ⟨_,_,.cons u (.cons (J.keep o) .nil),⟨_,_,rfl,(tb.a.mul j).sm (by omega),tb.b.sm (by omega),rfl⟩,λ Z a0 N v=>?_⟩
 have e:=o.trans N;refine ⟨_,rfl,a,_,_,_,rfl,rfl,l.keep e,rfl,_,rfl,?_⟩;refine ⟨_,_,.cons (L.keep e) (.cons (r.keep e) .nil),⟨_,_,rfl,tb.c.sm (by omega),j.sm (by omega),rfl⟩,λ a1 a2 x z=>?_⟩
 have g:=e.trans x;refine ⟨_,rfl,a,_,_,_,rfl,rfl,l.keep g,rfl,?_⟩;refine ⟨_,_,.cons z (.cons (M.keep g) .nil),⟨_,_,rfl,(tb.c.mul j).sm (by omega),tb.d.sm (by omega),rfl⟩,λ a3 a4 B C=>?_⟩
 refine ⟨_,rfl,_,rfl,(by show 2<=Y7;decide),λ p D=>?_⟩
 exact k _ _ (g.trans (B.trans (Aj D _))) (DV.upd2 D (v.keep (x.trans B)) C)
theorem AH9 (T:Txt K mg ad):CalB P w K mg base true 6 "image_of" ["table","s"] (PR K tO):=by
 refine T.Qu.calN Y6 (λ _ _ _ _ _ _=>Ba λ _ _=>rfl) (λ vs H Q E C=>?_) (λ f M A outer s H vs Q E d C=>?_)
 ·obtain ⟨_,_,dv,⟨_,_,_,rfl,_⟩,_⟩:=C;exact dv.len
 obtain ⟨_,_,dv,⟨t,q,n,rfl,tb,l,r,N,rfl⟩,k⟩:=C;obtain ⟨_,y,rfl,u,D⟩:=dv.two;obtain ⟨e,g⟩:=cD tb r;refine ⟨_,(Ae (Cw (Ah (Ot T) d.m Ag (Ac (pv 0) Aa))) (Ae (Ar (i:=2) Y6.nd (Ah (cC T) d.m Ag (Ac (pv 0) (Ac (pv 1) Aa)))) (Ae (Aw (Az (Gn d.units) (Ad ix_tup (pv 2) Ab) (BZ (v:=.ref ad.NOUGHT) rfl T.ex.m_NOUGHT rfl)) (Af (Am DX)) Ax) (Af (Am (Ah (KJ T) d.m Ag (Ac (BZ (v:=.ref ad.NOUGHT) rfl T.ex.m_NOUGHT rfl) (BL (Ah (Uv T) d.m Ag (Ao (Ad ix_tup (pv 2) Ab) (Ao (Ad ix_tup (pv 2) Ab) Aa))) Aa)))))))),?_⟩
 refine ⟨_,rfl,_,_,.cons u .nil,⟨t,n,rfl,tb,by omega,l,rfl⟩,λ O R o _=>?_⟩
 refine ⟨_,rfl,_,rfl,_,_,.cons (u.keep o) (.cons (D.keep o) .nil),⟨t,q,n,rfl,tb,r,by omega,rfl⟩,λ v F G hv=>?_⟩
 obtain ⟨b,S,U,rfl,p,x,h⟩:=DV.t2 hv;have j:=o.trans G;refine ⟨_,rfl,b,_,_,_,rfl,rfl,p,rfl,Qj h (dN T F) ⟨_,rfl,?_⟩⟩;unfold img at k;by_cases a:(spread t q).2=0
 ·rw [if_pos a] at k;exact Bg (decide_eq_true a) (k _ _ j .non)
 ·rw [if_neg a] at k;refine BR (decide_eq_false a) ?_;refine ⟨_,rfl,b,_,_,_,rfl,rfl,p,rfl,_,rfl,b,_,_,_,rfl,rfl,p,rfl,?_⟩;refine ⟨_,_,.cons x (.cons h .nil),⟨_,_,rfl,e.sm (by omega),g.sm (by omega),a,rfl⟩,λ V I J z=>?_⟩
  exact ⟨_,_,.cons (dN T I) (.cons z .nil),⟨0,_,rfl,Sm.zero,(e.div g a).sm (by omega),rfl⟩,λ W X L B=>k _ _ (j.trans (J.trans L)) B⟩
theorem wZ (T:Txt K mg ad):CalB P w K mg base true 6 "growth_of" ["table","s"] (PR K jy):=by
 refine T.Wt.calN bY (λ _ _ _ _ _ _=>Ba λ _ _=>rfl) (λ vs H Q E z=>?_) (λ f F A outer s H vs Q E d z=>?_)
 ·obtain ⟨_,_,dv,⟨_,_,_,rfl,_⟩,_⟩:=z;exact dv.len
 obtain ⟨_,_,dv,⟨t,q,n,rfl,tb,h,l,J,rfl⟩,k⟩:=z;obtain ⟨_,y,rfl,o,B⟩:=dv.two;obtain ⟨G,p⟩:=cD tb l;refine ⟨_,(Ae (Cw (Ah (Ot T) d.m Ag (Ac (pv 0) Aa))) (Ae (Ar (i:=2) bY.nd (Ah (cC T) d.m Ag (Ac (pv 0) (Ac (pv 1) Aa)))) (Ae (Aw (Az (Gn d.units) (Ad ix_tup (pv 2) Ab) (BZ (v:=.ref ad.NOUGHT) rfl T.ex.m_NOUGHT rfl)) (Af (Am DX)) Ax) (Af (Am (Ah (Uv T) d.m Ag (Ac (BZ (v:=.ref ad.ONE) rfl T.ex.m_ONE rfl) (Ao (Ad ix_tup (pv 2) Ab) Aa)))))))),?_⟩
 refine ⟨_,rfl,_,_,.cons o .nil,⟨t,n,rfl,tb,by omega,h,rfl⟩,λ L M j _=>?_⟩
 refine ⟨_,rfl,_,rfl,_,_,.cons (o.keep j) (.cons (B.keep j) .nil),⟨t,q,n,rfl,tb,l,by omega,rfl⟩,λ v r C hv=>?_⟩
 obtain ⟨b,N,O,rfl,u,I,e⟩:=DV.t2 hv;have g:=j.trans C;refine ⟨_,rfl,b,_,_,_,rfl,rfl,u,rfl,Qj e (dN T r) ⟨_,rfl,?_⟩⟩;unfold Oh at k;by_cases a:(spread t q).2=0
 ·rw [if_pos a] at k;exact Bg (decide_eq_true a) (k _ _ g .non)
 ·rw [if_neg a] at k;refine BR (decide_eq_false a) ?_;refine ⟨_,rfl,b,_,_,_,rfl,rfl,u,rfl,?_⟩;exact ⟨_,_,.cons (dO T r) (.cons e .nil),⟨1,_,rfl,Sm.one,p.sm (by omega),a,rfl⟩,λ R S D x=>k _ _ (g.trans D) x⟩
theorem dL (T:Txt K mg ad)(H:Hp):DV K H (.ref ad.LEAVING) (CV Tab.id):=.tup (T.ex.s_LEAVING H) (.cons (dO T H) (.cons (dN T H) (.cons (dN T H) (.cons (dO T H) .nil))))
theorem Xp (T:Txt K mg ad):CalB P w K mg base true 4 "less" ["one"] (PR K pI):=by
 refine T.Ug.calN wY (λ _ _ _ _ _ _=>Bl λ _=>rfl) (λ vs H Q E a=>?_) (λ f h A outer s H vs Q E b a=>?_)
 ·obtain ⟨_,_,dv,⟨_,rfl,_⟩,_⟩:=a;exact dv.len
 obtain ⟨_,_,dv,⟨q,rfl,d,rfl⟩,k⟩:=a;obtain ⟨_,rfl,e⟩:=dv.one;refine ⟨_,(Af (Am (Ah (KJ T) b.m Ag (Ac (BZ (v:=.ref ad.NOUGHT) rfl T.ex.m_NOUGHT rfl) (Ac (pv 0) Aa))))),?_⟩
 exact ⟨_,rfl,_,_,.cons (dN T H) (.cons e .nil),⟨0,q,rfl,Sm.zero,d,rfl⟩,λ v i g hv=>k _ _ g hv⟩
theorem dh (T:Txt K mg ad):CalB P w K mg base true 4 "part_short_of_one" ["one","whole"] (PR K rD):=by
 refine T.Ry.calN AI5 (λ _ _ _ _ _ _=>Ba λ _ _=>rfl) (λ vs H Q E i=>?_) (λ f q A outer s H vs Q E a i=>?_)
 ·obtain ⟨_,_,dv,⟨_,_,_,rfl,_⟩,_⟩:=i;exact dv.len
 obtain ⟨_,_,dv,⟨x,y,n,rfl,b,d,r,j,rfl⟩,k⟩:=i;obtain ⟨_,_,rfl,l,o⟩:=dv.two;refine ⟨_,(Af (Am (Ah (Uv T) a.m Ag (BL (Ah (KJ T) a.m Ag (Ac (BZ (v:=.ref ad.ONE) rfl T.ex.m_ONE rfl) (Ac (pv 0) Aa))) (Ac (pv 1) Aa))))),?_⟩
 refine ⟨_,rfl,_,_,.cons (dO T H) (.cons l .nil),⟨1,x,rfl,Sm.one,b.sm (by omega),rfl⟩,λ t u e g=>?_⟩
 exact ⟨_,rfl,_,_,.cons g (.cons (o.keep e) .nil),⟨_,_,rfl,((G6 1 (by decide)).sub b).sm (by omega),d.sm (by omega),j,rfl⟩,λ z B p h=>k _ _ (e.trans p) h⟩
theorem nu (T:Txt K mg ad):CalB P w K mg base true 5 "glass_gap_glass" ["table"] (rN K):=by
 refine T.X8.calN Qn (λ _ _ _ _ _ _=>Bl λ _=>rfl) (λ vs H Q E N=>?_) (λ f Z A outer s H vs Q E B N=>?_)
 ·obtain ⟨_,_,_,_,_,_,rfl,_⟩:=N;rfl
 obtain ⟨v,a,b,c,d,n,rfl,hv,tb,C,D,q⟩:=N;obtain ⟨t,a0,F,a1,a2,rfl,ht,O,u,a3,R⟩:=DV.t4 hv;refine ⟨_,(Ae (Ar (i:=1) Qn.nd (Bk (Ac (BZ (v:=.str "glass") rfl T.ex.m_GLASS ⟨⟨_,T.ex.z_GLASS⟩,rfl⟩) (BL (Ah (dh T) B.m Ag (Ao (Ad ix_tup (pv 0) Ab) (Ao (Ad ix_tup (pv 0) Ab) Aa))) Aa)))) (Ae (Ar (i:=2) Qn.nd (Bk (Ac (BZ (v:=.str "glass") rfl T.ex.m_GLASS ⟨⟨_,T.ex.z_GLASS⟩,rfl⟩) (BL (Ah (dh T) B.m Ag (Ao (Ad ix_tup (pv 0) Ab) (Ao (Ad ix_tup (pv 0) Ab) Aa))) Aa)))) (Af (Am (Bu (Ac (pv 1) (Do (Bk (Ac (BZ (v:=.str "gap") rfl T.ex.m_GAP ⟨⟨_,T.ex.z_GAP⟩,rfl⟩) (Ao (Ad ix_tup (pv 0) Ab) Aa))) (Ac (pv 2) Aa)))))))),?_⟩
 refine ⟨_,rfl,t,_,_,_,rfl,rfl,ht,rfl,_,rfl,t,_,_,_,rfl,rfl,ht,rfl,_,_,.cons O (.cons u .nil),⟨a,b,n,rfl,tb.a,tb.b,C,D,rfl⟩,λ x G S I=>⟨(by show 2<=Y7;decide),λ g o=>?_⟩⟩
 have U:=Aj o (.tup [.str "glass",x]);have e1:DV K (upd G g (.tup [.str "glass",x])) (.ref g) (Bh (.glass ((1 - a) / b))):=DV.upd2 o (.str _) I;have t1:=S.trans U;generalize upd G g (.tup [.str "glass",x])=a4 at e1 t1 ⊢;refine ⟨_,rfl,t,_,_,_,rfl,rfl,ht.keep t1,rfl,_,rfl,t,_,_,_,rfl,rfl,ht.keep t1,rfl,_,_,.cons (R.keep t1) (.cons (u.keep t1) .nil),⟨d,b,n,rfl,tb.d,tb.b,C,D,rfl⟩,λ y J V L=>⟨(by show 2<=Y7;decide),λ h p=>?_⟩⟩
 have W:=Aj p (.tup [.str "glass",y]);have M:DV K (upd J h (.tup [.str "glass",y])) (.ref h) (Bh (.glass ((1 - d) / b))):=DV.upd2 p (.str _) L;have e:=V.trans W;have t3:=t1.trans e;generalize upd J h (.tup [.str "glass",y])=X at M e t3 ⊢;refine ⟨_,rfl,_,rfl,t,_,_,_,rfl,rfl,ht.keep t3,rfl,(by show 2<=Y7;decide),λ z r=>⟨_,rfl,(by show 3<=Y7;decide),λ l hl=>?_⟩⟩
 have j:=Aj r (.tup [.str "gap",F]);have Y:DV K (upd X z (.tup [.str "gap",F])) (.ref z) (Bh (.gap b)):=DV.upd2 r (.str _) (u.keep t3);have k:=Aj hl (.lst [.ref g,.ref z,.ref h]);exact q l _ _ (t3.trans (j.trans k)) ((t3.trans j).free hl) Al (.cons (e1.keep (e.trans (j.trans k))) (.cons (Y.keep k) (.cons (M.keep (j.trans k)) .nil)))
theorem wF (T:Txt K mg ad):CalB P w K mg base true 5 "gap_glass_gap" ["table"] (ue K):=by
 refine T.Vo.calN Nb (λ _ _ _ _ _ _=>Bl λ _=>rfl) (λ vs H Q E O=>?_) (λ f a1 A outer s H vs Q E y O=>?_)
 ·obtain ⟨_,_,_,_,_,_,rfl,_⟩:=O;rfl
 obtain ⟨v,a,b,c,d,n,rfl,hv,tb,a2,a3,q⟩:=O;obtain ⟨t,a4,a5,a6,a7,rfl,ht,R,a8,S,U⟩:=DV.t4 hv;have F:¬ 0 - c=0:=by grind
 have bs:Bd (n+2) (0 - c):=((GR 1 (by decide)).sub tb.c).mono (by omega)
 refine ⟨_,(Ae (Ar (i:=1) Nb.nd (Ah (Xp T) y.m Ag (Ao (Ad ix_tup (pv 0) Ab) Aa))) (Ae (Ar (i:=2) Nb.nd (Bk (Ac (BZ (v:=.str "gap") rfl T.ex.m_GAP ⟨⟨_,T.ex.z_GAP⟩,rfl⟩) (BL (Ah (dh T) y.m Ag (Ao (Ad ix_tup (pv 0) Ab) (Ac (pv 1) Aa))) Aa)))) (Ae (Ar (i:=3) Nb.nd (Bk (Ac (BZ (v:=.str "gap") rfl T.ex.m_GAP ⟨⟨_,T.ex.z_GAP⟩,rfl⟩) (BL (Ah (dh T) y.m Ag (Ao (Ad ix_tup (pv 0) Ab) (Ac (pv 1) Aa))) Aa)))) (Af (Am (Bu (Ac (pv 2) (Do (Bk (Ac (BZ (v:=.str "glass") rfl T.ex.m_GLASS ⟨⟨_,T.ex.z_GLASS⟩,rfl⟩) (Ac (pv 1) Aa))) (Ac (pv 3) Aa))))))))),?_⟩
 refine ⟨_,rfl,t,_,_,_,rfl,rfl,ht,rfl,_,_,.cons S .nil,⟨c,rfl,tb.c.sm (by omega),rfl⟩,λ G a9 z h=>?_⟩
 refine ⟨_,rfl,t,_,_,_,rfl,rfl,ht.keep z,rfl,_,rfl,_,_,.cons (U.keep z) (.cons h .nil),⟨d,0 - c,n+2,rfl,tb.d.mono (by omega),bs,by omega,F,rfl⟩,λ B I V J=>⟨(by show 2<=Y7;decide),λ j r=>?_⟩⟩
 have W:=Aj r (.tup [.str "gap",B]);have e1:DV K (upd I j (.tup [.str "gap",B])) (.ref j) (Bh (.gap ((1 - d) / (0 - c)))):=DV.upd2 r (.str _) J;have e:=V.trans W;have t1:=z.trans e;generalize upd I j (.tup [.str "gap",B])=b0 at e1 e t1 ⊢;refine ⟨_,rfl,t,_,_,_,rfl,rfl,ht.keep t1,rfl,_,rfl,_,_,.cons (R.keep t1) (.cons (h.keep e) .nil),⟨a,0 - c,n+2,rfl,tb.a.mono (by omega),bs,by omega,F,rfl⟩,λ C L X M=>⟨(by show 2<=Y7;decide),λ k u=>?_⟩⟩
 have Y:=Aj u (.tup [.str "gap",C]);have N:DV K (upd L k (.tup [.str "gap",C])) (.ref k) (Bh (.gap ((1 - a) / (0 - c)))):=DV.upd2 u (.str _) M;have g:=X.trans Y;have t3:=t1.trans g;generalize upd L k (.tup [.str "gap",C])=Z at N g t3 ⊢;refine ⟨_,rfl,_,rfl,(by show 2<=Y7;decide),λ D x=>⟨_,rfl,(by show 3<=Y7;decide),λ l hl=>?_⟩⟩
 have o:=Aj x (.tup [.str "glass",G]);have a0:DV K (upd Z D (.tup [.str "glass",G])) (.ref D) (Bh (.glass (0 - c))):=DV.upd2 x (.str _) (h.keep (e.trans g));have p:=Aj hl (.lst [.ref j,.ref D,.ref k]);exact q l _ _ (t3.trans (o.trans p)) ((t3.trans o).free hl) Al (.cons (e1.keep (g.trans (o.trans p))) (.cons (a0.keep p) (.cons (N.keep (o.trans p)) .nil)))
theorem yW (T:Txt K mg ad):CalB P w K mg base true 6 "taken_apart" ["table"] (zu K):=by
 refine T.VG.calN Nu (λ _ _ _ _ _ _=>Bl λ _=>rfl) (λ vs H Q E d4=>?_) (λ f b4 A outer s H vs Q E y d4=>?_)
 ·obtain ⟨_,_,_,rfl,_⟩:=d4;rfl
 obtain ⟨v,t,n,rfl,hv,tb,D,det,q⟩:=d4;obtain ⟨e6,d5,a8⟩:∃b5,PSs (Dn true P w K mg base ["table","pieces"] "taken_apart" (defScope K4) f b4 A outer s H E).nox ((defBody K4).drop 3) b5/\∀(d6:Ends) (J:Addr) (xs:List V) (ps:List Pc) (p:Hp),Same H p->p J=some (.lst xs)->DVs K p xs (ps.map Bh)->Nv ps->ps.length<=4->(∀l j h,Same p j->p l=none->j l=some (.lst h)->DVs K j h ((ps.filter nz).map Bh)->d6.rt (.ref l) j)->b5 d6 [some v,some (.ref J)] p:=by
  refine ⟨_,(Af (Am (Ej ["piece"] [none] rfl (DY (pv 1)) (λ _ _ _ _ _=>(Bc (i:=0) (show Uz [("piece":Str)] by decide))) (λ _ _ _ _ _=>(dY (Az (iT (K:=K) y.units) (Ad (W0 (K:=K)) (pv 0) Ab) (BZ (v:=.ref ad.NOUGHT) rfl T.ex.m_NOUGHT rfl)))) (λ _ _ _ _ _=>(pv 0)) (Ds (by decide) (by decide)) (by decide) rfl (by decide) rfl (Dt rfl)))),?_⟩
  intro d6 J xs ps p e7 a1 a2 ns b6 k;have hl:xs.length=ps.length:=by have:=a2.len;rw [Y3] at this;exact this
  refine ⟨_,rfl,J,rfl,⟨_,SqL.of a1⟩,?_⟩;refine XC (K:=K) (a:=J) (xs:=xs) (λ i Y h j=>∃c0,Y=[c0]/\j=p/\DVs K p h (((ps.take i).filter nz).map Bh)) ⟨_,rfl,rfl,.nil⟩ ?_ ?_ ?_
  ·rintro i Y h j L ⟨c0,rfl,rfl,g⟩
   refine ⟨?_,SqL.of a1⟩;have Z:=g.len;rw [Y3] at Z;have a9:=QP nz (ps.take i);rw [XE] at a9;exact XP (small1000 (by omega))
  ·rintro i x Y h j L ⟨c0,rfl,rfl,g⟩
   obtain ⟨d,hd,b7⟩:=a2.get L;obtain ⟨I,a3,rfl⟩:=HB hd;have b8:=ns I (ZN a3);obtain ⟨wd,b9⟩:∃wd:String,Bh I=.tuple [.str wd,Ai I.part]:=by
    cases I with
    | gap e=>exact ⟨_,rfl⟩
    | glass e=>exact ⟨_,rfl⟩
    | stop lo L=>cases b8
   have a4:=b7;rw [b9] at a4;obtain ⟨d7,f3,e8,rfl,c1,e9,c2⟩:=DV.t2 a4;refine ⟨_,rfl,d7,_,_,_,rfl,rfl,c1,rfl,QZ c2 (dN T _) ⟨_,rfl,?_⟩⟩;have c3:(ps.take (i+1)).filter nz=(ps.take i).filter nz++[I].filter nz:=by
    rw [XV,a3,wc];rfl
   cases D:nz I with
   | true=>
    refine Bg D ⟨_,rfl,nx (CK L) ⟨_,rfl,rfl,?_⟩⟩;rw [c3,GY D,ZH];exact g.append (.cons b7 .nil)
   | false=>
    refine BR D (nx (CK L) ⟨_,rfl,rfl,?_⟩);rw [c3,GZ (by rw [D];exact Zo)]
    show DVs K j h (((ps.take i).filter nz++[]).map Bh);rw [WJ];exact g
  ·rintro Y h j l ⟨c0,rfl,rfl,g⟩ M
   rw [hl,WA] at g;exact k l _ h (Aj M _) M Al (g.keep (Aj M _))
 refine ⟨_,(Ae (Cw (Ah (Ot T) y.m Ag (Ac (pv 0) Aa))) (Ae (Aw (Az (Gn y.units) (pv 0) (BZ (v:=.ref ad.LEAVING) rfl T.ex.m_LEAVING rfl)) (Af (Am (Bu Aa))) Ax) (Ae (Aw (Az (Gy y.units) (Ad ix_tup (pv 0) Ab) (BZ (v:=.ref ad.NOUGHT) rfl T.ex.m_NOUGHT rfl)) (Af (Ar (i:=1) Nu.nd (Ah (nu T) y.m Ag (Ac (pv 0) Aa)))) (Af (Aw (Az (Gy y.units) (Ad ix_tup (pv 0) Ab) (BZ (v:=.ref ad.NOUGHT) rfl T.ex.m_NOUGHT rfl)) (Af (Ar (i:=1) Nu.nd (Ah (wF T) y.m Ag (Ac (pv 0) Aa)))) (Af (Ar (i:=1) Nu.nd (Ak G5 (Bu (Do (Bk (Ac (BZ (v:=.str "gap") rfl T.ex.m_GAP ⟨⟨_,T.ex.z_GAP⟩,rfl⟩) (Ac (BZ (v:=.ref ad.ONE) rfl T.ex.m_ONE rfl) Aa))) Aa)) (Ah (nu T) y.m Ag (Do (Bk (Ao (Ad ix_tup (pv 0) Ab) (BL (Ah (Xp T) y.m Ag (Ao (Ad ix_tup (pv 0) Ab) Aa)) (Ac (BZ (v:=.ref ad.NOUGHT) rfl T.ex.m_NOUGHT rfl) (Ao (Ad ix_tup (pv 0) Ab) Aa))))) Aa)))))))) d5))),?_⟩
 refine ⟨_,rfl,_,_,.cons hv .nil,⟨t,n,rfl,tb,D,det,rfl⟩,λ f0 b0 r _=>?_⟩
 have G:=hv.keep r;refine ⟨_,rfl,YD G (dL T _) ⟨_,rfl,?_⟩⟩;by_cases u:t=Tab.id
 ·refine Bg (decide_eq_true u) ⟨(by show 0<=Y7;decide),λ l hl=>?_⟩
  refine q l _ [] (r.trans (Aj hl _)) (r.free hl) Al ?_;unfold DK;rw [if_pos u];exact .nil
 refine BR (decide_eq_false u) ?_;obtain ⟨N,c4,f1,f2,c5,rfl,ht,Z,a9,d8,b6⟩:=DV.t4 G;refine ⟨_,rfl,N,_,_,_,rfl,rfl,ht,rfl,QZ a9 (dN T _) ⟨_,rfl,?_⟩⟩;by_cases F:t.b=0
 ·refine BR (by rw [decide_eq_true F];rfl) ?_
  refine ⟨_,rfl,N,_,_,_,rfl,rfl,ht,rfl,QZ d8 (dN T _) ⟨_,rfl,?_⟩⟩;by_cases O:t.c=0
  ·refine BR (by rw [decide_eq_true O];rfl) ?_
   have d9:=yR det F;have e0:Bd (n+2) (0 - t.a):=((GR 1 (by decide)).sub tb.a).mono (by omega)
   refine ⟨(by show 2<=Y7;decide),λ B a5=>⟨(by show 1<=Y7;decide),λ a0 c6=>?_⟩⟩
   have c7:=Aj a5 (.tup [.str "gap",.ref ad.ONE]);have b1:=Aj c6 (.lst [.ref B]);have e1:DV K _ (.ref B) (Bh (.gap 1)):=(DV.upd2 a5 (.str _) (dO T b0)).keep b1;have R:upd (upd b0 B (.tup [.str "gap",.ref ad.ONE])) a0 (.lst [.ref B]) a0=some (.lst [.ref B]):=Al;have t1:=c7.trans b1;clear c7 b1;generalize upd (upd b0 B (.tup [.str "gap",.ref ad.ONE])) a0 (.lst [.ref B])=p at e1 R t1 ⊢;refine ⟨_,rfl,N,_,_,_,rfl,rfl,ht.keep t1,rfl,_,rfl,N,_,_,_,rfl,rfl,ht.keep t1,rfl,_,_,.cons (Z.keep t1) .nil,⟨t.a,rfl,tb.a.sm (by omega),rfl⟩,λ c8 e2 c9 d0=>?_⟩
   have t3:=t1.trans c9;refine ⟨_,rfl,N,_,_,_,rfl,rfl,ht.keep t3,rfl,(by show 4<=Y7;decide),λ d1 a6=>?_⟩
   have e3:=Aj a6 (.tup [c4,c8,.ref ad.NOUGHT,c5]);have e4:DV K (upd e2 d1 (.tup [c4,c8,.ref ad.NOUGHT,c5])) (.ref d1) (CV ⟨t.a,0 - t.a,0,t.d⟩):=DV.upd4 a6 (Z.keep t3) d0 (dN T _) (b6.keep t3);refine ⟨_,t.a,0 - t.a,0,t.d,n+2,rfl,e4,⟨tb.a.mono (by omega),e0,GR (n+2) (by omega),tb.d.mono (by omega)⟩,by omega,d9,λ S d2 h z a7 C g=>?_⟩
   have U:=c9.trans (e3.trans z);have W:=g.len;rw [Y3] at W;have W:h.length=3:=W;refine ⟨a0,S,_,_,rfl,rfl,U _ _ R,C,XP (small1000 (by simp only [X4,YR];omega)),λ e5 d3=>?_⟩
   have b2:=Aj d3 (.lst ([.ref B]++h));have b3:=r.trans (t1.trans (U.trans b2));refine a8 _ e5 _ (.gap 1::Df t.a (0 - t.a) t.d) _ b3 Al (.cons (e1.keep (U.trans b2)) (g.keep b2)) (m7 _ _ _) (by show 4<=4;decide) λ l j zs s' X hl o=>?_
   rw [zx u F O] at o;exact q l _ zs (b3.trans s') (b3.free X) hl o
  ·refine Bg (by rw [decide_eq_false O];rfl) ?_
   refine ⟨_,rfl,_,t.a,t.b,t.c,t.d,n,rfl,G,tb,D,O,λ S d2 h z a7 C g=>?_⟩
   refine a8 _ S h (FQ t.a t.c t.d) _ (r.trans z) C g (AL7 _ _ _) (by show 3<=4;decide) λ l j zs s' X hl o=>?_
   rw [za u F O] at o;exact q l _ zs ((r.trans z).trans s') ((r.trans z).free X) hl o
 ·refine Bg (by rw [decide_eq_false F];rfl) ?_
  refine ⟨_,rfl,_,t.a,t.b,t.c,t.d,n,rfl,G,tb,by omega,F,λ S d2 h z a7 C g=>?_⟩
  refine a8 _ S h (Df t.a t.b t.d) _ (r.trans z) C g (fW _ _ _) (by show 3<=4;decide) λ l j zs s' X hl o=>?_
  rw [yC u F] at o;exact q l _ zs ((r.trans z).trans s') ((r.trans z).free X) hl o
end
end K73
section
open PySem L2 Lib Fr Op K73
local macro_rules | `(tactic| walk_at "Zs")=>`(tactic| first | with_reducible assumption | with_reducible exact Same.refl _ | exact zs1 (by with_reducible assumption) (by walk_at "Zs") | exact zs2 (by with_reducible assumption) (by walk_at "Zs"))
local macro_rules | `(tactic| walk_at "Zd")=>`(tactic| first | with_reducible assumption | with_reducible exact DV.int _ | with_reducible exact DV.str _ | with_reducible exact DV.bl _ | with_reducible exact DV.non | exact W5 (by first | with_reducible assumption | assumption) (by walk_at "Zs") | with_reducible exact dN (by assumption) _ | with_reducible exact dO (by assumption) _ | exact zd2 (by with_reducible assumption) (by walk_at "Zs") (by walk_at "Zd") (by walk_at "Zd") | exact zd3 (by with_reducible assumption) (by walk_at "Zs") (by walk_at "Zd") (by walk_at "Zd") (by walk_at "Zd") | exact zd4 (by with_reducible assumption) (by walk_at "Zs") (by walk_at "Zd") (by walk_at "Zd") (by walk_at "Zd") (by walk_at "Zd"))
local macro_rules | `(tactic| walk_at "Zt")=>`(tactic| first | assumption | exact zt1 (by assumption) (by walk_at "Zs") | exact zt2 (by walk_at "Zs"))
local macro_rules | `(tactic| walk_at "Zl")=>`(tactic| first | assumption | exact zl1 (by assumption) (by walk_at "Zs") | exact zl2 (by walk_at "Zs"))
local macro_rules | `(tactic| walk_at "Zv")=>`(tactic| first | exact DVs.nil | exact DVs.cons (by walk_at "Zd") (by walk_at "Zv"))
local macro_rules | `(tactic| walk_at "Zb")=>`(tactic| first | with_reducible assumption | exact GR 1 (by decide) | exact G6 1 (by decide) | with_reducible exact Bd.mul (by walk_at "Zb") (by walk_at "Zb") | with_reducible exact Bd.add (by walk_at "Zb") (by walk_at "Zb") | with_reducible exact Bd.sub (by walk_at "Zb") (by walk_at "Zb") | with_reducible exact Tb.a (by with_reducible assumption) | with_reducible exact Tb.b (by with_reducible assumption) | with_reducible exact Tb.c (by with_reducible assumption) | with_reducible exact Tb.d (by with_reducible assumption) | with_reducible exact Rb.y (by with_reducible assumption) | with_reducible exact Rb.u (by with_reducible assumption))
local macro_rules | `(tactic| walk_at "Zm")=>`(tactic| first | with_reducible assumption | with_reducible exact Sm.zero | with_reducible exact Sm.one | exact Bd.sm (by walk_at "Zb") (by first | decide | omega))
local macro_rules | `(tactic| walk_at "Zr")=>`(tactic| first | exact ⟨_,_,rfl,by walk_at "Zm",by walk_at "Zm",rfl⟩ | exact ⟨_,_,rfl,by walk_at "Zm",by walk_at "Zm",by assumption,rfl⟩)
local macro_rules | `(tactic| walk_at "Zc")=>`(tactic| (refine ⟨_,_,by walk_at "Zv",by walk_at "Zr",λ v H' s hv=>?_⟩;(first | (obtain rfl:=DV.bl_of hv) | (have:=(show DV _ _ _ (Ai _) from hv);clear this) | (obtain ⟨a,x1,x2,x3,x4,rfl,ha,h1,h2,h3,h4⟩:=DV.t4 hv) | (obtain ⟨a,x1,x2,x3,rfl,ha,h1,h2,h3⟩:=DV.t3 hv) | (obtain ⟨a,x1,x2,rfl,ha,h1,h2⟩:=DV.t2 hv) | skip)))
local macro_rules | `(tactic| walk_at "Zp")=>`(tactic| first | refine ⟨by (show 2<=sizeLine;decide),λ p hp=>?_⟩ | refine ⟨by (show 3<=sizeLine;decide),λ p hp=>?_⟩ | refine ⟨by (show 4<=sizeLine;decide),λ p hp=>?_⟩)
local macro_rules | `(tactic| walk_at "Zn")=>`(tactic| first | refine ⟨_,rfl,?_⟩ | refine ⟨_,_,_,_,rfl,rfl,by walk_at "Zt",by rfl,?_⟩ | refine ⟨_,_,rfl,rfl,?_⟩)
local macro_rules | `(tactic| walk_at "Z1")=>`(tactic| first | walk_at "Zn" | walk_at "Zp" | walk_at "Zc" | refine iteF ?_ | refine iteT ?_)
local macro_rules | `(tactic| walk_at "Z")=>`(tactic| repeat walk_at "Z1")
namespace K73
open PySem L2 Lib Fr Op
seal PE PT PW PA PS PSs PG PGs PI PO Bv
section
variable {P:ZY}{w:World}{K:FrG}{mg:Str->Option Value}{base:Heap}{ad:Adr}{c:Bool}
theorem ju (T:Txt K mg ad):CalB P w K mg base true 6 "rounds_of" ["table"] (PR K uO):=by
 refine T.Vr.calN Om (λ _ _ _ _ _ _=>Bl λ _=>rfl) (λ vs H Q E r=>?_) (λ f D A outer s H vs Q E h r=>?_)
 ·obtain ⟨_,_,dv,⟨_,_,rfl,_⟩,_⟩:=r;exact dv.len
 obtain ⟨_,_,dv,⟨t,n,rfl,tq,j,F,rfl⟩,k⟩:=r;obtain ⟨x,rfl,u⟩:=dv.one;refine ⟨_,(Ae (Cw (Ah (Ot T) h.m Ag (Ac (pv 0) Aa))) (Ae (Ar (i:=1) Om.nd (BZ (v:=.ref ad.LEAVING) rfl T.ex.m_LEAVING rfl)) (Ae (Dm Xs rfl (rE rfl T.range (BP Ab (Bf (Ak CJ (BZ (v:=.int 6) rfl T.ex.m_MOST_ROUNDS_OF_FRACTIONS ⟨_,rfl⟩) Ab) Aa))) (Bc (i:=2) Om.nd) (Ae (Ar (i:=1) Om.nd (Ah (jl T) h.m Ag (Ac (pv 1) (Ac (pv 0) Aa)))) (Af (Aw (Az (Gn h.units) (pv 1) (BZ (v:=.ref ad.LEAVING) rfl T.ex.m_LEAVING rfl)) (Af (Am (pv 2))) Ax)))) (Af (Am DX))))),?_⟩
 refine ⟨_,rfl,_,_,.cons u .nil,⟨t,n,rfl,tq.tb,by omega,j,rfl⟩,λ G I y _=>?_⟩
 refine ⟨_,_,rfl,rfl,1,7,rfl,⟨by decide,by decide,by decide,by decide⟩,?_⟩
 refine IK (lo:=1) (n:=6) (λ i l b=>∃o pv,l=[some x,some pv,o]/\Same H b/\DV K b pv (CV (t.pow i))/\lst t i=none) ⟨_,_,rfl,y,dL T _,rfl⟩ ?_ ?_
 ·rintro i l b J ⟨o,pv,rfl,d,p,hl⟩
  have z:=(tq.pow i).mono (show 1+i * (n+1)<=1900 by have:i * (n+1)<=6 * 301:=NF (by omega) (by omega);omega)
  refine ⟨_,rfl,_,rfl,_,_,by walk_at "Zv",⟨t.pow i,t,1900,rfl,z.tb,(tq.mono (by omega)).tb,by decide,rfl⟩,λ B C q a=>?_⟩
  have a:DV K C B (CV (t.pow (i+1))):=a;refine ⟨_,rfl,YD a (dL T _) ⟨_,rfl,?_⟩⟩;have e:=Mp hl;by_cases g:t.pow (i+1)=Tab.id
  ·rw [if_pos g] at e;refine Bg (decide_eq_true g) ⟨_,rfl,k _ _ (d.trans q) ?_⟩;rw [Lp e 6 (by omega),show (1:Int)+(i:Int)=((i+1:Nat):Int) by omega]
   exact .int _
  ·rw [if_neg g] at e;exact BR (decide_eq_false g) ⟨_,_,rfl,d.trans q,a,e⟩
 ·rintro l b ⟨o,pv,rfl,d,p,hl⟩
  refine k _ _ d ?_;rw [hl];exact .non
end
end K73
namespace K73
open PySem L2 Lib Fr Op Tx PySem.NumText
seal PE PT PW PA PS PSs PG PGs PI PO Bv PJ
section
variable {P:ZY}{w:World}{K:FrG}{mg:Y2->Option Value}{base:Heap}{ad:Adr}{c:Bool}
theorem Wq (T:Txt K mg ad):CalB P w K mg base true 1 "show_ratio" ["one"] (Qm K):=by
 refine T.Rz.calN Uj (λ _ _ _ _ _ _=>Bl λ _=>rfl) (λ vs H Q E g=>?_) (λ f k A outer s H vs Q E m g=>?_)
 ·obtain ⟨_,_,rfl,_⟩:=g;rfl
 obtain ⟨v,p,rfl,hv,sp,q⟩:=g;have b:=Nf sp.1;have hd:=Nf sp.2;obtain ⟨a,n,o,rfl,g,e1,e2⟩:=DV.t2 (show DV K H v (.tuple [.int p.num,.int (p.den:Int)]) from hv)
 obtain rfl:=DV.int_of e1;obtain rfl:=DV.int_of e2;refine ⟨_,(Ae (Ar (i:=1) Uj.nd (Ad ix_tup (pv 0) Ab)) (Ae (Ar (i:=2) Uj.nd (Ad ix_tup (pv 0) Ab)) (Ae (Aw (Az Bp (pv 2) Ab) (Af (Am (Fp XH rfl T.str Ep (Ac (pv 1) Aa)))) Ax) (Af (Am (AH8 (gW (pv 1) (vp (gW (pv 2) mK))))))))),?_⟩;refine ⟨_,rfl,a,_,_,_,rfl,rfl,g,rfl,?_⟩;refine ⟨_,rfl,a,_,_,_,rfl,rfl,g,rfl,?_⟩;refine ⟨_,rfl,rfl,_,rfl,?_⟩;have e1:∀x:Y2,cl x=sh p->x=Aq p:=λ x j=>ext (j.trans (Ha p).symm)
 refine ite2 (λ c1=>?_) (λ c1=>?_)
 ·have d:p.den=1:=by
   have l:decide (V.int (p.den:Int)=V.int 1)=true:=c1;rw [EY] at l;have:=of_decide_eq_true l;omega
  refine ⟨_,rfl,_,rfl,b,?_⟩;have e2:Y1 (toString p.num)=Aq p:=e1 _ (by rw [Jg];unfold sh;rw [if_pos d,WJ])
  show Q (.str (Y1 (toString p.num))) H;rw [e2];exact q
 ·have d:¬ p.den=1:=by
   intro e
   apply c1
   show decide (V.int (p.den:Int)=V.int 1)=true;rw [EY,e];rfl
  have h:((p.den:Int)).natAbs.log2 < 1920:=by rw [XW];exact hd
  have r:=QH b;have t:=QH h;have z0:jA.length=0:=rfl;have zs:(Y1 "/").length=1:=rfl;refine ⟨_,rfl,_,.inl ⟨_,rfl,b,rfl⟩,Br (by rw [Ck];omega),Br (by rw [Ck,Ck];omega),_,rfl,_,.inl ⟨_,rfl,h,rfl⟩,Br (by rw [Ck,Ck,Ck];omega),Br (by rw [Ck,Ck,Ck];omega),?_⟩
  have e2:=e1 _ (show cl ((jA++Y1 (toString p.num))++(Y1 "/")++Y1 (toString ((p.den:Nat):Int)))=sh p by
   rw [qx,cl,zz];unfold sh;rw [if_neg d])
  show Q (.str ((jA++Y1 (toString p.num))++(Y1 "/")++Y1 (toString ((p.den:Nat):Int)))) H;rw [e2];exact q
theorem yx (T:Txt K mg ad):CalB P w K mg base true 1 "read_part_figures" ["text"] jE:=by
 refine T.Vi.calN rM (λ _ _ _ _ _ _=>Bl λ _=>rfl) (λ vs H Q E g=>?_) (λ f i A outer s H vs Q E j g=>?_)
 ·obtain ⟨_,_,rfl,_⟩:=g;rfl
 obtain ⟨x,m,rfl,b,hl,q⟩:=g;have k:x.length=(dg m).length:=by rw [<- Dc,b]
 have l:=vR m;have d:x.length<=Y7:=XP (small1000 (by omega))
 refine ⟨_,(Ae (Aw (PW.pt (pw_or (Bt (bK O1 O1 Ab (Be aR rfl T.len Ce (Ac (pv 0) Aa)) (BZ (v:=.int 15) rfl T.ex.m_MOST_FIGURES ⟨_,rfl⟩))) (pw_or1 (Bt (Bj (Be (Mw rfl) rfl T.all PN (Cm (ak rfl (pv 0) T.ex.m_FIGURES (by decide) (by decide) rfl (by decide) rfl rfl rfl rfl) Aa))))))) (Af Cj) Ax) (Af (Am (Fp Jt rfl T.int Gs (Ac (pv 0) Aa))))),?_⟩
 refine ⟨_,rfl,x,rfl,d,_,_,rfl,rfl,_,rfl,Bg (decide_eq_true (by omega)) ⟨_,_,rfl,rfl,_,rfl,BR (by rw [decide_eq_true (by omega)];rfl) ?_⟩⟩
 refine ⟨_,rfl,x,rfl,d,λ p h=>?_⟩
 refine ⟨p,(cl x).map λ c=>decide (48<=c/\c<=57),rfl,SqL.of (by rw [AJ3];exact Al),_,rfl,?_⟩
 have a:NW (cl x):=by rw [b];exact G7 m
 rw [(qu (cl x)).mpr a];refine iteF ⟨_,rfl,x,(m:Int),rfl,by omega,?_,q _ (Aj h _)⟩
 have e:=intText_digits (x:=x) a (λ e=>by have:=Dc x;rw [cl,e] at this;simp at this;omega) (by omega)
 rw [e];show some ((digitsVal (cl x):Nat):Int)=some (m:Int);rw [b,Wh]
theorem eZ (T:Txt K mg ad):CalB P w K mg base true 3 "read_ratio" ["text"] (Xc K):=by
 refine T.W6.calN J8 (λ _ _ _ _ _ _=>Bl λ _=>rfl) (λ vs H Q E X=>?_) (λ f O A outer s H vs Q E g X=>?_)
 ·obtain ⟨_,rfl,_⟩:=X;rfl
 obtain ⟨q,rfl,z,k⟩:=X;have hl:=bJ q z;have ex:cl (Aq q)=sh q:=Ha q;have Y:(Aq q).length<=40:=by rw [<- Dc,ex];exact hl
 have R:=(Ei (m:=q.num.natAbs) (k:=15) (by decide)).mpr z.n
 have Z:=(Ei (m:=q.den) (k:=15) (by decide)).mpr z.d
 have a3:(Aq q).length+2<=Y7:=XP (small1000 (by omega))
 obtain ⟨a4,a0,S⟩:∃t,PSs (Dn true P w K mg base ["text","is_below","parts","top","bottom","one"] "read_ratio" (defScope K9) f O A outer s H E).nox ((defBody K9).drop 3) t/\∀(p:Addr) (ps:List Y2) (G:Hp) (a1:Ends),G p=some (.lst (ps.map V.str))->ps.map cl=cut 47 (bd q)->(∀v B,Same G B->DV K B v (Ai q)->a1.rt v B)->
   t a1 [some (.str (Aq q)),some (.bl (decide (q.num < 0))),some (.ref p),none,none,none] G:=by
  refine ⟨_,(Ae (Aw (Az HY (Be Cp rfl T.len Ce (Ac (pv 2) Aa)) Ab) (Af Cj) Ax) (Ae (Ar (i:=3) J8.nd (Ah (yx T) g.m Ag (Ao (Ad ix_list (pv 2) Ab) Aa))) (Ae (Ar (i:=4) J8.nd (J0 (Az Bp (Be Cp rfl T.len Ce (Ac (pv 2) Aa)) Ab) (Ah (yx T) g.m Ag (Ao (Ad ix_list (pv 2) Ab) Aa)) Ab)) (Ae (Ar (i:=5) J8.nd (Bk (qg (J0 (Bj (pv 1)) (Ak Ex Ab (pv 3)) (pv 3)) (Ac (pv 4) Aa)))) (Ae (Aw (PW.pt (pw_or (Bt (Bj (Ah (Sw T) g.m Ag (Ac (pv 5) Aa)))) (pw_or1 (Az Dk (Ah (Wq T) g.m Ag (Ac (pv 5) Aa)) (pv 0))))) (Af Cj) Ax) (Af (Am (pv 5)))))))),?_⟩
  intro p ps G a1 e a k;rw [kO] at a;have h:(if q.num < 0 then (0:Int) - ((q.num.natAbs:Nat):Int) else ((q.num.natAbs:Nat):Int))=q.num:=by split<;>omega
  have D:∀(u:Hp) (r:Addr),u r=none->∀v:Int,v=q.num->Same G u->DV K (upd u r (.tup [.int v,.int ((q.den:Nat):Int)])) (.ref r) (Ai q)/\Same G (upd u r (.tup [.int v,.int ((q.den:Nat):Int)])):=λ u r g v hv L=>by
   subst hv;exact ⟨.tup (SqT.of Al) (.cons (.int _) (.cons (.int _) .nil)),L.trans (Aj g _)⟩
  by_cases hd:q.den=1
  ·rw [if_pos hd] at a
   match ps,a,e with
   | [U],a,e=>
    have M:cl U=dg q.num.natAbs:=(WR a).1;refine ⟨_,rfl,p,_,rfl,.inl (SqL.of e),_,_,rfl,rfl,_,rfl,BR (by rfl) ?_⟩
    refine ⟨_,rfl,p,_,_,_,rfl,rfl,SqL.of e,Ek,U,q.num.natAbs,rfl,M,R,λ N C=>?_⟩
    refine ⟨_,rfl,p,_,rfl,.inl (SqL.of (C _ _ e)),rfl,_,rfl,BR (by rfl) ?_⟩
    have e1:((1:Nat):Int)=((q.den:Nat):Int):=by rw [hd]
    refine ⟨_,rfl,_,rfl,?_⟩;by_cases j:q.num < 0
    ·rw [if_pos j] at h;refine Bg (decide_eq_true j) ⟨_,rfl,_,_,rfl,rfl,_,rfl,(by show 2<=Y7;decide),λ r g=>?_⟩
     obtain ⟨b,l⟩:=D N r g _ h C;rw [<- e1] at b l;exact ⟨_,rfl,.ref r,q,rfl,b,⟨_,rfl,iteF ⟨_,rfl,.ref r,q,rfl,b,GJ z,_,rfl,rfl,_,rfl,BR (by rw [decide_eq_true rfl];rfl) ⟨_,rfl,k _ _ l b⟩⟩⟩⟩
    ·rw [if_neg j] at h;refine BR (decide_eq_false j) ⟨_,rfl,_,rfl,(by show 2<=Y7;decide),λ r g=>?_⟩
     obtain ⟨b,l⟩:=D N r g _ h C;rw [<- e1] at b l;exact ⟨_,rfl,.ref r,q,rfl,b,⟨_,rfl,iteF ⟨_,rfl,.ref r,q,rfl,b,GJ z,_,rfl,rfl,_,rfl,BR (by rw [decide_eq_true rfl];rfl) ⟨_,rfl,k _ _ l b⟩⟩⟩⟩
   | [],a,_=>simp at a
   | _::_::_,a,_=>simp at a
  ·rw [if_neg hd] at a
   match ps,a,e with
   | [U,y],a,e=>
    have M:cl U=dg q.num.natAbs:=(WR a).1;have a2:cl y=dg q.den:=(WR (WR a).2).1;refine ⟨_,rfl,p,_,rfl,.inl (SqL.of e),_,_,rfl,rfl,_,rfl,BR (by rfl) ?_⟩
    refine ⟨_,rfl,p,_,_,_,rfl,rfl,SqL.of e,Ek,U,q.num.natAbs,rfl,M,R,λ N C=>?_⟩
    refine ⟨_,rfl,p,_,rfl,.inl (SqL.of (C _ _ e)),rfl,_,rfl,Bg (by rfl) ?_⟩
    refine ⟨_,rfl,p,_,_,_,rfl,rfl,SqL.of (C _ _ e),rfl,y,q.den,rfl,a2,Z,λ u L=>?_⟩
    have J:=C.trans L;refine ⟨_,rfl,_,rfl,?_⟩;by_cases j:q.num < 0
    ·rw [if_pos j] at h;refine Bg (decide_eq_true j) ⟨_,rfl,_,_,rfl,rfl,_,rfl,(by show 2<=Y7;decide),λ r g=>?_⟩
     obtain ⟨b,l⟩:=D u r g _ h J;exact ⟨_,rfl,.ref r,q,rfl,b,⟨_,rfl,iteF ⟨_,rfl,.ref r,q,rfl,b,GJ z,_,rfl,rfl,_,rfl,BR (by rw [decide_eq_true rfl];rfl) ⟨_,rfl,k _ _ l b⟩⟩⟩⟩
    ·rw [if_neg j] at h;refine BR (decide_eq_false j) ⟨_,rfl,_,rfl,(by show 2<=Y7;decide),λ r g=>?_⟩
     obtain ⟨b,l⟩:=D u r g _ h J;exact ⟨_,rfl,.ref r,q,rfl,b,⟨_,rfl,iteF ⟨_,rfl,.ref r,q,rfl,b,GJ z,_,rfl,rfl,_,rfl,BR (by rw [decide_eq_true rfl];rfl) ⟨_,rfl,k _ _ l b⟩⟩⟩⟩
   | [],a,_=>simp at a
   | [_],a,_=>simp at a
   | _::_::_::_,a,_=>simp at a
 refine ⟨_,(Ae (Aw (Bt (Bj (Be Ed rfl T.isinstance Dy (Ac (pv 0) (Ac (Ec (v:=.ty "str") rfl T.str Ep rfl) Aa))))) (Af Cj) Ax) (Ae (Ar (i:=1) J8.nd (CT ZU PySem.F.slot_str_startswith PySem.F.type_str_startswith mH (pv 0) (BP BJ Aa))) (Ae (Ar (i:=2) J8.nd (J0 (Bj (pv 1)) (CT ZU XI XZ Fe (DP Hf (pv 0) (CZ Ab) Dh) (BP BJ Aa)) (CT ZU XI XZ Fe (pv 0) (BP BJ Aa)))) a0))),?_⟩;have st:∀x:Y2,qr x (Y1 "-")=decide ((cl x).head?=some 45):=λ x=>by rw [oW,mY]
 have W:∀x:Y2,(Xo x (Y1 "/")).map cl=cut 47 (cl x):=λ x=>by rw [zc,FN]
 refine ⟨_,rfl,_,_,_,_,rfl,.str _,Gp _,_,rfl,iteF ?_⟩;refine ⟨_,rfl,rfl,_,_,rfl,rfl,?_⟩;have e1:qr (Aq q) (Y1 "-")=decide (q.num < 0):=by rw [st,ex,zR]
 rw [e1];refine ⟨_,rfl,_,rfl,?_⟩;have I:=iV q;by_cases o:q.num < 0
 ·refine Bg (decide_eq_true o) ?_;have a5:(Wp (Aq q) (some 1) none).length<=40:=U1 (Txt.slice_le _ _ _) Y;refine ⟨_,rfl,_,rfl,Aq q,rfl,Br (by omega),rfl,_,_,rfl,rfl,rfl,Br (by omega),λ p e=>?_⟩
  rw [if_pos o] at I;exact S p _ _ _ Al (by rw [W,qe,ex,I]) λ v B s' hv=>k v B ((Aj e _).trans s') hv
 ·refine BR (decide_eq_false o) ?_;refine ⟨_,rfl,rfl,_,_,rfl,rfl,rfl,Br (by omega),λ p e=>?_⟩
  rw [if_neg o] at I;exact S p _ _ _ Al (by rw [W,ex,I]) λ v B s' hv=>k v B ((Aj e _).trans s') hv
theorem rA (T:Txt K mg ad):CalB P w K mg base true 4 "read_number_texts" ["word"] (Xc K):=by
 refine T.Rx.calN yU (λ _ _ _ _ _ _=>Bl λ _=>rfl) (λ vs H Q E a=>?_) (λ f e A outer s H vs Q E b a=>?_)
 ·obtain ⟨_,rfl,_⟩:=a;rfl
 obtain ⟨q,rfl,d,k⟩:=a;refine ⟨_,(Af (Yb (eZ T) b.m (Ac (pv 0) Aa))),?_⟩
 exact ⟨_,rfl,q,rfl,d,k⟩
theorem pY (T:Txt K mg ad):MkC P w K mg base 1 "Reader" ad.Reader ["self","words"] (AH5 ad.Reader):=by
 refine T.ex.i_Reader.mkc vm (λ _ _ _ _ _ _=>Ba λ _ _=>rfl) (λ vs H Q E e=>?_) (λ f h A outer s H vs Q E i e=>?_)
 ·obtain ⟨a,b,d,rfl,_⟩:=e;rfl
 obtain ⟨a,b,d,rfl,g,q⟩:=e;refine ⟨_,(Ae (Hu (pv 0) (pv 1)) (Af (Hu (pv 0) Ab))),?_⟩;refine ⟨_,rfl,_,rfl,a,ad.Reader,b,[],rfl,g,T.ex.l_Reader,T.ex.n_Reader_words,by decide,?_⟩
 refine ⟨_,rfl,a,ad.Reader,b,[("words",.ref d)],rfl,Al,T.ex.l_Reader,T.ex.n_Reader_place,by show 1 < 1000;decide,?_⟩
 rw [Hc];exact q
theorem Qh (T:Txt K mg ad):MC P w K mg base 1 ad.Reader "is_done" ["self"] (AG5 ad.Reader):=by
 refine T.ex.q_Reader_is_done.mc iY (λ _ _ _ _ _ _=>Bl λ _=>rfl) (λ vs H Q E d=>?_) (λ f j A outer s H vs Q E k d=>?_)
 ·obtain ⟨_,_,_,_,_,rfl,_⟩:=d;rfl
 obtain ⟨a,e,h,g,i,rfl,b,q⟩:=d;refine ⟨_,(Af (Am (Dq Bp (Eh (pv 0)) (Be Cp rfl T.len Ce (Cm (Eh (pv 0)) Aa))))),?_⟩;refine ⟨_,rfl,a,_,e,_,_,rfl,b.r,T.ex.l_Reader,T.ex.n_Reader_place,rfl,_,rfl,a,_,e,_,_,rfl,b.r,T.ex.l_Reader,T.ex.n_Reader_words,rfl,h,_,rfl,.inl (SqL.of b.w),rfl,?_⟩;rw [EY,Y3,show decide (((i:Nat):Int)=((g.length:Nat):Int))=decide (i=g.length) from decide_eq_decide.mpr ⟨λ d=>by omega,λ d=>by omega⟩]
 exact q
theorem Jk (T:Txt K mg ad):MC P w K mg base 2 ad.Reader "take" ["self"] (uM ad.Reader):=by
 refine T.ex.q_Reader_take.mc jz (λ _ _ _ _ _ _=>Bl λ _=>rfl) (λ vs H Q E l=>?_) (λ f p A outer s H vs Q E n l=>?_)
 ·obtain ⟨_,_,_,_,_,_,rfl,_⟩:=l;rfl
 obtain ⟨a,b,h,o,i,t,rfl,d,j,q⟩:=l;have u:=CK j;refine ⟨_,(Ae (Aw (Bj (Hm (k:=1) (pv 0) n.m)) (Af Cj) Ax) (Ae (gR (pv 0) Ab gM) (Af (Am (Ad ix_list (Eh (pv 0)) (Ak Ex (Eh (pv 0)) Ab)))))),?_⟩
 refine ⟨_,rfl,a,_,b,_,_,_,rfl,d.r,rfl,Qh T,a,b,h,o,i,rfl,d,_,rfl,BR (decide_eq_false (by omega)) ?_⟩
 refine ⟨_,rfl,a,_,b,_,_,rfl,d.r,T.ex.l_Reader,T.ex.n_Reader_place,rfl,_,_,rfl,rfl,b,_,d.r,by show 2 < 1000;decide,?_⟩
 have g:=d.step (i+1);have e:((i:Int)+1)=((i+1:Nat):Int):=by omega
 rw [e];refine ⟨_,rfl,a,_,b,_,_,rfl,g.r,T.ex.l_Reader,T.ex.n_Reader_words,rfl,_,rfl,a,_,b,_,_,rfl,g.r,T.ex.l_Reader,T.ex.n_Reader_place,rfl,_,_,rfl,rfl,h,_,_,.str t,rfl,rfl,SqL.of g.w,?_,q⟩;have e2:((i+1:Nat):Int) - 1=(i:Int):=by omega
 rw [e2];exact Bm (by rw [Ya,j];rfl)
theorem mX (T:Txt K mg ad):MC P w K mg base 2 ad.Reader "take_if" ["self","word"] (nR ad.Reader):=by
 refine T.ex.q_Reader_take_if.mc oM (λ _ _ _ _ _ _=>Ba λ _ _=>rfl) (λ vs H Q E p=>?_) (λ f v A outer s H vs Q E q p=>?_)
 ·obtain ⟨_,_,_,_,_,_,rfl,_⟩:=p;rfl
 obtain ⟨a,g,l,b,i,x,rfl,d,le,t,n⟩:=p;refine ⟨_,(Ae (Aw (PW.pt (pw_or (Bj (Hm (k:=1) (pv 0) q.m)) (pw_or1 (Az Dk (Ad ix_list (Eh (pv 0)) (Eh (pv 0))) (pv 1))))) (Af (Am CQ)) Ax) (Ae (gR (pv 0) Ab gM) (Af (Am CQ)))),?_⟩
 refine ⟨_,rfl,a,_,g,_,_,_,rfl,d.r,rfl,Qh T,a,g,l,b,i,rfl,d,_,rfl,?_⟩;by_cases o:i=b.length
 ·refine Bg (decide_eq_true o) (iteT (n λ e=>?_))
  have:=CK e;omega
 ·refine BR (decide_eq_false o) ?_;have u:i < b.length:=by omega
  have j:b[i]?=some b[i]:=YO u;refine ⟨_,rfl,a,_,g,_,_,rfl,d.r,T.ex.l_Reader,T.ex.n_Reader_words,rfl,_,rfl,a,_,g,_,_,rfl,d.r,T.ex.l_Reader,T.ex.n_Reader_place,rfl,l,_,_,.str b[i],rfl,rfl,SqL.of d.w,Bm (by rw [Ya,j];rfl),_,rfl,rfl,_,rfl,?_⟩
  by_cases h:b[i]=x
  ·refine BR (by rw [By,decide_eq_true h];rfl) ?_
   refine ⟨_,rfl,a,_,g,_,_,rfl,d.r,T.ex.l_Reader,T.ex.n_Reader_place,rfl,_,_,rfl,rfl,g,_,d.r,by show 2 < 1000;decide,?_⟩
   have e:((i:Int)+1)=((i+1:Nat):Int):=by omega
   rw [e];exact t (by rw [j,h])
  ·exact Bg (by rw [By,decide_eq_false h];rfl) (n (by rw [j];exact λ e=>h (XY e)))
theorem qT (T:Txt K mg ad):CalB P w K mg base true 1 "words_of" ["text"] yK:=by
 refine T.R6.calN X3 (λ _ _ _ _ _ _=>Bl λ _=>rfl) (λ vs H Q E R=>?_) (λ f Z A outer s H vs Q E a0 R=>?_)
 ·obtain ⟨_,rfl,_⟩:=R;rfl
 obtain ⟨x,rfl,S,U,G,q⟩:=R;refine ⟨_,(Ae (Ar (i:=1) X3.nd (Bu Aa)) (Ae (Dm Xs rfl (DY (CT ZU XI XZ Fe (pv 0) (BP BJ Aa))) (Bc (i:=2) X3.nd) (Af (Aw (Bj (CT ZU PySem.F.slot_str_endswith PySem.F.type_str_endswith AJ9 (pv 2) (Ac (BZ (v:=.str ";") rfl T.ex.m_PARTED ⟨⟨_,T.ex.z_PARTED⟩,rfl⟩) Aa))) (Ae (Cw (CT WB WH WI Ga (pv 1) (Ao (DP Hf (pv 2) Dh (CZ (aj gq Ab))) Aa))) (Af (Cw (CT WB WH WI Ga (pv 1) (Ac (BZ (v:=.str ";") rfl T.ex.m_PARTED ⟨⟨_,T.ex.z_PARTED⟩,rfl⟩) Aa))))) (Af (Cw (CT WB WH WI Ga (pv 1) (Ac (pv 2) Aa))))))) (Af (Am (pv 1))))),?_⟩;refine ⟨(by show 0<=Y7;decide),λ l hl=>?_⟩
 have u0:=Aj hl (.lst []);have z:upd H l (.lst []) l=some (.lst []):=Al;generalize upd H l (.lst [])=I at u0 z ⊢;refine ⟨_,rfl,rfl,x,_,rfl,rfl,rfl,S,λ p o=>⟨p,rfl,⟨_,SqL.of Al⟩,?_⟩⟩
 have B:p≠l:=λ e=>by rw [e,z] at o;cases o
 have C:upd I p (.lst ((Xo x (Y1 " ")).map V.str)) p=some (.lst ((Xo x (Y1 " ")).map V.str)):=Al;have J:=Aj o (.lst ((Xo x (Y1 " ")).map V.str)) _ _ z;have M:=u0.trans (Aj o (.lst ((Xo x (Y1 " ")).map V.str)));generalize upd I p (.lst ((Xo x (Y1 " ")).map V.str))=a1 at C J M ⊢;generalize a2:Xo x (Y1 " ")=j at U G q C ⊢;have W:∀i,(Ci (j.take i)).length<=40002:=by
  intro i;have a3:∀L:List Y2,(Ci L).length<=2 * L.length:=by
   intro L
   induction L with
   | nil=>exact Zj _
   | cons w L a4=>
    have e:Ci (w::L)=Dj w++Ci L:=by unfold Ci;rw [YU,JJ]
    rw [e,X9,X4];have:(Dj w).length<=2:=by unfold Dj;split<;>simp
    omega
  have:=a3 (j.take i);rw [XE] at this;omega
 have step:∀(i:Nat) (g:Y2),j[i]?=some g->Ci (j.take (i+1))=Ci (j.take i)++Dj g:=by
  intro i g X;rw [XV,X];unfold Ci;rw [ZH,List.flatten_append];simp
 refine Gr (K:=K) (a:=p) (xs:=j.map V.str) (λ i r d=>∃t,r=[some (.str x),some (.ref l),t]/\Same H d/\d p=some (.lst (j.map V.str))/\d l=some (.lst ((Ci (j.take i)).map V.str))) ⟨_,rfl,M,C,by rw [Nz];exact J⟩ ?_ ?_ ?_
 ·rintro i r d k ⟨t,rfl,m,h,b⟩
  exact SqL.of h
 ·rintro i v r d k ⟨t,rfl,m,h,b⟩
  rw [Ya] at k;cases u:j[i]? with
  | none=>rw [u] at k;cases k
  | some g=>
   rw [u] at k;cases k
   have es:=step i g u;have a5:=W i;have Y:g.length<=Y7:=U1 (G g (ZN u)) (by decide)
   refine ⟨_,rfl,rfl,g,_,rfl,rfl,_,rfl,?_⟩;cases N:FF g (Y1 ";") with
   | true=>
    have D:Dj g=[Wp g none (some (-1)),Y1 ";"]:=by unfold Dj;rw [if_pos N]
    refine iteT ⟨_,rfl,.inl ⟨rfl,_,SqL.of b⟩,_,rfl,_,rfl,_,rfl,g,rfl,Y,l,_,_,rfl,rfl,b,RX (by rw [Y3];omega),?_⟩
    have n:upd d l (.lst ((Ci (j.take i)).map V.str++[.str (Wp g none (some (-1)))])) l=some (.lst ((Ci (j.take i)).map V.str++[.str (Wp g none (some (-1)))])):=Al;have y:upd d l (.lst ((Ci (j.take i)).map V.str++[.str (Wp g none (some (-1)))])) p=some (.lst (j.map V.str)):=by rw [BK B];exact h
    have O:=O6 m hl (.lst ((Ci (j.take i)).map V.str++[.str (Wp g none (some (-1)))]));generalize upd d l (.lst ((Ci (j.take i)).map V.str++[.str (Wp g none (some (-1)))]))=a6 at n y O ⊢;refine ⟨_,rfl,.inl ⟨rfl,_,SqL.of n⟩,l,_,_,rfl,rfl,n,RX (by rw [X9,Y3];simp only [X4,YR];omega),?_⟩
    refine ⟨_,rfl,O6 O hl _,by rw [BK B];exact y,?_⟩
    rw [Al,es,D,ZH,YA];rfl
   | false=>
    have D:Dj g=[g]:=by unfold Dj;rw [if_neg (by rw [N];exact Zo)]
    refine iteF ⟨_,rfl,.inl ⟨rfl,_,SqL.of b⟩,_,rfl,l,_,_,rfl,rfl,b,RX (by rw [Y3];omega),?_⟩
    refine ⟨_,rfl,O6 m hl _,by rw [BK B];exact h,?_⟩
    rw [Al,es,D,ZH];rfl
 ·rintro r d ⟨t,rfl,m,h,b⟩
  rw [Y3,WA] at b;exact ⟨_,rfl,q l d m hl b⟩
theorem bQ {q:Rat}(b:Short q):Bd 50 q:=by
 have a:(10:Nat) ^ 15<=2 ^ 50:=by decide
 exact ⟨X1 b.n a,X1 b.d a⟩
theorem yG (T:Txt K mg ad):CalB P w K mg base true 5 "read_part_texts" ["reader","deep"] (pA K ad.Reader):=by
 have X:=T.XX.not (P:=P) (w:=w) (base:=base) (k:=0) nH (λ _ _ _ _ _ _=>Gb λ _ _ _=>rfl)
 refine T.WF.calN Ld (λ _ _ _ _ _ _=>Ba λ _ _=>rfl) (λ vs H Q E Y=>?_) (λ f a2 A outer s H vs Q E n Y=>?_)
 ·obtain ⟨_,_,_,_,_,_,_,rfl,_⟩:=Y;rfl
 obtain ⟨a,b,d,j,i,p,dp,rfl,L,tk,ps,k⟩:=Y;refine ⟨_,(Ae (Ar (i:=2) Ld.nd (Hm (k:=2) (pv 0) n.m)) (Ae (Aw (PW.pt (pw_or (Az Bp (pv 2) (BZ (v:=.str "gap") rfl T.ex.m_GAP ⟨⟨_,T.ex.z_GAP⟩,rfl⟩)) (pw_or1 (Az Bp (pv 2) (BZ (v:=.str "glass") rfl T.ex.m_GLASS ⟨⟨_,T.ex.z_GLASS⟩,rfl⟩))))) (Af (Am (Bk (Ac (pv 2) (BL (Ah (rA T) n.m Ag (BL (Hm (k:=2) (pv 0) n.m) Aa)) Aa))))) Ax) (Ae (Aw (Az Dk (pv 2) (BZ (v:=.str "stop") rfl T.ex.m_STOP ⟨⟨_,T.ex.z_STOP⟩,rfl⟩)) (Af (Am (Ah X n.m Ag (Ac (pv 0) (Ac (pv 2) (Ac (pv 1) Aa)))))) Ax) (Ae (Ar (i:=3) Ld.nd (Ah (rA T) n.m Ag (BL (Hm (k:=2) (pv 0) n.m) Aa))) (Ae (Ar (i:=4) Ld.nd (Ah (rA T) n.m Ag (BL (Hm (k:=2) (pv 0) n.m) Aa))) (Ae (Aw (Bt (Bj (Ah (Xl T) n.m Ag (Do (Bk (Ac (BZ (v:=.str "stop") rfl T.ex.m_STOP ⟨⟨_,T.ex.z_STOP⟩,rfl⟩) (Ac (pv 3) (Ac (pv 4) Aa)))) Aa)))) (Af Cj) Ax) (Af (Am (Bk (Ac (BZ (v:=.str "stop") rfl T.ex.m_STOP ⟨⟨_,T.ex.z_STOP⟩,rfl⟩) (Ac (pv 3) (Ac (pv 4) Aa)))))))))))),?_⟩
 have Z:j[i]?=some (wd p):=tk 0 (wd p) rfl;refine ⟨_,rfl,a,_,b,_,_,_,rfl,L.r,rfl,Jk T,a,b,d,j,i,wd p,rfl,L,Z,?_⟩;have e:=L.step (i+1);have x:SD a H (upd H a (Cg ad.Reader b d (i+1))):=Hg _;generalize upd H a (Cg ad.Reader b d (i+1))=o at e x ⊢;cases p with
 | gap q=>
  have M:Short q:=ps.2 q (by simp [fracs])
  have t1:j[i+1]?=some (Aq q):=tk 1 (Aq q) rfl;refine ⟨_,rfl,rfl,_,rfl,Bg (by rw [By];exact decide_eq_true rfl) (iteT ?_)⟩
  refine ⟨_,rfl,_,rfl,a,_,b,_,_,_,rfl,e.r,rfl,Jk T,a,b,d,j,i+1,Aq q,rfl,e,t1,?_⟩;have g:=e.step (i+1+1);have h:SD a o (upd o a (Cg ad.Reader b d (i+1+1))):=Hg _;generalize upd o a (Cg ad.Reader b d (i+1+1))=R at g h ⊢;refine ⟨q,rfl,M,λ v B C hv=>⟨(by show 2<=Y7;decide),λ t ht=>?_⟩⟩
  have u:=C.trans (Aj ht (.tup [.str (Y1 "gap"),v]));exact k _ _ ((x.trans h).trans (Lib.SD.ofSame u)) (g.keep u) (DV.upd2 ht (.str _) hv)
 | glass q=>
  have M:Short q:=ps.2 q (by simp [fracs])
  have t1:j[i+1]?=some (Aq q):=tk 1 (Aq q) rfl;have N:wd (.glass q)≠Y1 "gap":=by show Y1 "glass"≠_;decide+kernel
  refine ⟨_,rfl,rfl,_,rfl,BR (by rw [By];exact decide_eq_false N) ⟨_,rfl,rfl,_,rfl,Bg (by rw [By];exact decide_eq_true rfl) ?_⟩⟩
  refine ⟨_,rfl,_,rfl,a,_,b,_,_,_,rfl,e.r,rfl,Jk T,a,b,d,j,i+1,Aq q,rfl,e,t1,?_⟩;have g:=e.step (i+1+1);have h:SD a o (upd o a (Cg ad.Reader b d (i+1+1))):=Hg _;generalize upd o a (Cg ad.Reader b d (i+1+1))=R at g h ⊢;refine ⟨q,rfl,M,λ v B C hv=>⟨(by show 2<=Y7;decide),λ t ht=>?_⟩⟩
  have u:=C.trans (Aj ht (.tup [.str (Y1 "glass"),v]));exact k _ _ ((x.trans h).trans (Lib.SD.ofSame u)) (g.keep u) (DV.upd2 ht (.str _) hv)
 | stop lo l=>
  have S:Short lo:=ps.2 lo (by simp [fracs])
  have U:Short l:=ps.2 l (by simp [fracs])
  have t1:j[i+1]?=some (Aq lo):=tk 1 (Aq lo) rfl;have t2:j[i+2]?=some (Aq l):=tk 2 (Aq l) rfl;have N:wd (.stop lo l)≠Y1 "gap":=by show Y1 "stop"≠_;decide+kernel
  have a0:wd (.stop lo l)≠Y1 "glass":=by show Y1 "stop"≠_;decide+kernel
  refine ⟨_,rfl,rfl,_,rfl,BR (by rw [By];exact decide_eq_false N) ⟨_,rfl,rfl,_,rfl,BR (by rw [By];exact decide_eq_false a0) ?_⟩⟩
  refine ⟨_,rfl,rfl,_,rfl,BR (by rw [By,decide_eq_true (show wd (.stop lo l)=Y1 "stop" from rfl)];rfl) ?_⟩
  refine ⟨_,rfl,a,_,b,_,_,_,rfl,e.r,rfl,Jk T,a,b,d,j,i+1,Aq lo,rfl,e,t1,?_⟩;have g:=e.step (i+1+1);have h:SD a o (upd o a (Cg ad.Reader b d (i+1+1))):=Hg _;generalize upd o a (Cg ad.Reader b d (i+1+1))=R at g h ⊢;refine ⟨lo,rfl,S,λ v B C hv=>?_⟩
  have z:=g.keep C;refine ⟨_,rfl,a,_,b,_,_,_,rfl,z.r,rfl,Jk T,a,b,d,j,i+1+1,Aq l,rfl,z,t2,?_⟩;have G:=z.step (i+1+1+1);have D:SD a B (upd B a (Cg ad.Reader b d (i+1+1+1))):=Hg _;have I:DV K (upd B a (Cg ad.Reader b d (i+1+1+1))) v (Ai lo):=G9 (We z.r D) (Rk _) hv;generalize upd B a (Cg ad.Reader b d (i+1+1+1))=a3 at G D I ⊢;refine ⟨l,rfl,U,λ y a4 O V=>?_⟩
  have J:=I.keep O;refine ⟨_,rfl,_,rfl,(by show 3<=Y7;decide),λ t ht=>?_⟩
  have u:=Aj ht (.tup [.str (Y1 "stop"),v,y]);refine ⟨.ref t,.stop lo l,50,rfl,.tup (SqT.of Al) (.cons (.str _) (.cons (J.keep u) (.cons (V.keep u) .nil))),ps.1,⟨bQ S,bQ U⟩,by decide,λ a5 a1=>⟨_,rfl,iteF ?_⟩⟩
  refine ⟨_,rfl,_,rfl,(by show 3<=Y7;decide),λ t2 W=>?_⟩
  have F:=(u.trans a1).trans (Aj W (.tup [.str (Y1 "stop"),v,y]));refine k _ _ ((((x.trans h).trans (Lib.SD.ofSame C)).trans D).trans (Lib.SD.ofSame (O.trans F))) (G.keep (O.trans F)) (.tup (SqT.of Al) (.cons (.str _) (.cons (J.keep F) (.cons (V.keep F) .nil))))
theorem uJ (T:Txt K mg ad):CalB P w K mg base true 2 "count_of" ["parts"] (AG8 K):=by
 have C:=T.Lj.not (P:=P) (w:=w) (base:=base) (k:=0) Jl (λ _ _ _ _ _ _=>Bl λ _=>rfl)
 refine T.Lj.calN Jl (λ _ _ _ _ _ _=>Bl λ _=>rfl) (λ vs H Q E D=>?_) (λ f M A outer s H vs Q E F D=>?_)
 ·obtain ⟨_,_,rfl,_⟩:=D;rfl
 obtain ⟨v,ps,rfl,hv,q⟩:=D;obtain ⟨b,xs,rfl,r,l⟩:=hv.lst_of;have hl:xs.length=ps.length:=by have:=l.len;rw [Y3] at this;exact this
 refine ⟨_,(Ae (Ar (i:=1) Jl.nd Ab) (Ae (Dm Xs rfl (DY (pv 0)) (Bc (i:=2) Jl.nd) (Af (uN (i:=1) Jl.nd rfl (Or.inl rfl) (J0 (Az Bp (Ad ix_tup (pv 2) Ab) (BZ (v:=.str "times") rfl T.ex.m_TIMES ⟨⟨_,T.ex.z_TIMES⟩,rfl⟩)) (Ak Ea (Ad ix_tup (pv 2) Ab) (Ah C F.m Ag (Ao (Ad ix_tup (pv 2) Ab) Aa))) Ab) tV))) (Af (Am (pv 1))))),?_⟩
 refine ⟨_,rfl,b,rfl,⟨_,r⟩,?_⟩;refine Gr (K:=K) (a:=b) (xs:=xs) (λ i h e=>∃j,h=[some (.ref b),some (.int (i:Int)),j]/\e=H) ⟨_,rfl,rfl⟩ ?_ ?_ ?_
 ·rintro i h e u ⟨j,rfl,rfl⟩
  exact r
 ·rintro i x h e u ⟨j,rfl,rfl⟩
  obtain ⟨d,hd,n⟩:=l.get u;obtain ⟨o,N,rfl⟩:=HB hd;obtain ⟨t,p,y,rfl,ht,G,ne⟩:∃(t:Addr) (p:Y2) (y:List V),x=.ref t/\SqT K e t (.str p::y)/\p=wd o/\wd o≠Y1 "times":=by
   cases o with
   | gap I=>
    obtain ⟨t,z,B,rfl,ht,g,_⟩:=DV.t2 (show DV K e x (.tuple [.str "gap",Ai I]) from n)
    obtain rfl:=DV.str_of g;exact ⟨t,_,_,rfl,ht,rfl,by show Y1 "gap"≠_;decide+kernel⟩
   | glass I=>
    obtain ⟨t,z,B,rfl,ht,g,_⟩:=DV.t2 (show DV K e x (.tuple [.str "glass",Ai I]) from n)
    obtain rfl:=DV.str_of g;exact ⟨t,_,_,rfl,ht,rfl,by show Y1 "glass"≠_;decide+kernel⟩
   | stop J L=>
    obtain ⟨t,z,B,O,rfl,ht,g,_,_⟩:=DV.t3 (show DV K e x (.tuple [.str "stop",Ai J,Ai L]) from n)
    obtain rfl:=DV.str_of g;exact ⟨t,_,_,rfl,ht,rfl,by show Y1 "stop"≠_;decide+kernel⟩
  subst G;refine ⟨_,rfl,_,rfl,t,_,_,_,rfl,rfl,ht,Ek,rfl,_,rfl,BR (by rw [By];exact decide_eq_false ne) ⟨_,_,rfl,rfl,?_⟩⟩
  exact ⟨_,by show [some (V.ref b),some (V.int ((i:Int)+1)),some (V.ref t)]=_;rfl,rfl⟩
 ·rintro h e ⟨j,rfl,rfl⟩
  rw [hl];exact ⟨_,rfl,q⟩
theorem o5 {H:Hp}{x:V}{b:Pc}(d:DV K H x (Bh b)):∃(t:Addr) (g:List V),x=.ref t/\SqT K H t (.str (wd b)::g)/\wd b≠Y1 "times":=by
 cases b with
 | gap h=>
  obtain ⟨t,e,f,rfl,ht,a,_⟩:=DV.t2 (show DV K H x (.tuple [.str "gap",Ai h]) from d)
  obtain rfl:=DV.str_of a;exact ⟨t,_,rfl,ht,by show Y1 "gap"≠_;decide+kernel⟩
 | glass h=>
  obtain ⟨t,e,f,rfl,ht,a,_⟩:=DV.t2 (show DV K H x (.tuple [.str "glass",Ai h]) from d)
  obtain rfl:=DV.str_of a;exact ⟨t,_,rfl,ht,by show Y1 "glass"≠_;decide+kernel⟩
 | stop i j=>
  obtain ⟨t,e,f,k,rfl,ht,a,_,_⟩:=DV.t3 (show DV K H x (.tuple [.str "stop",Ai i,Ai j]) from d)
  obtain rfl:=DV.str_of a;exact ⟨t,_,rfl,ht,by show Y1 "stop"≠_;decide+kernel⟩
theorem zM (T:Txt K mg ad):CalB P w K mg base true 2 "told_out" ["parts"] (jx K):=by
 have D:=T.Ng.not (P:=P) (w:=w) (base:=base) (k:=0) Oc (λ _ _ _ _ _ _=>Bl λ _=>rfl)
 refine T.Ng.calN Oc (λ _ _ _ _ _ _=>Bl λ _=>rfl) (λ vs H Q E G=>?_) (λ f M A outer s H vs Q E I G=>?_)
 ·obtain ⟨_,_,rfl,_⟩:=G;rfl
 obtain ⟨v,ps,rfl,hv,N,q⟩:=G;obtain ⟨b,xs,rfl,r,p⟩:=hv.lst_of;have hl:xs.length=ps.length:=by have:=p.len;rw [Y3] at this;exact this
 refine ⟨_,(Ae (Ar (i:=1) Oc.nd (Bu Aa)) (Ae (Dm Xs rfl (DY (pv 0)) (Bc (i:=2) Oc.nd) (Af (Aw (Az Dk (Ad ix_tup (pv 2) Ab) (BZ (v:=.str "times") rfl T.ex.m_TIMES ⟨⟨_,T.ex.z_TIMES⟩,rfl⟩)) (Af (Cw (CT WB WH WI Ga (pv 1) (Ac (pv 2) Aa)))) (Af (Aw (Az HY (Ad ix_tup (pv 2) Ab) Ab) (Af (Cw (CT WB PySem.F.slot_list_extend PySem.F.type_list_extend kY (pv 1) (Bf (Ak rC (Ah D I.m Ag (Ao (Ad ix_tup (pv 2) Ab) Aa)) (Ad ix_tup (pv 2) Ab)) Aa)))) Ax))))) (Af (Am (pv 1))))),?_⟩
 refine ⟨(by show 0<=Y7;decide),λ l u=>?_⟩
 have u0:=Aj u (.lst []);have y:Bx K H l [] (upd H l (.lst [])):=⟨u0,u,[],Al,.nil⟩;generalize upd H l (.lst [])=O at u0 y ⊢;refine ⟨_,rfl,b,rfl,⟨_,r.keep u0⟩,?_⟩;refine Gr (K:=K) (a:=b) (xs:=xs) (λ i h g=>∃j,h=[some (.ref b),some (.ref l),j]/\Bx K H l (ps.take i) g) ⟨_,rfl,by rw [Nz];exact y⟩ ?_ ?_ ?_
 ·rintro i h g z ⟨j,rfl,e⟩
  exact r.keep e.s
 ·rintro i x h g z ⟨j,rfl,e⟩
  obtain ⟨d,hd,B⟩:=p.get z;obtain ⟨J,C,rfl⟩:=HB hd;obtain ⟨t,R,rfl,ht,ne⟩:=o5 (B.keep e.s);obtain ⟨o,e1,e2⟩:=e.ex;have S:o.length<=60:=by
   have L:=e2.len;rw [Y3,XE] at L;omega
  refine ⟨_,rfl,t,_,_,_,rfl,rfl,ht,Ek,rfl,_,rfl,Bg (by rw [By,decide_eq_false ne];rfl) ?_⟩
  refine ⟨_,rfl,.inl ⟨rfl,_,SqL.of e1⟩,_,rfl,l,o,_,rfl,rfl,e1,small1000 (by omega),_,rfl,?_⟩
  have:=Bx.more (zs:=[.ref t]) (qs:=[J]) e.s e.n e1 e2 (.cons (B.keep e.s) .nil);rw [XV,C];exact this
 ·rintro h g ⟨j,rfl,e⟩
  rw [hl,WA] at e;obtain ⟨o,e1,e2⟩:=e.ex;exact ⟨_,rfl,q l o g e.s e.n e1 e2⟩
def Gq:List Pc->List Y2
 | []=>[]
 | q::r=>Y1 ";"::Ef (q::r)
theorem dw (p:Pc)(r:List Pc):Ef (p::r)=toks p++Gq r:=by
 cases r with
 | nil=>show toks p=toks p++[];rw [WJ]
 | cons q r=>rfl
theorem bV {a t u:List Y2}{i:Nat}(e:a.drop i=t++u):(∀(j:Nat) (d:Y2),t[j]?=some d->a[i+j]?=some d)/\a.drop (i+t.length)=u:=by
 refine ⟨λ j d b=>?_,?_⟩
 ·rw [<- qD,e,UR (CK b)];exact b
 ·rw [<- List.drop_drop,e,List.drop_left]
theorem lV (T:Txt K mg ad):CalB P w K mg base true 6 "read_parts" ["reader","deep"] (rY K ad.Reader):=by
 refine T.T6.calN bB (λ _ _ _ _ _ _=>Ba λ _ _=>rfl) (λ vs H Q E c1=>?_) (λ f c9 A outer s H vs Q E a5 c1=>?_)
 ·obtain ⟨_,_,_,_,_,_,rfl,_⟩:=c1;rfl
 obtain ⟨a,h,j,g,ps,dp,rfl,a7,c2,ne,d0,sh,k⟩:=c1;refine ⟨_,(Ae (Ar (i:=2) bB.nd (Bu (BL (Ah (yG T) a5.m Ag (Ac (pv 0) (Ac (pv 1) Aa))) Aa))) (Ae (Jj Xs (Bj (Bb (k:=2) (pv 0) a5.m (Ac (BZ (v:=.str ";") rfl T.ex.m_PARTED ⟨⟨_,T.ex.z_PARTED⟩,rfl⟩) Aa))) (Af (Cw (CT WB WH WI Ga (pv 2) (BL (Ah (yG T) a5.m Ag (Ac (pv 0) (Ac (pv 1) Aa))) Aa))))) (Af (Am (pv 2))))),?_⟩
 cases ps with
 | nil=>exact absurd rfl ne
 | cons p r=>
  have a8:g.drop 0=toks p++Gq r:=by rw [NA,c2];exact dw p r
  obtain ⟨tk,dr⟩:=bV a8;refine ⟨_,rfl,_,rfl,a,h,j,g,0,p,dp,rfl,a7,tk,sh p ZD,λ v W X I hv=>⟨(by show 1<=Y7;decide),λ l hl=>?_⟩⟩
  have u:=Aj hl (.lst [v]);have d1:H a=some (Cg ad.Reader h j 0):=a7.r;have D:l≠a:=λ e=>by rw [e,I.r] at hl;cases hl
  have a9:j≠l:=λ e=>by rw [<- e,I.w] at hl;cases hl
  have b0:H l=none:=by
   cases e:H l with
   | none=>rfl
   | some o=>have:=X l o D e;rw [this] at hl;cases hl
  have Y:SD a H (upd W l (.lst [v])):=X.trans (Lib.SD.ofSame u);have Z:=I.keep u;have b1:upd W l (.lst [v]) l=some (.lst [v]):=Al;have a0:DVs K (upd W l (.lst [v])) [v] ([p].map Bh):=.cons (hv.keep u) .nil;generalize upd W l (.lst [v])=d2 at Y Z b1 a0 ⊢;refine ⟨λ m b2 n=>∃(dn d:List Pc) (i:Nat) (xs:List V),p::r=dn++d/\m=d.length/\b2=[some (.ref a),some (.int dp),some (.ref l)]/\SD a H n/\RdAt ad.Reader a h j g i n/\i<=g.length/\g.drop i=Gq d/\n l=some (.lst xs)/\DVs K n xs (dn.map Bh),
   ⟨_,[p],r,_,[v],rfl,rfl,rfl,Y,Z,?_,dr,b1,a0⟩,?_⟩
  ·have:=congrArg Jh a8;rw [NA,X9] at this;omega
  rintro m b2 n ⟨dn,d,i,xs,J,rfl,rfl,sd,x,c3,G,a1,M⟩
  have d3:xs.length<=60:=by
   have t:=M.len;have N:=congrArg Jh J;rw [Y3] at t;rw [X9] at N;omega
  refine ⟨_,rfl,a,_,h,_,_,_,rfl,x.r,rfl,mX T,a,h,j,g,i,Y1 ";",rfl,x,c3,λ e=>?_,λ e=>?_⟩
  ·cases d with
   | nil=>
    have t:=congrArg Jh G;rw [zI] at t;have N:=CK e;simp only [Gq,YR] at t;omega
   | cons q d=>
    refine ⟨_,rfl,iteT ?_⟩;have b3:g.drop (i+1)=toks q++Gq d:=by
     rw [<- List.drop_drop,G];show (Y1 ";"::Ef (q::d)).drop 1=_;rw [dw];rfl
    obtain ⟨b4,b5⟩:=bV b3;have C:=x.step (i+1);have O:SD a n (upd n a (Cg ad.Reader h j (i+1))):=Hg _;have R:upd n a (Cg ad.Reader h j (i+1)) l=some (.lst xs):=by rw [BK D];exact a1
    have a2:DVs K (upd n a (Cg ad.Reader h j (i+1))) xs (dn.map Bh):=Eg (We x.r O) (Eu Nq _) M;generalize upd n a (Cg ad.Reader h j (i+1))=d4 at C O R a2 ⊢;refine ⟨λ a3 z=>∃(dn B:List Pc) (i:Nat) (xs:List V),p::r=dn++B/\B.length=d.length/\a3=[some (.ref a),some (.int dp),some (.ref l)]/\SD a H z/\RdAt ad.Reader a h j g i z/\i<=g.length/\g.drop i=Gq B/\z l=some (.lst xs)/\DVs K z xs (dn.map Bh),
     λ a3 z ⟨b6,B,c4,b7,t,N,c5⟩=>⟨d.length,by simp,b6,B,c4,b7,t,N.symm,c5⟩,?_⟩
    refine ⟨_,rfl,.inl ⟨rfl,_,SqL.of R⟩,_,rfl,_,rfl,a,h,j,g,i+1,q,dp,rfl,C,b4,sh q (by rw [J];simp),λ y b8 S U c6=>?_⟩
    have a4:b8 l=some (.lst xs):=S l _ D R;have b9:DVs K b8 xs (dn.map Bh):=Eg (We C.r S) (Eu Nq _) a2;refine ⟨l,xs,_,rfl,rfl,a4,small1000 (by omega),?_⟩
    have c7:=Qs a4 (.lst (xs++[y]));refine ⟨dn++[q],d,_,xs++[y],by rw [J,YA];rfl,rfl,rfl,?_,⟨by rw [BK (QO D)];exact U.r,by rw [BK a9];exact U.w,U.le⟩,?_,b5,Al,?_⟩
    ·intro b o a6 e;have c0:b≠l:=Bq e b0;rw [BK c0];exact S b o a6 (O b o a6 (sd b o a6 e))
    ·have t:=congrArg Jh b3;rw [zI,X9] at t;have N:=HX q;omega
    ·rw [ZH];exact Eg c7 (by rw [<- ZH];exact Eu Nq _) (b9.append (.cons c6 .nil))
  ·refine ⟨_,rfl,iteF ?_⟩;cases d with
   | cons q d=>
    exfalso
    apply e
    have:=congrArg (λ L:List Y2=>L[0]?) G
    simp only [Gq,qD,Nat.add_zero,List.getElem?_cons_zero] at this;exact this
   | nil=>
    have t:=congrArg Jh G;rw [zI] at t;simp only [Gq,YR] at t;have c8:i=g.length:=by omega
    subst c8;rw [WJ] at J;subst J;exact ⟨_,rfl,k l xs n sd b0 x a1 M⟩
theorem M8 {a:List Y2}{e:Nat}(f:∀t∈a,t.length<=e):(a.map (·.length)).sum<=a.length * e:=by
 induction a with
 | nil=>exact Ul _
 | cons t a b=>
  rw [YU,xE,X4,FA];have:=f t ZD;have:=b (λ x d=>f x (ZT _ d))
  omega
theorem zy (T:Txt K mg ad):CalB P w K mg base true 7 "read_bench" ["text"] (AL3 K):=by
 refine T.XD.calN RW (λ _ _ _ _ _ _=>Bl λ _=>rfl) (λ vs H Q E U=>?_) (λ f a0 A outer s H vs Q E j U=>?_)
 ·obtain ⟨_,rfl,_⟩:=U;rfl
 obtain ⟨ps,rfl,p,sh,q⟩:=U;refine ⟨_,(Ae (Aw (Bt (Bj (Be Ed rfl T.isinstance Dy (Ac (pv 0) (Ac (Ec (v:=.ty "str") rfl T.str Ep rfl) Aa))))) (Af Cj) Ax) (Ae (Aw (Az Bp (pv 0) BJ) (Af (Am (Bu Aa))) Ax) (Ae (Ar (i:=1) RW.nd (Nr (pY T) j.m (BL (Ah (qT T) j.m Ag (Ac (pv 0) Aa)) Aa))) (Ae (Ar (i:=2) RW.nd (Ah (lV T) j.m Ag (Ac (pv 1) (BP Ab Aa)))) (Ae (Aw (Bt (Bj (Hm (k:=1) (pv 1) j.m))) (Af Cj) Ax) (Ae (Aw (Az HY (Ah (uJ T) j.m Ag (Ac (pv 2) Aa)) (BZ (v:=.int 60) rfl T.ex.m_MOST_PIECES ⟨_,rfl⟩)) (Af Cj) Ax) (Af (Am (Ah (zM T) j.m Ag (Ac (pv 2) Aa)))))))))),?_⟩
 refine ⟨_,rfl,_,_,_,_,rfl,.str _,Gp _,_,rfl,iteF ?_⟩;by_cases g:ps=[]
 ·subst g;refine ⟨_,rfl,rfl,_,rfl,Bg (by rw [By];exact decide_eq_true (by decide+kernel)) ⟨(by show 0<=Y7;decide),λ l hl=>?_⟩⟩
  exact q l [] _ (Aj hl _) hl Al .nil
 ·have V:=v7 g;refine ⟨_,rfl,rfl,_,rfl,BR (by rw [By];exact decide_eq_false V) ?_⟩
  have W:=Pg p sh;have sp:=aH g;have a2:=RL ps;refine ⟨_,rfl,Bs ps,rfl,U1 (JA W 2) (by decide),by rw [sp];omega,(λ w B=>by rw [sp] at B;have:=Ua ps sh w B;omega),λ h n C a1 t=>λ a d u D ne=>?_⟩
  rw [sp,qK ps g] at t;have F:Same n (upd (upd n d (.own a)) a (.ins ad.Reader d [])):=λ b o e=>by rw [BK (Bq e u),BK (Bq e D)];exact e
  refine ⟨a,d,h,rfl,Al,⟨rfl,?_⟩⟩;have G:h≠a:=λ e=>by rw [<- e,t] at u;cases u
  have I:RdAt ad.Reader a d h (Ef ps) 0 (upd (upd (upd n d (.own a)) a (.ins ad.Reader d [])) a (Cg ad.Reader d h 0)):=⟨Al,by rw [BK G];exact F _ _ t,by have:=bw ps;omega⟩
  have J:Same n (upd (upd (upd n d (.own a)) a (.ins ad.Reader d [])) a (Cg ad.Reader d h 0)):=λ b o e=>by rw [BK (Bq e u)];exact F _ _ e
  generalize upd (upd (upd n d (.own a)) a (.ins ad.Reader d [])) a (Cg ad.Reader d h 0)=a3 at I J ⊢;refine ⟨_,rfl,a,d,h,Ef ps,ps,0,rfl,I,rfl,g,p,sh,λ l xs L sd a4 x hl M=>?_⟩
  have hd:DV K L (.ref l) (Fj ps):=.lst (SqL.of hl) M;refine ⟨_,rfl,a,_,d,_,_,_,rfl,x.r,rfl,Qh T,a,d,h,Ef ps,(Ef ps).length,rfl,x,_,rfl,BR (by rw [decide_eq_true rfl];rfl) ?_⟩
  refine ⟨_,rfl,.ref l,ps,rfl,hd,_,_,rfl,rfl,_,rfl,BR (decide_eq_false (by omega)) ?_⟩
  refine ⟨_,rfl,.ref l,ps,rfl,hd,p,λ X N Y Z O R z=>?_⟩
  have S:H a=none:=C.free u;have y:Same H L:=Lib.SD.same (C.trans J) S sd;exact q X N Y (y.trans Z) (y.free O) R z
theorem rn (T:Txt K mg ad):CalB P w K mg base true 2 "show_piece" ["piece"] (bR K):=by
 refine T.Rr.calN tK (λ _ _ _ _ _ _=>Bl λ _=>rfl) (λ vs H Q E L=>?_) (λ f b0 A outer s H vs Q E a1 L=>?_)
 ·obtain ⟨_,_,rfl,_⟩:=L;rfl
 obtain ⟨v,p,rfl,hv,ps,q⟩:=L;refine ⟨_,(Af (Am (CT ZU US UU Ie BJ (Bf (Ak G5 (Bu (Ao (Ad ix_tup (pv 0) Ab) Aa)) (Ej ["part"] [none] rfl (JV (DP Q5 (pv 0) (CZ Ab) Dh)) (λ _ _ _ _ _=>(Bc (i:=0) (show Uz [("part":Str)] by decide))) (λ _ _ _ _ _=>Eb) (λ _ _ _ _ _=>(Ah (Wq T) a1.m Ag (Ac (pv 0) Aa))) (Ds (by decide) (by decide)) (by decide) rfl (by decide) rfl (Dt rfl))) Aa)))),?_⟩
 obtain ⟨t,b,rfl,ht,u⟩:∃(t:Addr) (b:List V),v=.ref t/\SqT K H t (.str (wd p)::b)/\DVs K H b ((fracs p).map Ai):=by
  cases p with
  | gap y=>
   obtain ⟨t,M,N,rfl,ht,h,j⟩:=DV.t2 (show DV K H v (.tuple [.str "gap",Ai y]) from hv)
   obtain rfl:=DV.str_of h;exact ⟨t,_,rfl,ht,.cons j .nil⟩
  | glass y=>
   obtain ⟨t,M,N,rfl,ht,h,j⟩:=DV.t2 (show DV K H v (.tuple [.str "glass",Ai y]) from hv)
   obtain rfl:=DV.str_of h;exact ⟨t,_,rfl,ht,.cons j .nil⟩
  | stop y L=>
   obtain ⟨t,M,N,b1,rfl,ht,h,j,a2⟩:=DV.t3 (show DV K H v (.tuple [.str "stop",Ai y,Ai L]) from hv)
   obtain rfl:=DV.str_of h;exact ⟨t,_,rfl,ht,.cons j (.cons a2 .nil)⟩
 have hl:b.length=(fracs p).length:=by have:=u.len;rw [Y3] at this;exact this
 have b2:1<=(fracs p).length/\(fracs p).length<=2:=by cases p<;>exact ⟨by simp [fracs],by simp [fracs]⟩
 refine ⟨rfl,_,rfl,t,_,_,_,rfl,rfl,ht,Ek,(by show 1<=Y7;decide),λ l O=>?_⟩
 have C:=Aj O (.lst [.str (wd p)]);have R:upd H l (.lst [.str (wd p)]) l=some (.lst [.str (wd p)]):=Al;generalize upd H l (.lst [.str (wd p)])=S at C R ⊢;refine ⟨_,rfl,_,rfl,t,_,rfl,ht.keep C,(λ e=>by rw [PL] at e;simp only [X4] at e;omega),λ k U=>⟨k,rfl,⟨_,SqT.of Al⟩,?_⟩⟩
 rw [RN];have D:=Aj U (.tup ((V.str (wd p)::b).drop 1));have W:upd S k (.tup ((V.str (wd p)::b).drop 1)) k=some (.tup b):=Al;have z:=D _ _ R;have G:=C.trans D;generalize upd S k (.tup ((V.str (wd p)::b).drop 1))=a3 at D W z G ⊢;refine JR (K:=K) (a:=k) (xs:=b) (λ i n o g=>∃c0,n=[c0]/\o=(((fracs p).take i).map Aq).map V.str/\g=a3) ⟨_,rfl,rfl,rfl⟩ ?_ ?_ ?_
 ·rintro i n o g I ⟨c0,rfl,rfl,rfl⟩
  refine ⟨?_,SqT.of W⟩;rw [Y3,Y3,XE];exact XP (small1000 (by omega))
 ·rintro i x n o g I ⟨c0,rfl,rfl,rfl⟩
  obtain ⟨d,hd,a4⟩:=u.get I;rw [Ya] at hd;cases e:(fracs p)[i]? with
  | none=>rw [e] at hd;cases hd
  | some y=>
   rw [e] at hd;cases hd
   refine ⟨_,rfl,x,y,rfl,a4.keep G,ps.2 y (ZN e),nx (CK I) ⟨_,rfl,?_,rfl⟩⟩;rw [XV,e,ZH,ZH];rfl
 ·rintro n o g r ⟨c0,rfl,rfl,rfl⟩ X
  rw [hl,WA];have J:=Aj X (.lst (((fracs p).map Aq).map V.str));have Y:upd g r (.lst (((fracs p).map Aq).map V.str)) r=some (.lst (((fracs p).map Aq).map V.str)):=Al;have B:=J _ _ z;have Z:=G.trans J;generalize upd g r (.lst (((fracs p).map Aq).map V.str))=b3 at J Y B Z ⊢;refine ⟨l,r,_,_,rfl,rfl,B,Y,XP (small1000 (by rw [Y3,Y3];simp only [X4,YR];omega)),λ a5 a0=>?_⟩
  have a6:([.str (wd p)]++((fracs p).map Aq).map V.str:List V)=(toks p).map V.str:=rfl;have a7:JoinOk (Y1 " ") (toks p)=true:=by
   refine UD ?_ (by decide+kernel)
   have a8:∀t∈toks p,t.length<=1200:=Lib.O3 p ps;have a9:=HX p;have b4:((toks p).map (·.length)).sum<=(toks p).length * 1200:=M8 a8
   have b5:(toks p).length * 1200<=3 * 1200:=Yh _ a9.1;omega
  exact ⟨_,a5,toks p,rfl,rfl,by rw [Al,a6],a7,q _ (Z.trans (Aj a0 _))⟩
theorem YM {p:Pc}(b:PBig p):(CW p).length<=4000:=by
 unfold CW;rw [Dg];have d:=Ol (Y1 " ") (toks p) 1200 (Lib.O3 p b);have a:=HX p;have e:(Y1 " ").length=1:=by decide+kernel
 have f:(toks p).length * (1200+(Y1 " ").length)<=3 * 1201:=NF a.1 (by omega)
 omega
theorem oX (T:Txt K mg ad):CalB P w K mg base true 5 "show_bench" ["bench"] (Z0 K):=by
 refine T.Wv.calN rO (λ _ _ _ _ _ _=>Bl λ _=>rfl) (λ vs H Q E C=>?_) (λ f M A outer s H vs Q E u C=>?_)
 ·obtain ⟨_,_,rfl,_⟩:=C;rfl
 obtain ⟨v,ps,rfl,hv,l,sh,q⟩:=C;refine ⟨_,(Ae (Cw (Ah (Lb T) u.m Ag (Ac (pv 0) Aa))) (Af (Am (CT ZU US UU Ie BJ (Cm (Ej ["piece"] [none] rfl (DY (pv 0)) (λ _ _ _ _ _=>(Bc (i:=0) (show Uz [("piece":Str)] by decide))) (λ _ _ _ _ _=>Eb) (λ _ _ _ _ _=>(Ah (rn T) u.m Ag (Ac (pv 0) Aa))) (Ds (by decide) (by decide)) (by decide) rfl (by decide) rfl (Dt rfl)) Aa))))),?_⟩
 refine ⟨_,rfl,v,ps,1900,rfl,hv,⟨l,λ p e=>(sh p e).1,λ p e=>(sh p e).bd⟩,by decide,λ N y=>?_⟩
 obtain ⟨b,xs,rfl,z,n⟩:=hv.lst_of;have hl:xs.length=ps.length:=by have:=n.len;rw [Y3] at this;exact this
 refine ⟨rfl,_,rfl,b,rfl,⟨_,z.keep y⟩,?_⟩;refine HQ (K:=K) (a:=b) (xs:=xs) (λ i h j k=>∃c0,h=[c0]/\j=((ps.take i).map CW).map V.str/\Same H k) ⟨_,rfl,rfl,y⟩ ?_ ?_ ?_
 ·rintro i h j k r ⟨c0,rfl,rfl,g⟩
  refine ⟨?_,z.keep g⟩;rw [Y3,Y3,XE];exact XP (small1000 (by omega))
 ·rintro i x h j k r ⟨c0,rfl,rfl,g⟩
  obtain ⟨d,hd,D⟩:=n.get r;obtain ⟨B,o,rfl⟩:=HB hd;refine ⟨_,rfl,x,B,rfl,D.keep g,sh B (ZN o),λ O G=>nx (CK r) ⟨_,rfl,?_,g.trans G⟩⟩
  rw [XV,o,ZH,ZH];rfl
 ·rintro h j k p ⟨c0,rfl,rfl,g⟩ e
  rw [hl,WA];have I:JoinOk (Y1 "; ") (ps.map CW)=true:=by
   refine UD ?_ (by decide+kernel)
   have J:∀t∈ps.map CW,t.length<=4000:=λ t ht=>by
    obtain ⟨p,e,rfl⟩:=WO.mp ht;exact YM (sh p e)
   have L:=M8 J;rw [Y3] at L ⊢;have R:ps.length * 4000<=60 * 4000:=Yh _ l;omega
  exact ⟨_,p,ps.map CW,rfl,rfl,Al,I,q _ (g.trans (Aj e _))⟩
end
end K73
namespace K73
open PySem L2 Lib Fr Op
seal PE PT PW PA PS PSs PG PGs PI PO Bv
section
variable {P:ZY}{w:World}{K:FrG}{mg:Str->Option Value}{base:Heap}{ad:Adr}{c:Bool}
theorem zT (T:Txt K mg ad):CalB P w K mg base true 1 "_law_cell_at" ["_law_script","_law_k"] (wL K):=by
 refine T.Wm.calN AG2 (λ _ _ _ _ _ _=>Ba λ _ _=>rfl) (λ vs H Q E e=>?_) (λ f i A outer s H vs Q E j e=>?_)
 ·obtain ⟨_,_,_,rfl,_⟩:=e;rfl
 obtain ⟨a,ns,k,rfl,d,g,q⟩:=e;refine ⟨_,(Ae (Aw (Az Fi (pv 1) (Be Cp rfl T.len Ce (Ac (pv 0) Aa))) (Af (Am (Ad ix_list (pv 0) (pv 1)))) Ax) (Af (Am Ab))),?_⟩;refine ⟨_,rfl,_,rfl,a,_,rfl,.inl d,_,_,rfl,rfl,_,rfl,?_⟩;refine ite2 (λ b=>?_) (λ _=>q 0)
 have b:k < (((ns.map V.int).length:Nat):Int):=of_decide_eq_true b;obtain ⟨v,hv,h⟩:=Ih (xs:=ns.map V.int) g b;obtain ⟨l,_,rfl⟩:=WO.mp h;exact ⟨_,rfl,_,rfl,a,_,_,_,rfl,rfl,d,hv,q l⟩
theorem lD (T:Txt K mg ad):CalB P w K mg base true 1 "_law_drawn" ["_law_script","_law_start"] (nO K):=by
 refine T.T4.calN JP (λ _ _ _ _ _ _=>Ba λ _ _=>rfl) (λ vs H Q E Z=>?_) (λ f c2 A outer s H vs Q E c6 Z=>?_)
 ·obtain ⟨_,_,_,rfl,_⟩:=Z;rfl
 obtain ⟨a,ns,st,rfl,b2,a0,a1,q⟩:=Z;refine ⟨_,(Ae (Ar (i:=2) JP.nd (Ak G5 (Ej ["_law_cell"] [none] rfl (DY (DP Fg (pv 0) Dh (CZ Ab))) (λ _ _ _ _ _=>(Bc (i:=0) (show Uz [("_law_cell":Str)] by decide))) (λ _ _ _ _ _=>Eb) (λ _ _ _ _ _=>(Be Iw rfl T.abs Iz (Ac (pv 0) Aa))) (Ds (by decide) (by decide)) (by decide) rfl (by decide) rfl (Dt rfl)) (Bu (BP Ab Aa)))) (Ae (Ar (i:=3) JP.nd (pv 1)) (Ae (Dm Xs rfl (IW rfl T.range (BL (Be Cp rfl T.len Ce (Ac (pv 2) Aa)) Aa)) (Bc (i:=4) JP.nd) (Af (Ar (i:=3) JP.nd (Ak DR (Ak CJ (Ak CJ (Ak Ea (pv 3) Ab) (Ak Ea (Ak DR (Ad ix_list (pv 2) (pv 4)) Ab) (Ak CJ (Ak Ea (pv 4) (pv 4)) Ab))) Ab) Ab)))) (Ae (Ar (i:=5) JP.nd (Ak Ea (Ak DR (Ad ix_list (pv 2) Ab) Ab) (Be Cp rfl T.len Ce (Ac (pv 2) Aa)))) (Ae (Ey (Ak Gm (Ad ix_list (pv 2) Ab) Ab) (Jx (pv 2) Ab JQ)) (Af (Am (Bu (Ac (pv 2) (Ac (pv 5) (Ac (pv 3) (BP Ab Aa)))))))))))),?_⟩
 refine ⟨_,rfl,_,rfl,a,_,rfl,b2,λ p b3=>⟨p,rfl,⟨_,SqL.of Al⟩,?_⟩⟩
 obtain ⟨u,G⟩:=tX ns none (some 63);have c3:u.length<=63:=by
  have Z:=qi (ns.map V.int) 63
  change (cutV (ns.map V.int) none (some 63)).length<=_ at Z
  rw [G,Y3] at Z;omega
 rw [G];have N:=Aj b3 (.lst (u.map V.int));have I:upd H p (.lst (u.map V.int)) p=some (.lst (u.map V.int)):=Al;generalize upd H p (.lst (u.map V.int))=b4 at N I ⊢;refine HQ (K:=K) (a:=p) (xs:=u.map V.int) (λ i m C l=>∃c0 L,m=[c0]/\l=b4/\C=L.map V.int/\L.length=i) ⟨_,[],rfl,rfl,rfl,rfl⟩ ?_ ?_ ?_
 ·rintro i m C l y ⟨c0,L,rfl,rfl,rfl,rfl⟩
  rw [Y3] at y ⊢;exact ⟨XP (small1000 (by omega)),SqL.of I⟩
 ·rintro i x m C l y ⟨c0,L,rfl,rfl,rfl,rfl⟩
  obtain ⟨t,_,rfl⟩:=WO.mp (ZN y);exact ⟨_,rfl,_,rfl,nx (CK y) ⟨_,L++[_],rfl,rfl,by rw [ZH];rfl,by rw [X9];rfl⟩⟩
 rintro c4 C a2 D ⟨c0,j,rfl,rfl,rfl,a3⟩ a4
 rw [Y3] at a3;have O:=Aj a4 (.lst (j.map V.int));have z:upd a2 D (.lst (j.map V.int)) D=some (.lst (j.map V.int)):=Al;generalize upd a2 D (.lst (j.map V.int))=R at O z ⊢;refine ⟨(by show 1<=Y7;decide),λ F a5=>?_⟩
 have S:=Aj a5 (.lst [.int 0]);refine ⟨D,F,_,_,rfl,rfl,S _ _ z,Al,XP (small1000 (by rw [Y3];simp only [X4,YR];omega)),λ h J=>?_⟩
 have b5:=Aj J (.lst (j.map V.int++[.int 0]));have g:upd (upd R F (.lst [.int 0])) h (.lst (j.map V.int++[.int 0])) h=some (.lst (j.map V.int++[.int 0])):=Al;have M:H h=none:=(N.trans (O.trans S)).free J;have U:Same H (upd (upd R F (.lst [.int 0])) h (.lst (j.map V.int++[.int 0]))):=N.trans (O.trans (S.trans b5));have b6:j.map V.int++[.int 0]=(j++[0]).map V.int:=by rw [ZH];rfl
 rw [b6] at g U ⊢;have b7:(j++[0]).length<=64:=by rw [X9];simp only [X4,YR];omega
 have a6:0 < (j++[0]).length:=by rw [X9];simp
 generalize upd (upd R F (.lst [.int 0])) h (.lst ((j++[0]).map V.int))=b8 at g U ⊢;generalize j++[0]=L at g b7 a6 ⊢;have c5:(L.map V.int).length=L.length:=Y3 ..;refine ⟨_,rfl,?_⟩;refine ⟨_,rfl,h,_,rfl,.inl (SqL.of g),_,rfl,by omega,by omega,?_⟩
 refine IK (lo:=0) (n:=(((L.map V.int).length:Nat):Int).toNat) (λ i m l=>∃(k:Int) (W:Option V),m=[some (.ref a),some (.int st),some (.ref h),some (.int k),W,none]/\l=b8/\0<=k/\k < 2 ^ 40) ⟨_,_,rfl,rfl,a0,a1⟩ ?_ ?_
 ·rintro i m l y ⟨k,W,rfl,rfl,a7,a8⟩
  obtain ⟨v,hv,X⟩:=Ih (xs:=L.map V.int) (r:=0+(i:Int)) (by omega) (by omega)
  obtain ⟨t,_,rfl⟩:=WO.mp X;refine ⟨_,rfl,_,_,rfl,rfl,.inr ⟨by decide,by decide⟩,_,rfl,_,rfl,h,_,_,_,rfl,rfl,SqL.of g,hv,_,_,rfl,rfl,(by show (0:Int) < 2147483647;decide),_,rfl,_,rfl,?_⟩
  have c7:(0+(i:Int)) < 100:=by omega
  refine ⟨_,_,rfl,rfl,.inl ⟨by omega,by omega⟩,_,_,rfl,rfl,?_⟩
  have c8:=UF t (show (2147483647:Int)≠0 by decide)
  have c9:=WZ t (show (0:Int) < 2147483647 by decide)
  refine ⟨_,_,rfl,rfl,.inl ⟨by omega,by omega⟩,_,_,rfl,rfl,_,_,rfl,rfl,_,_,rfl,rfl,(by show (0:Int) < 2147483629;decide),?_⟩
  have d0:(2:Int) ^ 40=1099511627776:=by decide
  have b9:=λ x:Int=>UF x (show (2147483629:Int)≠0 by decide)
  have e1:=λ x:Int=>WZ x (show (0:Int) < 2147483629 by decide)
  refine ⟨_,_,rfl,rfl,b9 _,Int.lt_trans (e1 _) (by decide)⟩
 ·rintro m l ⟨k,W,rfl,rfl,a7,a8⟩
  obtain ⟨v,hv,X⟩:=Ih (xs:=L.map V.int) (r:=0) (by omega) (by omega)
  obtain ⟨t,_,rfl⟩:=WO.mp X;refine ⟨_,rfl,h,_,_,_,rfl,rfl,SqL.of g,hv,_,_,rfl,rfl,(by show (0:Int) < 2;decide),_,rfl,h,_,rfl,.inl (SqL.of g),?_⟩
  have z0:=UF t (show (2:Int)≠0 by decide)
  have d1:=WZ t (show (0:Int) < 2 by decide)
  refine ⟨_,_,rfl,rfl,.inl ⟨by omega,by omega⟩,?_⟩
  refine ⟨_,rfl,h,_,_,_,rfl,rfl,SqL.of g,hv,_,_,rfl,rfl,⟨by decide,by decide⟩,_,rfl,h,_,_,0,rfl,rfl,g,Zq (by decide) (by omega),?_⟩
  rw [iB];have B:upd l h (.lst ((L.set 0 (t / 2)).map V.int)) h=some (.lst ((L.set 0 (t / 2)).map V.int)):=Al;have Y:∀b o,H b=some o->upd l h (.lst ((L.set 0 (t / 2)).map V.int)) b=some o:=λ b o e=>by
   rw [BK (Bq e M)];exact U _ _ e
  have a9:(L.set 0 (t / 2)).length=L.length:=jv ..;generalize upd l h (.lst ((L.set 0 (t / 2)).map V.int))=b0 at B Y ⊢;generalize L.set 0 (t / 2)=c1 at B a9;refine ⟨_,rfl,_,rfl,_,rfl,(by show 4<=Y7;decide),λ d hd=>?_⟩
  have b1:=Aj hd (.lst [.ref h,.int (t % 2 * ((L.map V.int).length:Int)),.int k,.int 0]);refine q d h _ ((show Same H b0 from Y).trans b1) ((show Same H b0 from Y).free hd) M ⟨_,k,0,c1,Al,b1 _ _ B,?_,?_,by omega,a7,a8,by decide,by decide⟩
  ·exact Int.mul_nonneg z0 (by omega)
  ·have:t % 2=0\/t % 2=1:=by omega
   rcases this with e | e<;>rw [e]<;>omega
theorem Lf (T:Txt K mg ad):CalB P w K mg base true 1 "_law_draw" ["_law_drawn_here","_law_many"] xP:=by
 refine T.RV.calN Oo (λ _ _ _ _ _ _=>Ba λ _ _=>rfl) (λ vs H Q E J=>?_) (λ f a1 A outer s H vs Q E a8 J=>?_)
 ·obtain ⟨_,_,_,_,rfl,_⟩:=J;rfl
 obtain ⟨d,c,b4,m,rfl,hd,⟨l,S⟩,q⟩:=J;have p:=hd.ne;obtain ⟨u,n,t,L,y,z,M,N,O,U,W,a9,t1⟩:=hd.x;have a2:(L.map V.int).length=L.length:=Y3 ..;refine ⟨_,(Ae (Ar (i:=2) Oo.nd (Ad ix_list (pv 0) Ab)) (Ae (Ey (Ak CJ (Ad ix_list (pv 0) Ab) Ab) (Jx (pv 0) Ab JQ)) (Ae (Jj Xs (PW.pt (pw_and (Az Fi (Ad ix_list (pv 0) Ab) (Be Cp rfl T.len Ce (Ac (pv 2) Aa))) (pw_and1 (Az Bp (Ad ix_list (pv 2) (Ad ix_list (pv 0) Ab)) Ab)))) (Af (Ey (Ak CJ (Ad ix_list (pv 0) Ab) Ab) (Jx (pv 0) Ab JQ)))) (Ae (Aw (Az Bp (Ad ix_list (pv 0) Ab) (Be Cp rfl T.len Ce (Ac (pv 2) Aa))) (Ae (Ar (i:=3) Oo.nd (Ad ix_list (pv 0) Ab)) (Ae (Ey (Ak DR (Ak CJ (Ak CJ (Ak Ea (Ad ix_list (pv 0) Ab) Ab) (Ak Ea (Ak Ea (pv 3) (pv 3)) (pv 3))) Ab) Ab) (Jx (pv 0) Ab JQ)) (Af (Am (Ak DR (Ak Gm (Ak DR (Ak Ea (Ad ix_list (pv 0) Ab) (Ad ix_list (pv 0) Ab)) Ab) Ab) (pv 1)))))) Ax) (Ae (Ar (i:=4) Oo.nd (Ak DR (Ad ix_list (pv 2) (Ad ix_list (pv 0) Ab)) (pv 1))) (Ae (Ey (Ak Gm (Ad ix_list (pv 2) (Ad ix_list (pv 0) Ab)) (pv 1)) (Jx (pv 2) (Ad ix_list (pv 0) Ab) JQ)) (Af (Am (pv 4))))))))),?_⟩;refine ⟨_,rfl,d,_,_,_,rfl,rfl,SqL.of y,rfl,?_⟩;refine ⟨_,rfl,d,_,_,_,rfl,rfl,SqL.of y,rfl,_,_,rfl,rfl,_,rfl,d,_,_,3,rfl,rfl,y,rfl,?_⟩;have e1:∀i:Int,[V.ref c,.int u,.int n,.int t].set 3 (.int (t+1))=[.ref c,.int u,.int n,.int (t+1)]:=λ _=>rfl
 rw [e1 u];refine ⟨λ k X F=>∃i:Int,(k:Int)=(L.length:Int) - i/\0<=i/\i<=L.length/\X=[some (.ref d),some (.int m),some (.ref c),none,none]/\F=upd H d (.lst [.ref c,.int i,.int n,.int (t+1)]),⟨((L.length:Int) - u).toNat,u,by omega,M,N,rfl,rfl⟩,?_⟩
 rintro k _ _ ⟨i,b0,h,B,rfl,rfl⟩
 have a:upd H d (.lst [.ref c,.int i,.int n,.int (t+1)]) d=some (.lst [.ref c,.int i,.int n,.int (t+1)]):=Al;have g:upd H d (.lst [.ref c,.int i,.int n,.int (t+1)]) c=some (.lst (L.map V.int)):=by rw [BK p];exact z
 refine ⟨_,rfl,d,_,_,_,rfl,rfl,SqL.of a,rfl,_,rfl,c,_,rfl,.inl (SqL.of g),_,_,rfl,rfl,_,rfl,?_⟩;have a3:∀(a4:Prop),a4->a4:=λ _ J=>J
 by_cases a5:i < (L.length:Int)
 ·obtain ⟨v,hv,Y⟩:=Ih (xs:=L.map V.int) (r:=i) h (by omega)
  obtain ⟨b1,_,rfl⟩:=WO.mp Y;refine Bg (decide_eq_true (by omega)) ?_
  refine ⟨_,rfl,_,rfl,d,_,_,_,rfl,rfl,SqL.of a,rfl,c,_,_,_,rfl,rfl,SqL.of g,hv,rfl,_,rfl,?_⟩;refine ite2 (λ _=>?_) (λ _=>?_)
  ·refine ⟨λ R F=>R=[some (.ref d),some (.int m),some (.ref c),none,none]/\F=upd H d (.lst [.ref c,.int (i+1),.int n,.int (t+1)]),?_,?_⟩
   ·rintro _ _ ⟨rfl,rfl⟩
    exact ⟨((L.length:Int) - (i+1)).toNat,by omega,i+1,by omega,by omega,by omega,rfl,rfl⟩
   ·refine ⟨_,rfl,d,_,_,_,rfl,rfl,SqL.of a,rfl,_,_,rfl,rfl,_,rfl,d,_,_,1,rfl,rfl,a,rfl,rfl,?_⟩;rw [Hc];rfl
  ·
   refine ⟨_,rfl,d,_,_,_,rfl,rfl,SqL.of a,rfl,_,rfl,c,_,rfl,.inl (SqL.of g),rfl,_,rfl,BR (by rw [EY];exact decide_eq_false (by omega)) ?_⟩
   refine ⟨_,rfl,_,rfl,d,_,_,_,rfl,rfl,SqL.of a,rfl,c,_,_,_,rfl,rfl,SqL.of g,hv,_,rfl,_,_,rfl,rfl,l,?_⟩;refine ⟨_,rfl,_,rfl,d,_,_,_,rfl,rfl,SqL.of a,rfl,c,_,_,_,rfl,rfl,SqL.of g,hv,_,rfl,_,_,rfl,rfl,⟨l,S⟩,?_⟩;refine ⟨_,rfl,_,rfl,d,_,_,_,rfl,rfl,SqL.of a,rfl,c,_,_,i.toNat,rfl,rfl,g,Zq h (by omega),?_⟩
   rw [iB];refine ⟨_,rfl,q _ _ (UF _ (by omega)) (WZ _ l) ⟨i,n,t+1,L.set i.toNat (b1 / m),?_,Al,h,?_,?_,U,W,by omega,by omega⟩ ?_⟩
   ·rw [BK (QO p)];exact a
   ·rw [jv];exact B
   ·rw [jv];exact O
   ·intro b o G nc e;rw [BK nc,BK G];exact e
 ·refine BR (decide_eq_false (by omega)) ?_
  have Z:i=((L.map V.int).length:Int):=by omega
  refine ⟨_,rfl,d,_,_,_,rfl,rfl,SqL.of a,rfl,_,rfl,c,_,rfl,.inl (SqL.of g),rfl,_,rfl,Bg (by rw [EY];exact decide_eq_true Z) ?_⟩
  have a6:(2:Int) ^ 40=1099511627776:=by decide
  have a7:(2:Int) ^ 64=18446744073709551616:=by decide
  refine ⟨_,rfl,d,_,_,_,rfl,rfl,SqL.of a,rfl,?_⟩;refine ⟨_,rfl,d,_,_,_,rfl,rfl,SqL.of a,rfl,_,_,rfl,rfl,.inr ⟨by decide,by decide⟩,_,rfl,_,rfl,_,_,rfl,rfl,.inl ⟨by omega,by omega⟩,_,rfl,_,_,rfl,rfl,.inr ⟨by omega,by omega⟩,_,_,rfl,rfl,_,_,rfl,rfl,_,_,rfl,rfl,(by show (0:Int) < 2147483647;decide),?_⟩
  obtain ⟨x,I⟩:∃x:Int,x=(n * 48271+(t+1) * (t+1) * (t+1)+1) % 2147483647:=⟨_,rfl⟩;have a0:0<=x:=by rw [I];exact UF _ (by decide)
  have b2:x < 2147483647:=by rw [I];exact WZ _ (by decide)
  refine ⟨_,rfl,d,_,_,2,rfl,rfl,a,rfl,?_⟩;rw [Hc];show (_:Hp->Prop) (upd H d (.lst ([V.ref c,.int i,.int n,.int (t+1)].set 2 (.int ((n * 48271+(t+1) * (t+1) * (t+1)+1) % 2147483647)))));rw [<- I];have j:upd H d (.lst ([V.ref c,.int i,.int n,.int (t+1)].set 2 (.int x))) d=some (.lst [.ref c,.int i,.int x,.int (t+1)]):=Al;have C:upd H d (.lst ([V.ref c,.int i,.int n,.int (t+1)].set 2 (.int x))) c=some (.lst (L.map V.int)):=by rw [BK p];exact z
  have D:SE d c H (upd H d (.lst ([V.ref c,.int i,.int n,.int (t+1)].set 2 (.int x)))):=λ b o G nc e=>by rw [BK G];exact e
  generalize upd H d (.lst ([V.ref c,.int i,.int n,.int (t+1)].set 2 (.int x)))=b3 at j C D ⊢;refine ⟨_,rfl,d,_,_,_,rfl,rfl,SqL.of j,rfl,_,rfl,d,_,_,_,rfl,rfl,SqL.of j,rfl,_,_,rfl,rfl,.inl ⟨by omega,by omega⟩,_,_,rfl,rfl,(by show (0:Int) < 2147483629;decide),_,_,rfl,rfl,⟨by decide,by decide⟩,_,rfl,_,_,rfl,rfl,l,?_⟩
  exact q _ _ (UF _ (by omega)) (WZ _ l) ⟨i,x,t+1,L,j,C,h,B,O,a0,by omega,by omega,by omega⟩ D
theorem Ln (T:Txt K mg ad):CalB P w K mg base true 1 "_law_low" ["_law_top","_law_bottom"] pX:=by
 refine T.WY.calN NK (λ _ _ _ _ _ _=>Ba λ _ _=>rfl) (λ vs H Q E t=>?_) (λ f D A outer s H vs Q E F t=>?_)
 ·obtain ⟨a,b,rfl,_⟩:=t;rfl
 obtain ⟨a,b,rfl,G,bs,q⟩:=t;have g:b≠0:=by omega
 refine ⟨_,(Ae (Ar (i:=2) NK.nd (Be Iw rfl T.abs Iz (Ac (pv 0) Aa))) (Ae (Ar (i:=3) NK.nd (pv 1)) (Ae (Jj Xs (Az HY (pv 3) Ab) (Af (ZK (i:=2) (j:=3) rfl NK.nd rfl rfl (by decide) rfl rfl (Ac (pv 3) (Bf (Ak DR (pv 2) (pv 3)) Aa)) rfl))) (Af (Am (Bk (Bf (Ak Oe (pv 0) (pv 2)) (Bf (Ak Oe (pv 1) (pv 2)) Aa)))))))),?_⟩
 refine ⟨_,rfl,_,rfl,_,rfl,?_⟩;have u:=Fr.Oj a;have v:b=(b.natAbs:Int):=by omega
 refine ⟨λ k x d=>H=d/\∃(m:Nat),x=[some (.int a),some (.int b),some (.int m),some (.int k)]/\GA m k=GA a.natAbs b.natAbs,⟨b.natAbs,rfl,a.natAbs,by rw [<- u,<- v];rfl,rfl⟩,?_⟩
 rintro n _ _ ⟨rfl,m,rfl,e⟩
 refine ⟨_,rfl,_,_,rfl,rfl,_,rfl,?_⟩;refine ite2 (λ c=>?_) (λ c=>?_)
 ·have h:n≠0:=by
   intro y;subst y;simp at c
  have z:(m:Int) % (n:Int)=((m % n:Nat):Int):=(Fh m n).symm;refine ⟨λ l d=>H=d/\l=[some (.int a),some (.int b),some (.int n),some (.int ((m:Int) % (n:Int)))],?_,?_⟩
  ·rintro _ _ ⟨rfl,rfl⟩
   rw [z];exact ⟨m % n,Mo _ (by omega),rfl,n,rfl,by rw [Fr.ZF,e]⟩
  ·exact ⟨_,rfl,_,rfl,_,rfl,_,_,rfl,rfl,(by show (0:Int) < (n:Int);omega),_,_,rfl,rfl,rfl⟩
 ·have h:n=0:=by
   by_cases y:n=0
   ·exact y
   ·exfalso
    apply c
    exact decide_eq_true (by omega)
  subst h;have e2:(m:Int)=Fr.gcd a b:=by
   unfold Fr.gcd;rw [<- e,Nat.gcd_zero_right]
  have I:=Fr.aA (a:=a) g;have J:=Fr.eG a b;have o:(m:Int)=Fr.sg a b:=by
   unfold Fr.sg;rw [if_neg (by omega),e2]
  have r:(m:Int).natAbs.log2 < 9000:=by
   have B:(m:Int).natAbs < lim:=by omega
   exact Yu B
  have ne:(m:Int)≠0:=by rw [o];exact Fr.JD g
  refine ⟨_,rfl,_,rfl,_,_,rfl,rfl,⟨ne,r⟩,_,rfl,_,rfl,_,_,rfl,rfl,⟨ne,r⟩,(by show 2<=Y7;decide),λ p C=>?_⟩
  rw [o];exact q p C
theorem jg (T:Txt K mg ad):CalB P w K mg base true 1 "_law_under" ["_law_one","_law_other"] (PR K dq):=by
 refine T.Ww.calN AH1 (λ _ _ _ _ _ _=>Ba λ _ _=>rfl) (λ vs H Q E i=>?_) (λ f m A outer s H vs Q E o i=>?_)
 ·obtain ⟨_,_,dv,⟨_,_,rfl,_⟩,_⟩:=i;exact dv.len
 obtain ⟨_,_,dv,⟨p,q,rfl,sp,d,rfl⟩,k⟩:=i;obtain ⟨_,_,rfl,j,l⟩:=dv.two;obtain ⟨a,rfl,g⟩:=j.fr;obtain ⟨b,rfl,h⟩:=l.fr;refine ⟨_,(Af (Am (Dq Fi (Ak Cq (Ad ix_tup (pv 0) Ab) (Ad ix_tup (pv 1) Ab)) (Ak Cq (Ad ix_tup (pv 1) Ab) (Ad ix_tup (pv 0) Ab))))),?_⟩;refine ⟨_,rfl,a,_,_,_,rfl,rfl,g,rfl,_,rfl,b,_,_,_,rfl,rfl,h,rfl,_,_,rfl,rfl,Cv sp.n d.dn,?_⟩;refine ⟨_,rfl,b,_,_,_,rfl,rfl,h,rfl,_,rfl,a,_,_,_,rfl,rfl,g,rfl,_,_,rfl,rfl,Cv d.n sp.dn,_,_,rfl,rfl,?_⟩;have e:decide (p.num * (q.den:Int) < q.num * (p.den:Int))=decide (p < q):=decide_eq_decide.mpr (Fr.cN p q);show Q (.bl (decide (p.num * (q.den:Int) < q.num * (p.den:Int)))) H;rw [e];exact k _ _ (Same.refl _) (.bl _)
theorem iG (T:Txt K mg ad):CalB P w K mg base true 2 "_law_part" ["_law_drawn_here","_law_far"] (yr K):=by
 refine T.X6.calN JM (λ _ _ _ _ _ _=>Ba λ _ _=>rfl) (λ vs H Q E c8=>?_) (λ f S A outer s H vs Q E a c8=>?_)
 ·obtain ⟨_,_,_,_,rfl,_⟩:=c8;rfl
 obtain ⟨d,c,e2,k,rfl,hd,q⟩:=c8;have o:CPow 10 15:=⟨by decide,by decide,by decide⟩
 have U:(10:Int) ^ (15:Int).toNat=1000000000000000:=by decide
 have e3:(2:Nat) ^ 50=1125899906842624:=by decide
 obtain ⟨f8,c9,W⟩:∃t,PSs (Dn true P w K mg base ["_law_drawn_here","_law_far","_law_top","_law_bottom"] "_law_part" (defScope LR) f S A outer s H E).nox ((defBody LR).drop 1) t/\∀(c7:Ends) (X Y:Option V) (l:Hp),DrG l d c (e2+6)->SE d c H l->(∀v B q,DrG B d c e2->SE d c H B->DV K B v (Ai q)->Bd (pb k) q->c7.rt v B)->t c7 [some (.ref d),some (.bl k),X,Y] l:=by
  refine ⟨_,(Ae (Ar (i:=2) JM.nd (Ah (Lf T) a.m Ag (Ac (pv 0) (Ao (Ad ix_list (Bu (BP Ab (BP Ab Aa))) (Fp iD rfl T.int Gs (eU (Dq Bp (Ah (Lf T) a.m Ag (Ac (pv 0) (BP Ab Aa))) Ab) Aa))) Aa)))) (Ae (Ar (i:=3) JM.nd (Ak CJ Ab (Ad ix_list (Bu (BP Ab (BP Ab (BL (Ah (Lf T) a.m Ag (Ac (pv 0) (BP Ab Aa))) (BL (Ah (Lf T) a.m Ag (Ac (pv 0) (BP Ab Aa))) Aa))))) (Ah (Lf T) a.m Ag (Ac (pv 0) (BP Ab Aa)))))) (Ae (Aw (Az Bp (Ah (Lf T) a.m Ag (Ac (pv 0) (BP Ab Aa))) Ab) (Af (Ar (i:=2) JM.nd (Ak Ex Ab (pv 2)))) Ax) (Af (Am (Ah (Ln T) a.m Ag (Ac (pv 2) (Ac (pv 3) Aa)))))))),?_⟩
  intro c7 X Y l e C q;refine ⟨_,rfl,(by show 2<=Y7;decide),λ p n=>?_⟩
  have Z:=Aj n (.lst [.int 21,.int 1999]);have a0:=e.nd n;have a1:=e.nc n;refine ⟨_,rfl,d,c,_,9,rfl,e.keep Z,⟨by decide,by decide⟩,λ a2 d0 a3 a4 u D=>?_⟩
  have a5:=D p _ a0 a1 Al;refine ⟨rfl,.inr ⟨_,rfl,?_⟩⟩;obtain ⟨v,hv,a6⟩:=Ih (xs:=[V.int 21,V.int 1999]) (r:=if decide (V.int a2=V.int 1) then 1 else 0) (by split<;>decide) (by simp only [X4,YR];split<;>decide)
  obtain ⟨m,rfl,d1,f9⟩:∃m:Int,v=.int m/\0 < m/\m<=1999:=by
   simp only [W4,YV,or_false] at a6;rcases a6 with rfl | rfl<;>exact ⟨_,rfl,by decide,by decide⟩
  refine ⟨p,_,_,_,rfl,rfl,SqL.of a5,hv,?_⟩;refine ⟨d,c,_,m,rfl,u,⟨d1,by omega⟩,λ t d2 g0 t1 x L=>?_⟩
  have a7:=C.trans ((Z.se d c).trans (D.trans L));refine ⟨_,rfl,d,c,_,4,rfl,x,⟨by decide,by decide⟩,λ a8 d3 a9 e4 y M=>?_⟩
  refine ⟨_,rfl,d,c,_,12,rfl,y,⟨by decide,by decide⟩,λ b0 d4 b2 e5 h N=>?_⟩
  refine ⟨(by show 4<=Y7;decide),λ b3 z=>?_⟩
  have b4:=Aj z (.lst [.int 0,.int 0,.int a8,.int b0]);have O:=h.nd z;have R:=h.nc z;refine ⟨_,rfl,d,c,_,4,rfl,h.keep b4,⟨by decide,by decide⟩,λ d5 g1 b5 e6 b6 b7=>?_⟩
  have b8:=b7 b3 _ O R Al;obtain ⟨d6,b9,I⟩:=Ih (xs:=[V.int 0,V.int 0,V.int a8,V.int b0]) (r:=d5) b5 (by simp only [X4,YR];omega)
  obtain ⟨b,rfl,g2,b1⟩:∃b:Int,d6=.int b/\0<=b/\b<=11:=by
   simp only [W4,YV,or_false] at I;rcases I with rfl | rfl | rfl | rfl
   ·exact ⟨_,rfl,by decide,by decide⟩
   ·exact ⟨_,rfl,by decide,by decide⟩
   ·exact ⟨_,rfl,a9,by omega⟩
   ·exact ⟨_,rfl,b2,by omega⟩
  refine ⟨b3,_,_,_,rfl,rfl,SqL.of b8,b9,_,_,rfl,rfl,?_⟩;have c0:=a7.trans (M.trans (N.trans ((b4.se d c).trans b7)));refine ⟨_,rfl,d,c,_,2,rfl,b6,⟨by decide,by decide⟩,λ g3 c1 e7 e8 c2 d7=>?_⟩
  have c3:=c0.trans d7;have bl:(1+b:Int).natAbs < lim:=X1 (show (1+b:Int).natAbs < 2 ^ 50 by omega) (by unfold lim;exact Cz (by decide))
  refine ⟨rfl,_,rfl,?_⟩;have e9:(2:Nat) ^ 12=4096:=by decide
  have J:∀t':Int,t'.natAbs < 2 ^ 12->∀j,c1 j=none->c7.rt (.ref j) (upd c1 j (.tup [.int (Fr.lt t' (1+b)),.int (Fr.lb t' (1+b))])):=λ t' ht j g=>
   q _ _ _ (c2.keep (Aj g _)) (c3.trans ((Aj g _).se d c)) (Fw (by omega)) ((Bd.of (by omega) ht (by omega)).mono (yp k))
  refine ite2 (λ _=>?_) (λ _=>?_)
  ·refine ⟨_,rfl,_,_,rfl,rfl,?_⟩;exact ⟨_,rfl,_,rfl,_,_,rfl,(by show (0:Int) < 1+b;omega),bl,λ j g=>J (0 - t) (by omega) j g⟩
  ·exact ⟨_,rfl,_,rfl,_,_,rfl,(by show (0:Int) < 1+b;omega),bl,λ j g=>J t (by omega) j g⟩
 refine ⟨_,(Ae (Aw (PW.pt (pw_and (Bj (pv 1)) (pw_and1 (Az Bp (Ah (Lf T) a.m Ag (Ac (pv 0) (BP Ab Aa))) Ab)))) (Ae (Ar (i:=2) JM.nd (Ak CJ (Ak Ea (Ah (Lf T) a.m Ag (Ac (pv 0) (BP Ab Aa))) Ab) (Ah (Lf T) a.m Ag (Ac (pv 0) (BP Ab Aa))))) (Ae (Ar (i:=3) JM.nd (Ak CJ (Ak Ea (Ah (Lf T) a.m Ag (Ac (pv 0) (BP Ab Aa))) Ab) (Ah (Lf T) a.m Ag (Ac (pv 0) (BP Ab Aa))))) (Af (Am (Ah (Ln T) a.m Ag (Bf (Ak CJ (Ak Ex (Ak DR (pv 2) (Ak Ex (Ak Ea Ab (Ak N6 Ab Ab)) Ab)) (Ak N6 Ab Ab)) Ab) (Bf (Ak CJ Ab (Ak DR (pv 3) (Ak Ex (Ak N6 Ab Ab) Ab))) Aa))))))) Ax) c9),?_⟩
 refine ⟨_,rfl,_,rfl,?_⟩;cases k with
 | false=>exact iteF (iteF (W _ _ _ H (hd.le (wm _)) (SE.refl _ _ _) q))
 | true=>
  refine iteT ?_;refine ⟨_,rfl,d,c,_,3,rfl,hd,⟨by decide,by decide⟩,λ a2 l a3 a4 e C=>?_⟩
  refine ⟨rfl,_,rfl,?_⟩;refine ite2 (λ _=>?_) (λ _=>W _ _ _ l e C q)
  refine ⟨_,rfl,d,c,_,33554432,rfl,e,⟨by decide,by decide⟩,λ c4 d0 f0 f1 u D=>?_⟩
  refine ⟨_,_,rfl,rfl,.inr ⟨by decide,by decide⟩,_,rfl,d,c,_,33554432,rfl,u,⟨by decide,by decide⟩,λ c5 d2 f2 f3 x L=>?_⟩
  refine ⟨_,_,rfl,rfl,?_⟩;refine ⟨_,rfl,d,c,_,33554432,rfl,x,⟨by decide,by decide⟩,λ F d3 f4 f5 y M=>?_⟩
  refine ⟨_,_,rfl,rfl,.inr ⟨by decide,by decide⟩,_,rfl,d,c,_,33554432,rfl,y,⟨by decide,by decide⟩,λ G d4 f6 f7 h N=>?_⟩
  refine ⟨_,_,rfl,rfl,?_⟩;have c6:=C.trans (D.trans (L.trans (M.trans N)));refine ⟨_,rfl,_,_,rfl,rfl,o,_,_,rfl,rfl,.inl ⟨by decide,by decide⟩,_,_,rfl,rfl,_,_,rfl,rfl,(by show (0:Int) < 2 * 10 ^ (15:Int).toNat - 1;decide),_,_,rfl,rfl,o,_,_,rfl,rfl,_,_,rfl,rfl,?_⟩
  refine ⟨_,rfl,_,_,rfl,rfl,o,_,_,rfl,rfl,_,_,rfl,rfl,(by show (0:Int) < 10 ^ (15:Int).toNat - 1;decide),_,_,rfl,rfl,?_⟩
  have d8:=UF (c4 * 33554432+c5) (show (2 * 10 ^ (15:Int).toNat - 1:Int)≠0 by decide)
  have e1:=WZ (c4 * 33554432+c5) (show (0:Int) < 2 * 10 ^ (15:Int).toNat - 1 by decide)
  have d9:=UF (F * 33554432+G) (show (10 ^ (15:Int).toNat - 1:Int)≠0 by decide)
  have e0:=WZ (F * 33554432+G) (show (0:Int) < 10 ^ (15:Int).toNat - 1 by decide)
  rw [U] at d8 e1 d9 e0 ⊢;refine ⟨_,_,rfl,(by show (0:Int) < 1+(F * 33554432+G) % (1000000000000000 - 1);omega),X1 (show (1+(F * 33554432+G) % (1000000000000000 - 1):Int).natAbs < 2 ^ 50 by omega) (by unfold lim;exact Cz (by decide)),λ p n=>?_⟩
  exact q _ _ _ ((h.le (by omega)).keep (Aj n _)) (c6.trans ((Aj n _).se d c)) (Fw (by omega)) (show Bd 50 _ from Bd.of (by omega) (by omega) (by omega))
theorem qb (T:Txt K mg ad):CalB P w K mg base true 3 "_law_piece" ["_law_drawn_here","_law_far"] (lW K):=by
 refine T.R5.calN JX (λ _ _ _ _ _ _=>Ba λ _ _=>rfl) (λ vs H Q E F=>?_) (λ f L A outer s H vs Q E v F=>?_)
 ·obtain ⟨_,_,_,_,rfl,_⟩:=F;rfl
 obtain ⟨d,c,Z,h,rfl,hd,q⟩:=F;refine ⟨_,(Ae (Ar (i:=2) JX.nd (Ah (Lf T) v.m Ag (Ac (pv 0) (BP Ab Aa)))) (Ae (Ar (i:=3) JX.nd (Ah (iG T) v.m Ag (Ac (pv 0) (Ac (pv 1) Aa)))) (Ae (Aw (Az Fi (pv 2) Ab) (Af (Am (Bk (BP BJ (Ac (pv 3) Aa))))) Ax) (Ae (Aw (Az Fi (pv 2) Ab) (Af (Am (Bk (BP BJ (Ac (pv 3) Aa))))) Ax) (Ae (Ar (i:=4) JX.nd (Ah (iG T) v.m Ag (Ac (pv 0) (Ac (pv 1) Aa)))) (Ae (Aw (Bj (Ah (jg T) v.m Ag (Ac (pv 4) (Ac (pv 3) Aa)))) (Af (ZK (i:=3) (j:=4) rfl JX.nd rfl rfl (by decide) rfl rfl (Ac (pv 4) (Ac (pv 3) Aa)) rfl)) Ax) (Af (Am (Bk (BP BJ (Ac (pv 3) (Ac (pv 4) Aa)))))))))))),?_⟩
 refine ⟨_,rfl,d,c,_,5,rfl,hd,⟨by decide,by decide⟩,λ O R M N z G=>?_⟩
 refine ⟨_,rfl,_,rfl,d,c,_,h,rfl,z,λ S U e k I o b2=>?_⟩
 have r:=G.trans I;refine ⟨_,rfl,_,_,rfl,rfl,_,rfl,?_⟩;refine ite2 (λ _=>?_) (λ _=>?_)
 ·refine ⟨_,rfl,(by show 2<=Y7;decide),λ p a=>?_⟩
  exact q _ _ (.gap e) ((k.le (by omega)).keep (Aj a _)) (r.trans ((Aj a _).se d c)) (DV.upd2 a (.str _) o) trivial b2
 refine ⟨_,rfl,_,_,rfl,rfl,_,rfl,?_⟩;refine ite2 (λ _=>?_) (λ _=>?_)
 ·refine ⟨_,rfl,(by show 2<=Y7;decide),λ p a=>?_⟩
  exact q _ _ (.glass e) ((k.le (by omega)).keep (Aj a _)) (r.trans ((Aj a _).se d c)) (DV.upd2 a (.str _) o) trivial b2
 refine ⟨_,rfl,_,rfl,d,c,_,h,rfl,k,λ V W t B C u b3=>?_⟩
 have D:=r.trans C;have g:=k.dv C o;refine ⟨_,rfl,_,rfl,_,_,.cons u (.cons g .nil),⟨_,_,rfl,b3.sm (Yg h),b2.sm (Yg h),rfl⟩,λ b X l J=>?_⟩
 obtain rfl:=J.bl_of;refine ⟨_,rfl,?_⟩;have x:=B.keep l;have y:=D.trans (l.se d c);refine ite2 (λ n=>?_) (λ n=>?_)
 ·have n:t < e:=of_decide_eq_true n;refine ⟨_,rfl,_,rfl,_,_,rfl,?_⟩;refine ⟨_,rfl,_,rfl,(by show 3<=Y7;decide),λ p a=>?_⟩
  exact q _ _ (.stop t e) (x.keep (Aj a _)) (y.trans ((Aj a _).se d c)) (DV.upd3 a (.str _) (u.keep l) (g.keep l)) (show ¬ e < t by grind) ⟨b3,b2⟩
 ·have n:¬ t < e:=λ Y=>n (decide_eq_true Y)
  refine ⟨_,rfl,_,rfl,(by show 3<=Y7;decide),λ p a=>?_⟩
  exact q _ _ (.stop e t) (x.keep (Aj a _)) (y.trans ((Aj a _).se d c)) (DV.upd3 a (.str _) (g.keep l) (u.keep l)) n ⟨b2,b3⟩
theorem M5 (T:Txt K mg ad):CalB P w K mg base true 3 "_law_plus" ["_law_one","_law_other"] (PR K (IV λ p q=>p+q)):=by
 refine T.Uk.calN uQ (λ _ _ _ _ _ _=>Ba λ _ _=>rfl) (λ vs H Q E j=>?_) (λ f u A outer s H vs Q E g j=>?_)
 ·obtain ⟨_,_,dv,⟨_,_,rfl,_⟩,_⟩:=j;exact dv.len
 obtain ⟨_,_,dv,⟨p,q,rfl,sp,d,rfl⟩,k⟩:=j;obtain ⟨_,_,rfl,l,o⟩:=dv.two;obtain ⟨a,rfl,h⟩:=l.fr;obtain ⟨b,rfl,i⟩:=o.fr;refine ⟨_,(Af (Am (Ah (Ln T) g.m Ag (Bf (Ak CJ (Ak Cq (Ad ix_tup (pv 0) Ab) (Ad ix_tup (pv 1) Ab)) (Ak Cq (Ad ix_tup (pv 1) Ab) (Ad ix_tup (pv 0) Ab))) (Bf (Ak Cq (Ad ix_tup (pv 0) Ab) (Ad ix_tup (pv 1) Ab)) Aa))))),?_⟩
 refine ⟨_,rfl,a,_,_,_,rfl,rfl,h,rfl,_,rfl,b,_,_,_,rfl,rfl,i,rfl,_,_,rfl,rfl,Cv sp.n d.dn,?_⟩;refine ⟨_,rfl,b,_,_,_,rfl,rfl,i,rfl,_,rfl,a,_,_,_,rfl,rfl,h,rfl,_,_,rfl,rfl,Cv d.n sp.dn,_,_,rfl,rfl,?_⟩;refine ⟨_,rfl,a,_,_,_,rfl,rfl,h,rfl,_,rfl,b,_,_,_,rfl,rfl,i,rfl,_,_,rfl,rfl,Cv sp.dn d.dn,?_⟩;refine ⟨_,_,rfl,Int.mul_pos (Il p) (Il q),Gz sp.dn d.dn,λ r g=>k _ _ (Aj g _) ?_⟩
 have e:=Fw (K:=K) (H:=H) (t:=p.num * (q.den:Int)+q.num * (p.den:Int)) (b:=(p.den:Int) * (q.den:Int)) (p:=r) (Gj p q);rw [Fr.Xe] at e;exact e
theorem gD (T:Txt K mg ad):CalB P w K mg base true 3 "_law_times" ["_law_one","_law_other"] (PR K (IV λ p q=>p * q)):=by
 refine T.TV.calN jJ (λ _ _ _ _ _ _=>Ba λ _ _=>rfl) (λ vs H Q E j=>?_) (λ f u A outer s H vs Q E d j=>?_)
 ·obtain ⟨_,_,dv,⟨_,_,rfl,_⟩,_⟩:=j;exact dv.len
 obtain ⟨_,_,dv,⟨p,q,rfl,sp,g,rfl⟩,k⟩:=j;obtain ⟨_,_,rfl,l,o⟩:=dv.two;obtain ⟨a,rfl,h⟩:=l.fr;obtain ⟨b,rfl,i⟩:=o.fr;refine ⟨_,(Af (Am (Ah (Ln T) d.m Ag (Bf (Ak Cq (Ad ix_tup (pv 0) Ab) (Ad ix_tup (pv 1) Ab)) (Bf (Ak Cq (Ad ix_tup (pv 0) Ab) (Ad ix_tup (pv 1) Ab)) Aa))))),?_⟩
 refine ⟨_,rfl,a,_,_,_,rfl,rfl,h,rfl,_,rfl,b,_,_,_,rfl,rfl,i,rfl,_,_,rfl,rfl,Cv sp.n g.n,?_⟩;refine ⟨_,rfl,a,_,_,_,rfl,rfl,h,rfl,_,rfl,b,_,_,_,rfl,rfl,i,rfl,_,_,rfl,rfl,Cv sp.dn g.dn,?_⟩;refine ⟨_,_,rfl,Int.mul_pos (Il p) (Il q),Gz sp.dn g.dn,λ r d=>k _ _ (Aj d _) ?_⟩
 have e:=Fw (K:=K) (H:=H) (t:=p.num * q.num) (b:=(p.den:Int) * (q.den:Int)) (p:=r) (Gj p q);rw [Fr.Q6] at e;exact e
theorem Q8 (T:Txt K mg ad):CalB P w K mg base true 4 "_law_less" ["_law_one","_law_other"] (PR K (IV λ p q=>p - q)):=by
 refine T.R3.calN xu (λ _ _ _ _ _ _=>Ba λ _ _=>rfl) (λ vs H Q E i=>?_) (λ f u A outer s H vs Q E j i=>?_)
 ·obtain ⟨_,_,dv,⟨_,_,rfl,_⟩,_⟩:=i;exact dv.len
 obtain ⟨_,_,dv,⟨p,q,rfl,sp,l,rfl⟩,k⟩:=i;obtain ⟨_,_,rfl,n,o⟩:=dv.two;obtain ⟨b,rfl,a⟩:=o.fr;refine ⟨_,(Af (Am (Ah (M5 T) j.m Ag (Ac (pv 0) (Do (Bk (Bf (Ak Ex Ab (Ad ix_tup (pv 1) Ab)) (Ao (Ad ix_tup (pv 1) Ab) Aa))) Aa))))),?_⟩
 refine ⟨_,rfl,_,rfl,b,_,_,_,rfl,rfl,a,rfl,_,_,rfl,rfl,_,rfl,b,_,_,_,rfl,rfl,a,rfl,(by show 2<=Y7;decide),λ d g=>?_⟩
 have h:=Aj g (.tup [.int (0 - q.num),.int (q.den:Int)]);have dn:DV K (upd H d (.tup [.int (0 - q.num),.int (q.den:Int)])) (.ref d) (Ai (-q)):=by
  rw [lK];exact .tup (SqT.of Al) (.cons (.int _) (.cons (.int _) .nil))
 refine ⟨_,_,.cons (n.keep h) (.cons dn .nil),⟨_,_,rfl,sp,l.neg,rfl⟩,λ v r t hv=>k _ _ (h.trans t) ?_⟩
 have e:p+-q=p - q:=(Rat.sub_eq_add_neg p q).symm;show DV K r v (Ai (p - q));rw [<- e];exact hv
end
end K73
namespace K73
open PySem L2 Lib Fr Op Tx PySem.NumText
seal PE PT PW PA PS PSs PG PGs PI PO Bv PJ
section
variable {P:ZY}{w:World}{K:FrG}{mg:Y2->Option Value}{base:Heap}{ad:Adr}{c:Bool}
theorem ZS {d:Nat}(a:d < 10):(Y1 "0123456789").cps[d]?=some (48+d):=by
 have:∀d:Nat,d < 10->(Y1 "0123456789").cps[d]?=some (48+d):=by decide
 exact this d a
theorem qR {y:Y2}(a:y=Y1 ""):cl y=[]:=by subst a;rfl
theorem AJ6 (T:Txt K mg ad):CalB P w K mg base true 1 "_law_written" ["_law_number"] wu:=by
 refine T.Up.calN Jq (λ _ _ _ _ _ _=>Bl λ _=>rfl) (λ vs H Q E d=>?_) (λ f M A outer s H vs Q E N d=>?_)
 ·obtain ⟨_,rfl,_⟩:=d;rfl
 obtain ⟨n,rfl,I,q⟩:=d;refine ⟨_,(Ae (Ar (i:=1) Jq.nd BJ) (Ae (Ar (i:=2) Jq.nd (Be Iw rfl T.abs Iz (Ac (pv 0) Aa))) (Ae (Jj Xs (PW.pt (pw_or (Az HY (pv 2) Ab) (pw_or1 (Az Bp (pv 1) BJ)))) (Ae (Ar (i:=1) Jq.nd (Ak CN (gA BJ (Ak DR (pv 2) Ab) (λ _ _=>rfl)) (pv 1))) (Af (Ar (i:=2) Jq.nd (Ak Gm (pv 2) Ab))))) (Af (Am (Ak CN (Ak ZM BJ (Fp iD rfl T.int Gs (eU (Dq Fi (pv 0) Ab) Aa))) (pv 1))))))),?_⟩
 have dl:=(Ei (m:=n.natAbs) (k:=575) (by decide)).mpr I
 refine ⟨_,rfl,_,rfl,?_⟩;refine ⟨λ k J o=>∃(m:Nat) (y:Y2),J=[some (.int n),some (.str y),some (.int (m:Int))]/\o=H/\((cl y=[]/\y=Y1 ""/\m=n.natAbs/\k=m+1)\/(cl y≠[]/\dz m++cl y=dg n.natAbs/\k=m)),⟨n.natAbs+1,n.natAbs,Y1 "",by rw [Fr.Oj];rfl,rfl,.inl ⟨rfl,rfl,rfl,rfl⟩⟩,?_⟩
 rintro k _ o ⟨m,y,rfl,rfl,p⟩
 have x:(m:Int) % 10=((m % 10:Nat):Int):=(Fh m 10).symm;have z:(m:Int) / 10=((m / 10:Nat):Int):=(Int.natCast_ediv m 10).symm;have h:m % 10 < 10:=Mo _ (by decide)
 have O:y.length<=575:=by
  rw [<- Dc];rcases p with ⟨e,_⟩ | ⟨_,e,_⟩
  ·rw [e];decide
  ·have:=congrArg Jh e;rw [X9] at this;omega
 have step:(0 < m\/cl y=[])->m / 10 < k/\cl (UB #[48+m % 10]++y)≠[]/\dz (m / 10)++cl (UB #[48+m % 10]++y)=dg n.natAbs:=λ b=>by
  have e1:cl (UB #[48+m % 10]++y)=[48+m % 10]++cl y:=BV _ _;rw [e1];refine ⟨?_,by simp,?_⟩
  ·rcases p with ⟨_,_,_,e⟩ | ⟨g,_,e⟩
   ·omega
   ·rcases b with d | d
    ·omega
    ·exact absurd d g
  ·rcases p with ⟨g,_,e2,e⟩ | ⟨g,e2,e⟩
   ·rw [g,<- e2];by_cases G:m=0
    ·subst G;rfl
    ·rw [WJ,<- Zh (by omega),zE (by omega)]
   ·rcases b with d | d
    ·rw [<- e2,Zh d,YA]
    ·exact absurd d g
 have r:¬ (0 < m\/cl y=[])->cl (GE (Y1 "-") (if decide (n < 0)=true then 1 else 0)++y)=(if n < 0 then [45] else [])++dg n.natAbs:=λ b=>by
  have L:m=0:=by
   by_cases G:m=0
   ·exact G
   ·exact absurd (.inl (by omega)) b
  have B:cl y=dg n.natAbs:=by
   rcases p with ⟨g,_⟩ | ⟨_,e2,_⟩
   ·exact absurd (.inr g) b
   ·rw [L] at e2;exact e2
  rw [BV,B];by_cases a:n < 0
  ·rw [if_pos (decide_eq_true a),if_pos a];rfl
  ·rw [if_neg (by simpa using a),if_neg a];rfl
 have C:MulOk (Y1 "-") (if decide (n < 0)=true then 1 else 0):=by
  by_cases a:n < 0
  ·rw [if_pos (decide_eq_true a)];exact ⟨by decide,λ _ d=>absurd d (by decide),λ _ d=>absurd d (by decide)⟩
  ·rw [if_neg (by simpa using a)];exact ⟨by decide,λ d=>absurd (by decide) d,λ d=>absurd (by decide) d⟩
 have R:(GE (Y1 "-") (if decide (n < 0)=true then 1 else 0)).length<=1:=by
  by_cases a:n < 0
  ·rw [if_pos (decide_eq_true a)];decide
  ·rw [if_neg (by simpa using a)];decide
 refine ⟨_,rfl,_,_,rfl,rfl,_,rfl,?_⟩;refine ite2 (λ c=>?_) (λ c=>?_)
 ·have b:0 < m:=by
   have:(0:Int) < (m:Int):=of_decide_eq_true c;omega
  obtain ⟨t,u,v⟩:=step (.inl b);refine ⟨λ j l=>j=[some (.int n),some (.str (UB #[48+m % 10]++y)),some (.int ((m / 10:Nat):Int))]/\l=o,?_,?_⟩
  ·rintro _ _ ⟨rfl,rfl⟩
   exact ⟨m / 10,t,m / 10,_,rfl,rfl,.inr ⟨u,v,rfl⟩⟩
  ·refine ⟨_,rfl,_,_,rfl,rfl,(by show (0:Int) < 10;decide),_,_,48+m % 10,rfl,rfl,(by show (0:Int)<=(m:Int) % 10;omega),(by show (m:Int) % 10 < 2 ^ 63;omega),(by show (m:Int) % 10 < 10;omega),?_,?_⟩
   ·show (Y1 "0123456789").cps[((m:Int) % 10).toNat]?=_;rw [x,yT];exact ZS h
   ·refine ⟨_,rfl,_,_,rfl,rfl,Br (by show 1+y.length<=10000;omega),?_⟩
    refine ⟨_,rfl,_,_,rfl,rfl,⟨by decide,by decide⟩,?_⟩
    refine ⟨?_,rfl⟩;show [some (V.int n),some (V.str (UB #[48+m % 10]++y)),some (V.int ((m:Int) / 10))]=_;rw [z]
 ·have b:¬ 0 < m:=λ G=>c (decide_eq_true (by omega))
  refine ⟨_,rfl,rfl,_,rfl,?_⟩;refine ite2 (λ c=>?_) (λ c=>?_)
  ·rw [By] at c;have b:=qR (of_decide_eq_true c);obtain ⟨t,u,v⟩:=step (.inr b);refine ⟨λ j l=>j=[some (.int n),some (.str (UB #[48+m % 10]++y)),some (.int ((m / 10:Nat):Int))]/\l=o,?_,?_⟩
   ·rintro _ _ ⟨rfl,rfl⟩
    exact ⟨m / 10,t,m / 10,_,rfl,rfl,.inr ⟨u,v,rfl⟩⟩
   ·refine ⟨_,rfl,_,_,rfl,rfl,(by show (0:Int) < 10;decide),_,_,48+m % 10,rfl,rfl,(by show (0:Int)<=(m:Int) % 10;omega),(by show (m:Int) % 10 < 2 ^ 63;omega),(by show (m:Int) % 10 < 10;omega),?_,?_⟩
    ·show (Y1 "0123456789").cps[((m:Int) % 10).toNat]?=_;rw [x,yT];exact ZS h
    ·refine ⟨_,rfl,_,_,rfl,rfl,Br (by show 1+y.length<=10000;omega),?_⟩
     refine ⟨_,rfl,_,_,rfl,rfl,⟨by decide,by decide⟩,?_⟩
     refine ⟨?_,rfl⟩;show [some (V.int n),some (V.str (UB #[48+m % 10]++y)),some (V.int ((m:Int) / 10))]=_;rw [z]
  ·have D:¬ cl y=[]:=λ e=>c (by rw [By];exact decide_eq_true (ext (e.trans (show []=cl (Y1 "") from rfl))))
   have F:¬ (0 < m\/cl y=[]):=λ d=>d.elim b D
   exact ⟨_,rfl,_,_,rfl,rfl,.inr ⟨_,rfl,_,_,rfl,rfl,C,_,rfl,_,_,rfl,rfl,Br (by omega),q _ (r F)⟩⟩
theorem Rc (T:Txt K mg ad):CalB P w K mg base true 2 "_law_shown" ["_law_part_here"] (Qm K):=by
 refine T.Wu.calN nM (λ _ _ _ _ _ _=>Bl λ _=>rfl) (λ vs H Q E d=>?_) (λ f r A outer s H vs Q E h d=>?_)
 ·obtain ⟨_,_,rfl,_⟩:=d;rfl
 obtain ⟨v,p,rfl,hv,sp,q⟩:=d;obtain ⟨a,t,u,rfl,d,e1,e2⟩:=DV.t2 (show DV K H v (.tuple [.int p.num,.int (p.den:Int)]) from hv)
 obtain rfl:=DV.int_of e1;obtain rfl:=DV.int_of e2;refine ⟨_,(Ae (Aw (Az Bp (Ad ix_tup (pv 0) Ab) Ab) (Af (Am (Ah (AJ6 T) h.m Ag (Ao (Ad ix_tup (pv 0) Ab) Aa)))) Ax) (Af (Am (Ak CN (Ak CN (Ah (AJ6 T) h.m Ag (Ao (Ad ix_tup (pv 0) Ab) Aa)) BJ) (Ah (AJ6 T) h.m Ag (Ao (Ad ix_tup (pv 0) Ab) Aa)))))),?_⟩
 refine ⟨_,rfl,a,_,_,_,rfl,rfl,d,rfl,rfl,_,rfl,?_⟩;have z:=(Ei (m:=p.num.natAbs) (k:=575) (by decide)).mpr (X1 sp.1 Fd)
 have B:=(Ei (m:=p.den) (k:=575) (by decide)).mpr (X1 sp.2 Fd)
 have e1:∀x:Y2,cl x=sh p->x=Aq p:=λ x l=>ext (l.trans (Ha p).symm)
 refine ite2 (λ c1=>?_) (λ c1=>?_)
 ·have i:p.den=1:=by
   have g:decide (V.int (p.den:Int)=V.int 1)=true:=c1;rw [EY] at g;have:=of_decide_eq_true g;omega
  refine ⟨_,rfl,a,_,_,_,rfl,rfl,d,rfl,_,rfl,X1 sp.1 Fd,λ g b=>?_⟩
  rw [e1 g (by rw [b];unfold sh;rw [if_pos i,WJ])]
  exact q
 ·have i:¬ p.den=1:=by
   intro e
   apply c1
   show decide (V.int (p.den:Int)=V.int 1)=true;rw [EY,e];rfl
  refine ⟨_,rfl,a,_,_,_,rfl,rfl,d,rfl,_,rfl,X1 sp.1 Fd,λ g b=>?_⟩
  have n:=Dc g;rw [b,X9] at n;have zl2:(if p.num < 0 then [45] else []:List Nat).length<=1:=by split<;>decide
  have zs:(Y1 "/").length=1:=rfl;refine ⟨_,_,rfl,rfl,Br (by omega),?_⟩
  refine ⟨_,rfl,a,_,_,_,rfl,rfl,d,rfl,_,rfl,by rw [XW];exact X1 sp.2 Fd,λ y j=>?_⟩
  rw [if_neg (by omega),JO,XW] at j
  have o:=Dc y;rw [j] at o;refine ⟨_,_,rfl,rfl,Br (by rw [Ck];omega),?_⟩
  show Q (.str (g++Y1 "/"++y)) H;rw [e1 (g++Y1 "/"++y) (by
   rw [BV,BV,b,j];unfold sh;rw [if_neg i];show _++[47]++_=_;simp)]
  exact q
theorem oE (T:Txt K mg ad):CalB P w K mg base true 3 "_law_piece_text" ["_law_piece_here"] (bR K):=by
 refine T.V9.calN xm (λ _ _ _ _ _ _=>Bl λ _=>rfl) (λ vs H Q E L=>?_) (λ f b0 A outer s H vs Q E a1 L=>?_)
 ·obtain ⟨_,_,rfl,_⟩:=L;rfl
 obtain ⟨v,p,rfl,hv,ps,q⟩:=L;refine ⟨_,(Af (Am (CT ZU US UU Ie BJ (Bf (Ak G5 (Bu (Ao (Ad ix_tup (pv 0) Ab) Aa)) (Ej ["_law_part_here"] [none] rfl (JV (DP Q5 (pv 0) (CZ Ab) Dh)) (λ _ _ _ _ _=>(Bc (i:=0) (show Uz [("_law_part_here":Str)] by decide))) (λ _ _ _ _ _=>Eb) (λ _ _ _ _ _=>(Ah (Rc T) a1.m Ag (Ac (pv 0) Aa))) (Ds (by decide) (by decide)) (by decide) rfl (by decide) rfl (Dt rfl))) Aa)))),?_⟩
 obtain ⟨t,b,rfl,ht,u⟩:∃(t:Addr) (b:List V),v=.ref t/\SqT K H t (.str (wd p)::b)/\DVs K H b ((fracs p).map Ai):=by
  cases p with
  | gap y=>
   obtain ⟨t,M,N,rfl,ht,h,j⟩:=DV.t2 (show DV K H v (.tuple [.str "gap",Ai y]) from hv)
   obtain rfl:=DV.str_of h;exact ⟨t,_,rfl,ht,.cons j .nil⟩
  | glass y=>
   obtain ⟨t,M,N,rfl,ht,h,j⟩:=DV.t2 (show DV K H v (.tuple [.str "glass",Ai y]) from hv)
   obtain rfl:=DV.str_of h;exact ⟨t,_,rfl,ht,.cons j .nil⟩
  | stop y L=>
   obtain ⟨t,M,N,b1,rfl,ht,h,j,a2⟩:=DV.t3 (show DV K H v (.tuple [.str "stop",Ai y,Ai L]) from hv)
   obtain rfl:=DV.str_of h;exact ⟨t,_,rfl,ht,.cons j (.cons a2 .nil)⟩
 have hl:b.length=(fracs p).length:=by have:=u.len;rw [Y3] at this;exact this
 have b2:1<=(fracs p).length/\(fracs p).length<=2:=by cases p<;>exact ⟨by simp [fracs],by simp [fracs]⟩
 refine ⟨rfl,_,rfl,t,_,_,_,rfl,rfl,ht,Ek,(by show 1<=Y7;decide),λ l O=>?_⟩
 have C:=Aj O (.lst [.str (wd p)]);have R:upd H l (.lst [.str (wd p)]) l=some (.lst [.str (wd p)]):=Al;generalize upd H l (.lst [.str (wd p)])=S at C R ⊢;refine ⟨_,rfl,_,rfl,t,_,rfl,ht.keep C,(λ e=>by rw [PL] at e;simp only [X4] at e;omega),λ k U=>⟨k,rfl,⟨_,SqT.of Al⟩,?_⟩⟩
 rw [RN];have D:=Aj U (.tup ((V.str (wd p)::b).drop 1));have W:upd S k (.tup ((V.str (wd p)::b).drop 1)) k=some (.tup b):=Al;have z:=D _ _ R;have G:=C.trans D;generalize upd S k (.tup ((V.str (wd p)::b).drop 1))=a3 at D W z G ⊢;refine JR (K:=K) (a:=k) (xs:=b) (λ i n o g=>∃c0,n=[c0]/\o=(((fracs p).take i).map Aq).map V.str/\g=a3) ⟨_,rfl,rfl,rfl⟩ ?_ ?_ ?_
 ·rintro i n o g I ⟨c0,rfl,rfl,rfl⟩
  refine ⟨?_,SqT.of W⟩;rw [Y3,Y3,XE];exact XP (small1000 (by omega))
 ·rintro i x n o g I ⟨c0,rfl,rfl,rfl⟩
  obtain ⟨d,hd,a4⟩:=u.get I;rw [Ya] at hd;cases e:(fracs p)[i]? with
  | none=>rw [e] at hd;cases hd
  | some y=>
   rw [e] at hd;cases hd
   refine ⟨_,rfl,x,y,rfl,a4.keep G,ps.2 y (ZN e),nx (CK I) ⟨_,rfl,?_,rfl⟩⟩;rw [XV,e,ZH,ZH];rfl
 ·rintro n o g r ⟨c0,rfl,rfl,rfl⟩ X
  rw [hl,WA];have J:=Aj X (.lst (((fracs p).map Aq).map V.str));have Y:upd g r (.lst (((fracs p).map Aq).map V.str)) r=some (.lst (((fracs p).map Aq).map V.str)):=Al;have B:=J _ _ z;have Z:=G.trans J;generalize upd g r (.lst (((fracs p).map Aq).map V.str))=b3 at J Y B Z ⊢;refine ⟨l,r,_,_,rfl,rfl,B,Y,XP (small1000 (by rw [Y3,Y3];simp only [X4,YR];omega)),λ a5 a0=>?_⟩
  have a6:([.str (wd p)]++((fracs p).map Aq).map V.str:List V)=(toks p).map V.str:=rfl;have a7:JoinOk (Y1 " ") (toks p)=true:=by
   refine UD ?_ (by decide+kernel)
   have a8:∀t∈toks p,t.length<=1200:=Lib.O3 p ps;have a9:=HX p;have b4:((toks p).map (·.length)).sum<=(toks p).length * 1200:=M8 a8
   have b5:(toks p).length * 1200<=3 * 1200:=Yh _ a9.1;omega
  exact ⟨_,a5,toks p,rfl,rfl,by rw [Al,a6],a7,q _ (Z.trans (Aj a0 _))⟩
theorem uh (T:Txt K mg ad):CalB P w K mg base true 4 "_law_text" ["_law_bench"] (Z0 K):=by
 refine T.RQ.calN wK (λ _ _ _ _ _ _=>Bl λ _=>rfl) (λ vs H Q E B=>?_) (λ f M A outer s H vs Q E C B=>?_)
 ·obtain ⟨_,_,rfl,_⟩:=B;rfl
 obtain ⟨v,ps,rfl,hv,r,sh,q⟩:=B;refine ⟨_,(Af (Am (CT ZU US UU Ie BJ (Cm (Ej ["_law_piece_here"] [none] rfl (DY (pv 0)) (λ _ _ _ _ _=>(Bc (i:=0) (show Uz [("_law_piece_here":Str)] by decide))) (λ _ _ _ _ _=>Eb) (λ _ _ _ _ _=>(Ah (oE T) C.m Ag (Ac (pv 0) Aa))) (Ds (by decide) (by decide)) (by decide) rfl (by decide) rfl (Dt rfl)) Aa)))),?_⟩
 have u:=Same.refl H;obtain ⟨b,xs,rfl,y,k⟩:=hv.lst_of;have hl:xs.length=ps.length:=by have:=k.len;rw [Y3] at this;exact this
 refine ⟨rfl,_,rfl,b,rfl,⟨_,y.keep u⟩,?_⟩;refine HQ (K:=K) (a:=b) (xs:=xs) (λ i g h j=>∃c0,g=[c0]/\h=((ps.take i).map CW).map V.str/\Same H j) ⟨_,rfl,rfl,u⟩ ?_ ?_ ?_
 ·rintro i g h j n ⟨c0,rfl,rfl,e⟩
  refine ⟨?_,y.keep e⟩;rw [Y3,Y3,XE];exact XP (small1000 (by omega))
 ·rintro i x g h j n ⟨c0,rfl,rfl,e⟩
  obtain ⟨d,hd,D⟩:=k.get n;obtain ⟨z,l,rfl⟩:=HB hd;refine ⟨_,rfl,x,z,rfl,D.keep e,sh z (ZN l),λ N G=>nx (CK n) ⟨_,rfl,?_,e.trans G⟩⟩
  rw [XV,l,ZH,ZH];rfl
 ·rintro g h j p ⟨c0,rfl,rfl,e⟩ o
  rw [hl,WA];have I:JoinOk (Y1 "; ") (ps.map CW)=true:=by
   refine UD ?_ (by decide+kernel)
   have J:∀t∈ps.map CW,t.length<=4000:=λ t ht=>by
    obtain ⟨p,o,rfl⟩:=WO.mp ht;exact YM (sh p o)
   have L:=M8 J;rw [Y3] at L ⊢;have O:ps.length * 4000<=60 * 4000:=Yh _ r;omega
  exact ⟨_,p,ps.map CW,rfl,rfl,Al,I,q _ (e.trans (Aj o _))⟩
theorem ph (T:Txt K mg ad):CalB P w K mg base true 1 "is_name" ["thing"] (vO K):=by
 refine T.XQ.calN ik (λ _ _ _ _ _ _=>Bl λ _=>rfl) (λ vs H Q E j=>?_) (λ f l A outer s H vs Q E m j=>?_)
 ·obtain ⟨_,_,rfl,_⟩:=j;rfl
 obtain ⟨v,d,rfl,hv,ok,q⟩:=j;refine ⟨_,(Ae (Aw (PW.pt (pw_or (Bt (Bj (Be Ed rfl T.isinstance Dy (Ac (pv 0) (Ac (Ec (v:=.ty "str") rfl T.str Ep rfl) Aa))))) (pw_or1 (Bt (bK O1 O1 Ab (Be aR rfl T.len Ce (Ac (pv 0) Aa)) (BZ (v:=.int 8) rfl T.ex.m_MOST_LETTERS ⟨_,rfl⟩)))))) (Af (Am CQ)) Ax) (Af (Am (Be (Mw rfl) rfl T.all PN (Cm (ak rfl (pv 0) T.ex.m_LETTERS (by decide) (by decide) rfl (by decide) rfl rfl rfl rfl) Aa))))),?_⟩
 refine ⟨_,rfl,_,_,_,_,rfl,hv,Gp d,_,rfl,?_⟩;cases ht:Mx d with
 | false=>
  have a:=q _ (Same.refl _);rw [ir ht] at a;exact iteT (iteT a)
 | true=>
  obtain ⟨b,rfl⟩:=rK ht;obtain rfl:=DV.str_of hv;have g:=ok b rfl;refine iteF ⟨_,rfl,b,rfl,g,_,_,rfl,rfl,_,rfl,?_⟩;by_cases h:1<=b.length
  ·refine Bg (decide_eq_true (by omega)) ⟨_,_,rfl,rfl,_,rfl,?_⟩
   by_cases i:b.length<=8
   ·refine BR (by rw [decide_eq_true (by omega)];rfl) ?_
    refine ⟨_,rfl,b,rfl,g,λ p k=>?_⟩
    refine ⟨p,(QI b).map JZ,rfl,SqL.of (by rw [xr];exact Al),?_⟩
    have a:=q _ (Aj k (.lst ((QI b).map λ x=>V.bl (JZ x))))
    have e:Iv (.str b)=((QI b).map JZ).all id:=by
     show ((decide (1<=b.length) && decide (b.length<=8)) && _)=_;rw [decide_eq_true h,decide_eq_true i,MG];rfl
    rw [<- e];exact a
   ·have a:=q _ (Same.refl _);have e:Iv (.str b)=false:=by
     show ((decide (1<=b.length) && decide (b.length<=8)) && _)=_;rw [decide_eq_false i,Bool.and_false,wo]
    rw [e] at a;exact Bg (by rw [decide_eq_false (by omega)];rfl) a
  ·have a:=q _ (Same.refl _);have e:Iv (.str b)=false:=by
    show ((decide (1<=b.length) && decide (b.length<=8)) && _)=_;rw [decide_eq_false h,wo,wo]
   rw [e] at a;exact BR (decide_eq_false (by omega)) ⟨_,rfl,iteT a⟩
theorem Vw (T:Txt K mg ad):CalB P w K mg base true 2 "look_at_name" ["word"] tH:=by
 refine T.QX.calN lO (λ _ _ _ _ _ _=>Bl λ _=>rfl) (λ vs H Q E a=>?_) (λ f g A outer s H vs Q E b a=>?_)
 ·obtain ⟨_,rfl,_⟩:=a;rfl
 obtain ⟨x,rfl,nx,k⟩:=a;refine ⟨_,(Af (Aw (Bt (Bj (Ah (ph T) b.m Ag (Ac (pv 0) Aa)))) (Af Cj) Ax)),?_⟩
 refine ⟨_,rfl,_,_,rfl,.str x,(λ i e=>by cases e;exact U1 nx.len (by decide)),λ h d=>?_⟩
 refine ⟨_,rfl,?_⟩;refine BR (by rw [show Iv (.str x)=true from nx];rfl) ?_
 exact k _ d
theorem eQ (T:Txt K mg ad):CalB P w K mg base true 4 "read_number_desk" ["word"] (Xc K):=by
 refine T.QJ.calN qX (λ _ _ _ _ _ _=>Bl λ _=>rfl) (λ vs H Q E a=>?_) (λ f e A outer s H vs Q E b a=>?_)
 ·obtain ⟨_,rfl,_⟩:=a;rfl
 obtain ⟨q,rfl,d,k⟩:=a;refine ⟨_,(Af (Yb (eZ T) b.m (Ac (pv 0) Aa))),?_⟩
 exact ⟨_,rfl,q,rfl,d,k⟩
abbrev dI (ad:Adr):List (Y2×V):=[("join",V.ref ad.ROWS_join),("turn",V.ref ad.ROWS_turn),("show",V.ref ad.ROWS_show),("walk",V.ref ad.ROWS_walk),("table",V.ref ad.ROWS_table),("apart",V.ref ad.ROWS_apart),("image",V.ref ad.ROWS_image),("field",V.ref ad.ROWS_field),("sharp",V.ref ad.ROWS_sharp),("rounds",V.ref ad.ROWS_rounds)]
abbrev vM (ad:Adr):List (Y2×V):=[("show",V.ref ad.ANSWERS_show),("walk",V.ref ad.ANSWERS_walk),("table",V.ref ad.ANSWERS_table),("apart",V.ref ad.ANSWERS_apart),("image",V.ref ad.ANSWERS_image),("field",V.ref ad.ANSWERS_field),("sharp",V.ref ad.ANSWERS_sharp),("rounds",V.ref ad.ANSWERS_rounds)]
def cF (K:FrG)(ad:Adr)(u:Y2)(m:Nat):Prop:=∃a,valV (DQ (dI ad)) (.inr u)=some (.ref a)/\∀H,SqT K H a [.int 1,.int (m:Int)]
theorem aK (T:Txt K mg ad)(b7:w.params=ad.pr){u0:Y2}{m:Nat}(b8:cF K ad u0 m)(d1:m<=5):CalB P w K mg base true 8 "read_row" ["words"] (λ vs H Q E=>∃(l:Addr) (x:Y2) (qs:List Rat),vs=[.ref l]/\H l=some (.lst ((u0::x::qs.map Aq).map V.str))/\Nm x/\(∀q∈qs,Short q)/\qs.length=m/\(u0=Y1 "sharp"->∃q,qs[4]?=some q/\0<=q)/\
  ∀r g u b,Same H b->b r=some (.tup [.ref g,.ref u])->b g=some (.lst [.str x])->DV K b (.ref u) (.list (qs.map Ai))->Q (.ref r) b):=by
 refine T.M3.calN Fo (λ _ _ _ _ _ _=>Bl λ _=>rfl) (λ vs H Q E b9=>?_) (λ f c9 A outer s H vs Q E Z b9=>?_)
 ·obtain ⟨_,_,_,rfl,_⟩:=b9;rfl
 obtain ⟨l,x,qs,rfl,hl,a5,a6,d2,a7,k⟩:=b9;obtain ⟨F,c1,C⟩:=b8;refine ⟨_,(Ae (Ar (i:=1) Fo.nd (Yp (BZ (v:=.ref ad.ROWS) rfl T.ex.m_ROWS rfl) (Ad ix_list (pv 0) Ab) ⟨rfl,rfl,rfl,rfl⟩)) (Ae (Aw (PW.pt (pw_or (Az Ig (pv 1) DX) (pw_or1 (Az Dk (Be Cp rfl T.len Ce (Ac (pv 0) Aa)) (Ak CJ (Ak CJ Ab (Ad ix_tup (pv 1) Ab)) (Ad ix_tup (pv 1) Ab)))))) (Af Cj) Ax) (Ae (Ar (i:=2) Fo.nd (DP Fg (pv 0) (CZ Ab) (CZ (Ak CJ Ab (Ad ix_tup (pv 1) Ab))))) (Ae (Dm Xs rfl (DY (pv 2)) (Bc (i:=3) Fo.nd) (Af (Cw (Ah (Vw T) Z.m Ag (Ac (pv 3) Aa))))) (Ae (T7 (i:=4) Fo.nd rfl (by walk_at "o") ["word"] [none] rfl (DY (DP Fg (pv 0) (CZ (Ak CJ Ab (Ad ix_tup (pv 1) Ab))) Dh)) (λ _ _ _ _ _=>(Bc (i:=0) (show Uz [("word":Str)] by decide))) (λ _ _ _ _ _=>Eb) (λ _ _ _ _ _=>(Ah (eQ T) Z.m Ag (Ac (pv 0) Aa))) (Ds (by decide) (by decide)) (by decide) rfl (by decide) rfl (Dt rfl)) (Ae (Aw (PW.pt (pw_and (Az Bp (Ad ix_list (pv 0) Ab) BJ) (pw_and1 (Bj (Ah (Mv T) Z.m Ag (Ao (Ad ix_list (pv 4) Ab) (Ac (BZ (v:=.ref ad.NOUGHT) rfl T.ex.m_NOUGHT rfl) Aa))))))) (Af Cj) Ax) (Af (Am (Bk (Ac (pv 2) (Ac (pv 4) Aa))))))))))),?_⟩
 refine ⟨ad.ROWS,_,rfl,T.ex.g_ROWS _ _ b7,_,rfl,l,_,_,.str u0,rfl,rfl,SqL.of hl,Bm (j:=0) rfl,.inr u0,rfl,?_⟩;rw [c1];refine ⟨_,rfl,rfl,_,rfl,BR (by rfl) ?_⟩
 have a0:((u0::x::qs.map Aq).map V.str).length=2+m:=by simp only [Y3,X4];omega
 refine ⟨_,rfl,l,_,rfl,.inl (SqL.of hl),_,rfl,F,_,_,.int 1,rfl,rfl,C H,rfl,_,_,rfl,rfl,_,rfl,F,_,_,.int (m:Int),rfl,rfl,C H,rfl,_,_,rfl,rfl,?_⟩;refine ⟨rfl,_,rfl,BR (by rw [EY,decide_eq_true (show (((u0::x::qs.map Aq).map V.str).length:Int)=1+1+(m:Int) by rw [a0];omega)];rfl) ?_⟩
 refine ⟨_,rfl,_,rfl,_,rfl,F,_,_,.int 1,rfl,rfl,C H,rfl,_,_,rfl,rfl,_,rfl,l,_,rfl,SqL.of hl,λ g a8=>?_⟩
 have c2:cutV ((u0::x::qs.map Aq).map V.str) (some 1) (some (1+1))=[.str x]:=by
  unfold cutV;rw [show HT.sIx ((u0::x::qs.map Aq).map V.str).length 0 (some 1)=min 1 ((u0::x::qs.map Aq).map V.str).length from HT.Ff _ _ 1,show HT.sIx ((u0::x::qs.map Aq).map V.str).length ((u0::x::qs.map Aq).map V.str).length (some (1+1))=min 2 ((u0::x::qs.map Aq).map V.str).length from HT.Ff _ _ 2,a0,jO (by omega),jO (by omega)]
  rfl
 have c3:cutV ((u0::x::qs.map Aq).map V.str) (some (1+1)) none=(qs.map Aq).map V.str:=by
  unfold cutV;rw [show HT.sIx ((u0::x::qs.map Aq).map V.str).length 0 (some (1+1))=min 2 ((u0::x::qs.map Aq).map V.str).length from HT.Ff _ _ 2,HT.Ni,a0,jO (by omega)]
  show ((qs.map Aq).map V.str).take _=_;exact UP (by rw [Y3,Y3];omega)
 rw [c2];have a1:=Aj a8 (.lst [.str x]);have o:upd H g (.lst [.str x]) g=some (.lst [.str x]):=Al;generalize upd H g (.lst [.str x])=c4 at a1 o ⊢;refine ⟨_,rfl,g,rfl,⟨_,SqL.of o⟩,?_⟩;refine Gr (K:=K) (a:=g) (xs:=[.str x]) (λ i t b=>∃G,t=[some (.ref l),some (.ref F),some (.ref g),G,none]/\Same c4 b) ⟨_,rfl,Same.refl _⟩ ?_ ?_ ?_
 ·rintro i t b h ⟨G,rfl,B⟩
  exact SqL.of (B _ _ o)
 ·rintro i y t b h ⟨G,rfl,B⟩
  obtain rfl:y=.str x:=by
   have:=ZN h;exact U0.mp this
  exact ⟨_,rfl,x,rfl,a5,λ a9 c5=>⟨_,rfl,B.trans c5⟩⟩
 ·rintro t b ⟨G,rfl,B⟩
  have W:b l=some (.lst ((u0::x::qs.map Aq).map V.str)):=B _ _ (a1 _ _ hl);refine ⟨_,rfl,_,rfl,F,_,_,.int 1,rfl,rfl,C b,rfl,_,_,rfl,rfl,_,rfl,l,_,rfl,SqL.of W,λ u a2=>?_⟩
  rw [c3];have b0:=Aj a2 (.lst ((qs.map Aq).map V.str));have I:upd b u (.lst ((qs.map Aq).map V.str)) u=some (.lst ((qs.map Aq).map V.str)):=Al;generalize upd b u (.lst ((qs.map Aq).map V.str))=a9 at b0 I ⊢;refine ⟨u,rfl,⟨_,SqL.of I⟩,?_⟩;refine HQ (K:=K) (a:=u) (xs:=(qs.map Aq).map V.str) (λ i t n z=>∃c0,t=[c0]/\Same a9 z/\DVs K z n ((qs.take i).map Ai)) ⟨_,rfl,Same.refl _,.nil⟩ ?_ ?_ ?_
  ·rintro i t n z h ⟨c0,rfl,J,dv⟩
   have:=dv.len;rw [Y3,XE] at this;rw [Y3,Y3] at h;exact ⟨XP (small1000 (by omega)),SqL.of (J _ _ I)⟩
  ·rintro i y t n z h ⟨c0,rfl,J,dv⟩
   have b1:=CK h;rw [Ya,Ya] at h;cases e:qs[i]? with
   | none=>rw [e] at h;cases h
   | some q=>
    rw [e] at h;cases h
    refine ⟨_,rfl,q,rfl,a6 q (ZN e),λ v L b2 hv=>nx b1 ⟨_,rfl,J.trans b2,?_⟩⟩
    rw [XV,e,ZH];exact DVs.append (dv.keep b2) (.cons hv .nil)
  ·rintro t n z p ⟨c0,rfl,J,dv⟩ c6
   rw [Y3,Y3,WA] at dv;have S:=Aj c6 (.lst n);have dl:DV K (upd z p (.lst n)) (.ref p) (.list (qs.map Ai)):=.lst (SqL.of Al) (dv.keep S);have b3:(upd z p (.lst n)) p=some (.lst n):=Al;have M:=dv.keep S;have D:=b0.trans (J.trans S);generalize upd z p (.lst n)=L at S dl b3 M D ⊢;have X:∀N,Same L N->tTup (tCons (tVar 2) (tCons (tVar 4) tNil)) [some (.ref l),some (.ref F),some (.ref g),G,some (.ref p)] N (λ v c7=>Q v c7):=λ N O=>by
    refine ⟨_,rfl,_,rfl,(by show 2<=Y7;decide),λ r b4=>?_⟩
    have a3:=Aj b4 (.tup [.ref g,.ref p]);exact k r g p _ (((a1.trans B).trans D).trans (O.trans a3)) Al (a3 _ _ (O _ _ (D _ _ (B _ _ o)))) (dl.keep (O.trans a3))
   refine ⟨_,rfl,l,_,_,.str u0,rfl,rfl,SqL.of (D _ _ W),Bm (j:=0) rfl,rfl,_,rfl,?_⟩;rw [By];by_cases a4:u0=Y1 "sharp"
   ·obtain ⟨q,b5,c8⟩:=a7 a4;refine Bg (decide_eq_true a4) ?_;have Y:(qs.map Ai)[4]?=some (Ai q):=by rw [Ya,b5];rfl
    obtain ⟨y,U,R⟩:∃y,n[4]?=some y/\DV K L y (Ai q):=by
     have d0:=M.len;have d3:=CK Y;obtain ⟨y,U⟩:∃y,n[4]?=some y:=⟨_,YO (by omega)⟩
     obtain ⟨d,hd,R⟩:=M.get U;rw [Y] at hd;cases hd
     exact ⟨y,U,R⟩
    refine ⟨_,rfl,p,_,_,y,rfl,rfl,SqL.of b3,Bm (j:=4) U,_,_,.cons R (.cons (dN T L) .nil),⟨q,0,rfl,(GJ (a6 q (ZN b5))).sm (by decide),Sm.zero,rfl⟩,λ d4 N O b6=>?_⟩
    obtain rfl:=b6.bl_of;rw [decide_eq_false (Rat.not_lt.mpr c8)];exact ⟨_,rfl,iteF (X N O)⟩
   ·exact BR (decide_eq_false a4) (iteF (X L (Same.refl _)))
theorem ig (T:Txt K mg ad):MkC P w K mg base 1 "Desk" ad.Desk ["self"] (iz ad.Desk):=by
 refine T.ex.i_Desk.mkc sW (λ _ _ _ _ _ _=>Bl λ _=>rfl) (λ vs H Q E e=>?_) (λ f h A outer s H vs Q E i e=>?_)
 ·obtain ⟨_,_,rfl,_⟩:=e;rfl
 obtain ⟨a,g,rfl,b,q⟩:=e;refine ⟨_,(Af (Hu (pv 0) xM)),?_⟩;exact λ d hd=>⟨_,rfl,a,ad.Desk,g,[],rfl,by rw [BK (Bq b hd)];exact b,T.ex.l_Desk,T.ex.n_Desk_benches,by decide,q d hd⟩
theorem Lr (T:Txt K mg ad):MC P w K mg base 1 ad.Desk "bench_by" ["self","name"] (yh K ad.Desk):=by
 refine T.ex.q_Desk_bench_by.mc ug (λ _ _ _ _ _ _=>Ba λ _ _=>rfl) (λ vs H Q E g=>?_) (λ f r A outer s H vs Q E b g=>?_)
 ·obtain ⟨_,_,_,_,_,_,_,_,rfl,_⟩:=g;rfl
 obtain ⟨o,e,d,q,x,v,n,ps,rfl,a,sx,k⟩:=g;refine ⟨_,(Ae (Aw (qU (lM b.units1 (pv 1) (Eh (pv 0)))) (Af Cj) Ax) (Af (Am (mD b.units1 (Eh (pv 0)) (pv 1) (λ _ _=>rfl))))),?_⟩
 obtain ⟨t,h,hl,i⟩:=a.d;obtain ⟨ok,l,j,m,p⟩:=i.at sx;have u:DGet H d (.str x) (some (.ref l)):=j▸DGet.k (k:=.inr x) h;refine ⟨_,rfl,_,rfl,o,_,e,_,_,rfl,a.o,T.ex.l_Desk,T.ex.n_Desk_benches,rfl,d,_,rfl,u,_,rfl,BR rfl ?_⟩;exact ⟨_,rfl,o,_,e,_,_,rfl,a.o,T.ex.l_Desk,T.ex.n_Desk_benches,rfl,_,rfl,d,_,rfl,u,k l m p⟩
theorem RJ (T:Txt K mg ad):MC P w K mg base 6 ad.Desk "keep" ["self","name","bench"] (vG K ad.Desk):=by
 refine T.ex.q_Desk_keep.mc yP (λ _ _ _ _ _ _=>Gb λ _ _ _=>rfl) (λ vs H Q E i=>?_) (λ f u A outer s H vs Q E e i=>?_)
 ·obtain ⟨_,_,_,_,_,_,_,_,_,rfl,_⟩:=i;rfl
 obtain ⟨o,j,d,q,l,x,C,n,ps,rfl,p,r,g,t,ok,k⟩:=i;refine ⟨_,(Ae (Cw (Ah (Lb T) e.m Ag (Ac (pv 2) Aa))) (Ae (qM e.units1 (Eh (pv 0)) (pv 1) (pv 2) rfl) (Af (Am (BZ (v:=.str "ok") rfl T.ex.m_DONE ⟨⟨_,T.ex.z_DONE⟩,rfl⟩))))),?_⟩
 refine ⟨_,rfl,.ref l,ps,50,rfl,g.dv,ok.good,by decide,λ z b=>?_⟩
 have a:=p.keep b;obtain ⟨y,h,hl,B⟩:=a.d;refine ⟨_,rfl,_,rfl,o,_,j,_,_,rfl,a.o,T.ex.l_Desk,T.ex.n_Desk_benches,rfl,_,rfl,d,_,rfl,DPut.k (k:=.inr x) h (wb (U1 hl r) (by decide)),?_⟩
 exact k _ ((Lib.SD.ofSame b).trans (Hg _)) (a.put h (g.keep b) t ok)
theorem AJ8 (T:Txt K mg ad):MC P w K mg base 10 ad.Desk "lay" ["self","row"] (YC K ad.Desk):=by
 refine T.ex.q_Desk_lay.mc bH (λ _ _ _ _ _ _=>Ba λ _ _=>rfl) (λ vs H Q E C=>?_) (λ f R A outer s H vs Q E r C=>?_)
 ·obtain ⟨_,_,_,_,_,_,_,_,rfl,_⟩:=C;rfl
 obtain ⟨o,t,d,q,x,S,n,ps,rfl,D,G,I,nx,ok,k⟩:=C;have U:=Pg (U1 ok.1 (by decide)) ok.sh
 refine ⟨_,(Ae (Ar (i:=2) bH.nd (CT ZU XI XZ wg (pv 1) (BP BJ (BP Ab Aa)))) (Ae (Aw (Az Dk (Be Cp rfl T.len Ce (Ac (pv 2) Aa)) Ab) (Af Cj) Ax) (Ae (Cw (Ah (Vw T) r.m Ag (Ao (Ad ix_list (pv 2) Ab) Aa))) (Af (Am (Bb (k:=6) (pv 0) r.m (Ao (Ad ix_list (pv 2) Ab) (BL (Ah (zy T) r.m Ag (Ao (Ad ix_list (pv 2) Ab) Aa)) Aa)))))))),?_⟩
 refine ⟨_,rfl,rfl,_,Y1 "bench",x,Bs ps,rfl,rfl,V6 _ _,by decide+kernel,nx.no,(by rw [dJ nx];have:=nx.len;exact U1 (show _<=20000 by omega) (by decide)),λ a u=>?_⟩
 have b:=Aj u (.lst [.str (Y1 "bench"),.str x,.str (Bs ps)]);have g:upd H a (.lst [.str (Y1 "bench"),.str x,.str (Bs ps)]) a=some (.lst [.str (Y1 "bench"),.str x,.str (Bs ps)]):=Al;generalize upd H a (.lst [.str (Y1 "bench"),.str x,.str (Bs ps)])=V at b g ⊢;refine ⟨_,rfl,a,_,rfl,.inl (SqL.of g),rfl,_,rfl,BR rfl ?_⟩;refine ⟨_,rfl,a,_,_,.str x,rfl,rfl,SqL.of g,Bm (j:=1) rfl,x,rfl,nx,λ W h=>?_⟩
 have p:=D.keep (b.trans h);have v:=h _ _ g;refine ⟨_,rfl,o,_,t,_,_,_,rfl,p.o,rfl,RJ T,_,rfl,a,_,_,.str x,rfl,rfl,SqL.of v,Bm (j:=1) rfl,_,rfl,a,_,_,.str (Bs ps),rfl,rfl,SqL.of v,Bm (j:=2) rfl,ps,rfl,U1 ok.1 (by decide),ok.sh,λ l xs X y J hl z=>?_⟩
 have L:l∉q:=λ e=>by
  obtain ⟨Y,M⟩:=G l e;have:=h _ _ (b _ _ M);rw [J] at this;cases this
 exact ⟨o,t,d,q,l,x,S,n,ps,rfl,p.keep y,I,.of hl z,L,ok,λ N O B=>k N ((Lib.SD.ofSame ((b.trans h).trans y)).trans O) B⟩
theorem cZ (T:Txt K mg ad):CalB P w K mg base true 5 "turned_bench" ["bench"] (λ _ _ _ _=>False):=T.M9.calN aa (λ _ _ _ _ _ _=>Bl λ _=>rfl) (λ vs H Q E a=>a.elim) (λ f b A outer s H vs Q E d a=>a.elim)
theorem aD (T:Txt K mg ad)(z:w.params=ad.pr):MC P w K mg base 16 ad.Desk "say" ["self","row"] (YC K ad.Desk):=by
 have B:=aK (P:=P) (w:=w) (base:=base) T z (u0:="show") ⟨_,by unfold valV DQ;rfl,λ H=>T.ex.s_ROWS_show H⟩ (by decide)
 refine T.ex.q_Desk_say.mc Dr (λ _ _ _ _ _ _=>Ba λ _ _=>rfl) (λ vs H Q E C=>?_) (λ f R A outer s H vs Q E b C=>?_)
 ·obtain ⟨_,_,_,_,_,_,_,_,rfl,_⟩:=C;rfl
 obtain ⟨o,l,d,q,x,S,n,ps,rfl,D,G,I,nx,ok,k⟩:=C;have U:=Pg (U1 ok.1 (by decide)) ok.sh
 refine ⟨_,(Ae (Aw (Bt (Bj (Be Ed rfl T.isinstance Dy (Ac (pv 1) (Ac (Ec (v:=.ty "str") rfl T.str Ep rfl) Aa))))) (Af Cj) Ax) (Ae (Ar (i:=2) Dr.nd (CT ZU XI XZ Fe (pv 1) (BP BJ Aa))) (Ae (Aw (Az Bp (Ad ix_list (pv 2) Ab) BJ) (Af (Am (Bb (k:=10) (pv 0) b.m (Ac (pv 1) Aa)))) Ax) (Ae (Ar (i:=3) Dr.nd (Ah B b.m Ag (Ac (pv 2) Aa))) (Ae (Ar (i:=4) Dr.nd (Ad ix_tup (pv 3) Ab)) (Ae (Aw (Az Bp (Ad ix_list (pv 2) Ab) BJ) (Af (Am (Bb (k:=6) (pv 0) b.m (Ao (Ad ix_list (pv 4) Ab) (Bf (Ak G5 (Bb (k:=1) (pv 0) b.m (Ao (Ad ix_list (pv 4) Ab) Aa)) (Bb (k:=1) (pv 0) b.m (Ao (Ad ix_list (pv 4) Ab) Aa))) Aa))))) Ax) (Ae (Aw (Az Bp (Ad ix_list (pv 2) Ab) BJ) (Af (Am (Bb (k:=6) (pv 0) b.m (Ao (Ad ix_list (pv 4) Ab) (BL (Ah (cZ T) b.m Ag (BL (Bb (k:=1) (pv 0) b.m (Ao (Ad ix_list (pv 4) Ab) Aa)) Aa)) Aa))))) Ax) (Af (Am (Oq Ag (Pr (BZ (v:=.ref ad.ANSWERS) rfl T.ex.m_ANSWERS rfl) (Ad ix_list (pv 2) Ab) (λ _ _=>rfl)) (BL (Bb (k:=1) (pv 0) b.m (Ao (Ad ix_list (pv 4) Ab) Aa)) (Ao (Ad ix_tup (pv 3) Ab) Aa)))))))))))),?_⟩
 refine ⟨_,rfl,_,_,_,_,rfl,.str _,Gp _,_,rfl,iteF ?_⟩;refine ⟨_,rfl,rfl,_,_,rfl,rfl,rfl,(by rw [dJ nx];have:=nx.len;exact U1 (show _<=20000 by omega) (by decide)),λ e p=>?_⟩
 obtain ⟨r,J⟩:=zN (t:=Bs ps) nx;rw [J];have g:=Aj p (.lst ((Y1 "bench"::r).map V.str));have u:upd H e (.lst ((Y1 "bench"::r).map V.str)) e=some (.lst ((Y1 "bench"::r).map V.str)):=Al;generalize upd H e (.lst ((Y1 "bench"::r).map V.str))=W at g u ⊢;refine ⟨_,rfl,e,_,_,.str (Y1 "bench"),rfl,rfl,SqL.of u,Bm (j:=0) rfl,rfl,_,rfl,Bg (by rw [By];exact decide_eq_true rfl) ?_⟩
 have h:=D.keep g;exact ⟨_,rfl,o,_,l,_,_,_,rfl,h.o,rfl,AJ8 T,_,rfl,o,l,d,q,x,S,n,ps,rfl,h,(λ a L=>(G a L).imp λ X M=>g _ _ M),I,nx,ok,λ N O y=>k N ((Lib.SD.ofSame g).trans O) y⟩
theorem K7 (T:Txt K mg ad)(y:w.params=ad.pr){u0 nm:Y2}{m:Nat}{l:Addr}{b4:List Pc->List Rat->Y2->Prop}(Z:cF K ad u0 m)(a0:m<=5)(a1:32∉cl u0)(a2:u0.length<=8)(a3:u0≠Y1 "bench")(a4:u0≠Y1 "join")(a5:u0≠Y1 "turn")
  (hv:valV (DQ (vM ad)) (.inr u0)=some (.ref l)) (z:mg nm=some (.ref l)) (C:CalB P w K mg base true 12 nm ["bench","numbers"] (JK K b4)):MC P w K mg base 16 ad.Desk "say" ["self","row"] (Ip K ad.Desk u0 m b4):=by
 have a6:=aK (P:=P) (w:=w) (base:=base) T y Z a0;refine T.ex.q_Desk_say.mc Dr (λ _ _ _ _ _ _=>Ba λ _ _=>rfl) (λ vs H Q E a7=>?_) (λ f b5 A outer s H vs Q E a a7=>?_)
 ·obtain ⟨_,_,_,_,_,_,_,_,_,_,rfl,_⟩:=a7;rfl
 obtain ⟨o,B,d,q,x,b7,n,ps,qs,t,rfl,a8,nx,sx,a9,D,G,I,k⟩:=a7;refine ⟨_,(Ae (Aw (Bt (Bj (Be Ed rfl T.isinstance Dy (Ac (pv 1) (Ac (Ec (v:=.ty "str") rfl T.str Ep rfl) Aa))))) (Af Cj) Ax) (Ae (Ar (i:=2) Dr.nd (CT ZU XI XZ Fe (pv 1) (BP BJ Aa))) (Ae (Aw (Az Bp (Ad ix_list (pv 2) Ab) BJ) (Af (Am (Bb (k:=10) (pv 0) a.m (Ac (pv 1) Aa)))) Ax) (Ae (Ar (i:=3) Dr.nd (Ah a6 a.m Ag (Ac (pv 2) Aa))) (Ae (Ar (i:=4) Dr.nd (Ad ix_tup (pv 3) Ab)) (Ae (Aw (Az Bp (Ad ix_list (pv 2) Ab) BJ) (Af (Am (Bb (k:=6) (pv 0) a.m (Ao (Ad ix_list (pv 4) Ab) (Bf (Ak G5 (Bb (k:=1) (pv 0) a.m (Ao (Ad ix_list (pv 4) Ab) Aa)) (Bb (k:=1) (pv 0) a.m (Ao (Ad ix_list (pv 4) Ab) Aa))) Aa))))) Ax) (Ae (Aw (Az Bp (Ad ix_list (pv 2) Ab) BJ) (Af (Am (Bb (k:=6) (pv 0) a.m (Ao (Ad ix_list (pv 4) Ab) (BL (Ah (cZ T) a.m Ag (BL (Bb (k:=1) (pv 0) a.m (Ao (Ad ix_list (pv 4) Ab) Aa)) Aa)) Aa))))) Ax) (Af (Am (Oq Ag (Pr (BZ (v:=.ref ad.ANSWERS) rfl T.ex.m_ANSWERS rfl) (Ad ix_list (pv 2) Ab) (λ _ _=>rfl)) (BL (Bb (k:=1) (pv 0) a.m (Ao (Ad ix_list (pv 4) Ab) Aa)) (Ao (Ad ix_tup (pv 3) Ab) Aa)))))))))))),?_⟩
 refine ⟨_,rfl,_,_,_,_,rfl,.str _,Gp _,_,rfl,iteF ?_⟩;refine ⟨_,rfl,rfl,_,_,rfl,rfl,rfl,U1 (JA (t8 a2 nx.len (by omega) D) 2) (by decide),λ b J=>?_⟩
 rw [zB a1 nx.no];have L:=Aj J (.lst ((u0::x::qs.map Aq).map V.str));have g:upd H b (.lst ((u0::x::qs.map Aq).map V.str)) b=some (.lst ((u0::x::qs.map Aq).map V.str)):=Al;generalize upd H b (.lst ((u0::x::qs.map Aq).map V.str))=b8 at L g ⊢;refine ⟨_,rfl,b,_,_,.str u0,rfl,rfl,SqL.of g,Bm (j:=0) rfl,rfl,_,rfl,BR (by rw [By];exact decide_eq_false a3) ?_⟩
 refine ⟨_,rfl,b,x,qs,rfl,g,nx,D,a9,G,λ r M b0 b9 N h O dn=>?_⟩
 refine ⟨_,rfl,r,_,_,.ref M,rfl,rfl,SqT.of h,Bm (j:=0) rfl,?_⟩;have p:=N _ _ g;refine ⟨_,rfl,b,_,_,.str u0,rfl,rfl,SqL.of p,Bm (j:=0) rfl,rfl,_,rfl,BR (by rw [By];exact decide_eq_false a4) ?_⟩
 refine ⟨_,rfl,b,_,_,.str u0,rfl,rfl,SqL.of p,Bm (j:=0) rfl,rfl,_,rfl,BR (by rw [By];exact decide_eq_false a5) ?_⟩
 have R:=L.trans N;have e:=a8.keep R;obtain ⟨u,S,b1,U,W,X⟩:=C.ex;obtain rfl:u=l:=by
  have:=U.symm.trans z
  injection this with this
  injection this
 refine ⟨_,rfl,b,_,_,.str u0,rfl,rfl,SqL.of p,Bm (j:=0) rfl,ad.ANSWERS,_,.inr u0,.ref u,rfl,T.ex.g_ANSWERS _ _ y,rfl,hv,u,S,12,_,_,rfl,b1,W,X,a.mono (by decide),?_⟩
 refine ⟨_,rfl,o,_,B,_,_,_,rfl,e.o,rfl,Lr T,_,rfl,M,_,_,.str x,rfl,rfl,SqL.of O,Bm (j:=0) rfl,o,B,d,q,x,b7,n,ps,rfl,e,sx,λ c0 Y b6=>?_⟩
 exact ⟨_,rfl,r,_,_,.ref b0,rfl,rfl,SqT.of h,Bm (j:=1) rfl,_,_,ps,qs,t,rfl,Y.dv,e.ok sx,dn,I,λ b2 b3=>k b2 (R.trans b3)⟩
theorem VP (T:Txt K mg ad):CalB P w K mg base true 2 "shown" ["ratios"] (ZX K):=by
 refine T.Sx.calN mL (λ _ _ _ _ _ _=>Bl λ _=>rfl) (λ vs H Q E b=>?_) (λ f h A outer s H vs Q E d b=>?_)
 ·obtain ⟨_,_,rfl,_⟩:=b;rfl
 obtain ⟨v,qs,rfl,hv,big,a,q⟩:=b;refine ⟨_,(Af (Am (CT ZU US UU Ie BJ (Cm (Ej ["one"] [none] rfl (ZW (pv 0)) (λ _ _ _ _ _=>(Bc (i:=0) (show Uz [("one":Str)] by decide))) (λ _ _ _ _ _=>Eb) (λ _ _ _ _ _=>(Ah (Wq T) d.m Ag (Ac (pv 0) Aa))) (Ds (by decide) (by decide)) (by decide) rfl (by decide) rfl (Dt rfl)) Aa)))),?_⟩
 exact ⟨rfl,bW hv big a λ p j e g=>⟨_,p,qs.map Aq,rfl,rfl,g,gO big a,q _ e⟩⟩
theorem wV (T:Txt K mg ad):CalB P w K mg base true 12 "walk_answer" ["bench","numbers"] (JK K iK):=by
 refine T.QF.calN dH (λ _ _ _ _ _ _=>Ba λ _ _=>rfl) (λ vs H Q E O=>?_) (λ f Y A outer s H vs Q E q O=>?_)
 ·obtain ⟨_,_,_,_,_,rfl,_⟩:=O;rfl
 obtain ⟨v,u0,ps,qs,t,rfl,R,N,S,⟨y,u,rfl,U,V,rfl⟩,k⟩:=O;obtain ⟨a,xs,rfl,r,x⟩:=DV.lst_of S;obtain ⟨e,g,rfl,z,B⟩:=x.two;have C:=W2 U V;have Z:=Yh (50+1) N.1;refine ⟨_,(Ae (Ar (i:=2) dH.nd (Ah (sZ T) q.m Ag (Ac (pv 0) (Do (Bk (Ao (Ad ix_list (pv 1) Ab) (Ao (Ad ix_list (pv 1) Ab) Aa))) Aa)))) (Ae (Aw (Az Lw (Ad ix_tup (pv 2) Ab) DX) (Af (Am (Ak CN BJ (Fp XH rfl T.str Ep (Ao (Ad ix_tup (pv 2) Ab) Aa))))) Ax) (Af (Am (Ak CN BJ (Ah (VP T) q.m Ag (Ao (Ad ix_list (Ad ix_tup (pv 2) Ab) (aj gq Ab)) Aa))))))),?_⟩
 refine ⟨_,rfl,_,rfl,a,_,_,e,rfl,rfl,r,rfl,_,rfl,a,_,_,g,rfl,rfl,r,rfl,(by show 2<=Y7;decide),λ p D=>?_⟩
 have h:=Aj D (.tup [e,g]);have F:DV K (upd H p (.tup [e,g])) (.ref p) (Cu (y,u)):=DV.upd2 D z B;generalize upd H p (.tup [e,g])=a0 at h F ⊢;refine ⟨v,.ref p,ps,(y,u),100,50,rfl,R.keep h,N.good,F,C,by omega,λ t l a1 at_ a2 G j hl ht I b=>?_⟩
 refine ⟨_,rfl,t,_,_,_,rfl,rfl,SqT.of ht,rfl,rfl,_,rfl,?_⟩;rw [AG9 b];unfold Fb at k;cases o:(walk ps (y,u)).2 with
 | none=>
  rw [o] at k;refine BR rfl ?_;obtain ⟨a3,W,J⟩:=DVs.last I (d:=Cu (BW ps (y,u))) (by rw [GC,Je];rfl)
  have L:=Ws N C;have M:=all2 L.1 L.2;refine ⟨_,rfl,t,_,_,_,rfl,rfl,SqT.of ht,rfl,_,rfl,l,_,_,_,rfl,rfl,SqL.of hl,AL2 W,a3,[(BW ps (y,u)).1,(BW ps (y,u)).2],rfl,.inr J,M,(by show 2<=60;decide),λ a4 X=>?_⟩
  have a5:=O4 M (by show 2<=5;decide)
  exact ⟨_,_,rfl,rfl,Br (by rw [show (Y1 "by ").length=3 by decide+kernel];omega),k _ (h.trans (G.trans X))⟩
 | some n=>
  rw [o] at k b;refine Bg rfl ?_;obtain rfl:=DV.int_of b;have j:((n:Int)).natAbs.log2 < 1920:=Nf (by
   have z:=(Uq o).1;have B:=N.1;rw [XW];exact X1 (show n < 2 ^ 4 by omega) (Jp (by decide) (by decide)))
  refine ⟨_,rfl,t,_,_,_,rfl,rfl,SqT.of ht,rfl,_,rfl,j,?_⟩;have a6:=QH j;exact ⟨_,_,rfl,rfl,Br (by rw [show (Y1 "stopped ").length=8 by decide+kernel];omega),k _ (h.trans G)⟩
theorem pW (T:Txt K mg ad):CalB P w K mg base true 12 "table_answer" ["bench","numbers"] (JK K fC):=by
 refine T.U6.calN yE (λ _ _ _ _ _ _=>Ba λ _ _=>rfl) (λ vs H Q E i=>?_) (λ f r A outer s H vs Q E e i=>?_)
 ·obtain ⟨_,_,_,_,_,rfl,_⟩:=i;rfl
 obtain ⟨v,u0,ps,qs,t,rfl,j,l,u,rfl,k⟩:=i;have x:=Yh (50+1) l.1;refine ⟨_,(Af (Am (Ah (VP T) e.m Ag (BL (Ah (M4 T) e.m Ag (Ac (pv 0) Aa)) Aa)))),?_⟩
 refine ⟨_,rfl,_,_,.cons j .nil,⟨ps,50,rfl,l.good,by omega,rfl⟩,λ n y o g=>?_⟩
 have tb:=l.tb;exact ⟨n,[(tabOf ps).a,(tabOf ps).b,(tabOf ps).c,(tabOf ps).d],rfl,.inr g,(λ q h=>by
  simp only [W4,YV,or_false] at h;rcases h with rfl | rfl | rfl | rfl
  ·exact tb.a.mono (by decide)
  ·exact tb.b.mono (by decide)
  ·exact tb.c.mono (by decide)
  ·exact tb.d.mono (by decide)),(by show 4<=60;decide),λ z p=>k _ (o.trans p)⟩
theorem vZ (T:Txt K mg ad):CalB P w K mg base true 12 "apart_answer" ["bench","numbers"] (JK K aM):=by
 refine T.Wa.calN yg (λ _ _ _ _ _ _=>Ba λ _ _=>rfl) (λ vs H Q E g=>?_) (λ f p A outer s H vs Q E a g=>?_)
 ·obtain ⟨_,_,_,_,_,rfl,_⟩:=g;rfl
 obtain ⟨v,u0,ps,qs,t,rfl,h,e,q,rfl,k⟩:=g;have r:=Yh (50+1) e.1;have tk:=cz e.tb (HW ps);refine ⟨_,(Af (Am (Ah (oX T) a.m Ag (BL (Ah (yW T) a.m Ag (BL (Ah (M4 T) a.m Ag (Ac (pv 0) Aa)) Aa)) Aa)))),?_⟩
 refine ⟨_,rfl,_,_,.cons h .nil,⟨ps,50,rfl,e.good,by omega,rfl⟩,λ i u j b=>?_⟩
 refine ⟨i,tabOf ps,614,rfl,b,e.tb,by decide,HW ps,λ l x xs n y hl d=>?_⟩
 exact ⟨.ref l,DK (tabOf ps),rfl,.lst (SqL.of hl) d,tk.1,tk.2,λ z o=>k _ (j.trans (n.trans o))⟩
theorem o4 (T:Txt K mg ad):CalB P w K mg base true 12 "image_answer" ["bench","numbers"] (JK K aq):=by
 refine T.Vd.calN Qt (λ _ _ _ _ _ _=>Ba λ _ _=>rfl) (λ vs H Q E F=>?_) (λ f X A outer s H vs Q E g F=>?_)
 ·obtain ⟨_,_,_,_,_,rfl,_⟩:=F;rfl
 obtain ⟨v,u0,ps,qs,t,rfl,G,Y,I,⟨o,y,rfl,d,rfl⟩,k⟩:=F;obtain ⟨a,xs,rfl,q,r⟩:=DV.lst_of I;obtain ⟨u,Z,rfl,x,z⟩:=r.cons_of;obtain rfl:=z.nil_of;have a0:=Yh (50+1) Y.1;have tb:=o.tb;refine ⟨_,(Ae (Ar (i:=2) Qt.nd (Ah (M4 T) g.m Ag (Ac (pv 0) Aa))) (Ae (Ar (i:=3) Qt.nd (Ah (AH9 T) g.m Ag (Ac (pv 2) (Ao (Ad ix_list (pv 1) Ab) Aa)))) (Af (Am (J0 (Az Ig (pv 3) DX) (BZ (v:=.str "none") rfl T.ex.m_NONE ⟨⟨_,T.ex.z_NONE⟩,rfl⟩) (Ah (VP T) g.m Ag (Mf (Bu (Ac (pv 3) (BL (Ah (wZ T) g.m Ag (Ac (pv 2) (Ao (Ad ix_list (pv 1) Ab) Aa))) Aa))) Aa))))))),?_⟩
 refine ⟨_,rfl,_,_,.cons G .nil,⟨ps,50,rfl,Y.good,by omega,rfl⟩,λ a1 a2 l h=>?_⟩
 refine ⟨_,rfl,_,rfl,a,_,_,u,rfl,rfl,q.keep l,rfl,_,_,.cons h (.cons (x.keep l) .nil),⟨tabOf ps,y,230,rfl,tb,HW ps,d.mono (by decide),by decide,rfl⟩,λ J L B b=>?_⟩
 have t2:=l.trans B;unfold Ge at k;cases e:img (tabOf ps) y with
 | none=>
  rw [e] at b k;obtain rfl:=DV.non_of b;exact ⟨_,rfl,rfl,_,rfl,Bg (by decide) (k _ t2)⟩
 | some p=>
  rw [e] at b k;obtain ⟨M,N⟩:=zX o d e;have O:Oh (tabOf ps) y=some (1 / (spread (tabOf ps) y).2):=by
   unfold img at e;unfold Oh
   split at e
   ·cases e
   ·rename_i R;rw [if_neg R]
  obtain ⟨S,a3,a4,rfl,_,_,_⟩:=DV.t2 (show DV K L J (.tuple [.int p.num,.int (p.den:Int)]) from b)
  refine ⟨_,rfl,rfl,_,rfl,BR (by simp) ?_⟩
  refine ⟨_,rfl,_,rfl,_,rfl,a,_,_,u,rfl,rfl,q.keep t2,rfl,_,_,.cons (h.keep B) (.cons (x.keep t2) .nil),⟨tabOf ps,y,230,rfl,tb,HW ps,d.mono (by decide),by decide,rfl⟩,λ U a5 C j=>?_⟩
  rw [O] at j;refine ⟨(by show 2<=Y7;decide),λ V D=>?_⟩
  have n:=Aj D (.lst [.ref S,U]);exact ⟨.ref V,[p,1 / (spread (tabOf ps) y).2],rfl,.inl (.lst (SqL.of Al) (.cons (b.keep (C.trans n)) (.cons (j.keep n) .nil))),all2 M N,(by show 2<=60;decide),λ a6 W=>k _ (t2.trans (C.trans (n.trans W)))⟩
theorem uq (T:Txt K mg ad):CalB P w K mg base true 12 "rounds_answer" ["bench","numbers"] (JK K aY):=by
 refine T.RK.calN Zx (λ _ _ _ _ _ _=>Ba λ _ _=>rfl) (λ vs H Q E j=>?_) (λ f o A outer s H vs Q E b j=>?_)
 ·obtain ⟨_,_,_,_,_,rfl,_⟩:=j;rfl
 obtain ⟨v,u0,ps,qs,t,rfl,l,p,q,⟨os,rfl⟩,k⟩:=j;have r:=Yh (50+1) p.1;refine ⟨_,(Ae (Ar (i:=2) Zx.nd (Ah (ju T) b.m Ag (BL (Ah (M4 T) b.m Ag (Ac (pv 0) Aa)) Aa))) (Af (Am (J0 (Az Ig (pv 2) DX) BJ (Fp XH rfl T.str Ep (Ac (pv 2) Aa)))))),?_⟩
 refine ⟨_,rfl,_,_,.cons l .nil,⟨ps,50,rfl,p.good,by omega,rfl⟩,λ u x d g=>?_⟩
 refine ⟨_,_,.cons g .nil,⟨tabOf ps,121,rfl,os.tq,HW ps,by decide,rfl⟩,λ y z h a=>?_⟩
 unfold Ny at k;cases e:lst (tabOf ps) 6 with
 | none=>
  rw [e] at a k;obtain rfl:=DV.non_of a;exact ⟨_,rfl,rfl,_,rfl,Bg (by decide) (k _ (d.trans h))⟩
 | some n=>
  rw [e] at a k;obtain rfl:=DV.int_of a;refine ⟨_,rfl,rfl,_,rfl,BR (by simp) ⟨_,rfl,_,rfl,Nf ?_,k _ (d.trans h)⟩⟩
  rw [XW];exact X1 (show n < 2 ^ 3 by have:=(RC e).2;omega) (Jp (by decide) (by decide))
theorem b8 (T:Txt K mg ad):CalB P w K mg base true 5 "turned_bench" ["bench"] (m6 K):=by
 refine T.M9.calN aa (λ _ _ _ _ _ _=>Bl λ _=>rfl) (λ vs H Q E i=>?_) (λ f n A outer s H vs Q E j i=>?_)
 ·obtain ⟨_,_,rfl,_⟩:=i;rfl
 obtain ⟨v,ps,rfl,e,o,k⟩:=i;obtain ⟨a,xs,rfl,l,g⟩:=DV.lst_of e;refine ⟨_,(Ae (Cw (Ah (Lb T) j.m Ag (Ac (pv 0) Aa))) (Af (Am (mO rfl (pv 0) rfl T.list rfl T.reversed)))),?_⟩
 refine ⟨_,rfl,_,ps,50,rfl,e,o.good,by omega,λ p b=>?_⟩
 refine ⟨_,rfl,a,xs,rfl,l.keep b,λ r d=>?_⟩
 have h:=Aj d (.lst xs.reverse);refine k _ _ _ (b.trans h) (b.free d) Al ?_;rw [List.map_reverse];exact cY (g.keep (b.trans h))
def q8 (K:FrG)(ad:Adr)(wd:Y2)(n:Nat)(a:Addr):Prop:=valV (DQ (dI ad)) (.inr wd)=some (.ref a)/\(∀H,SqT K H a [.int (n:Int),.int 0])/\wd≠Y1 "sharp"
theorem iW (T:Txt K mg ad){wd:Y2}{ns:List Y2}(b:(wd=Y1 "join"/\ns.length=3)\/(wd=Y1 "turn"/\ns.length=2)):ns.length<=3/\∃a,q8 K ad wd ns.length a:=by
 rcases b with ⟨rfl,e⟩ | ⟨rfl,e⟩
 ·exact ⟨by omega,ad.ROWS_join,by unfold valV DQ;rfl,λ H=>by rw [e];exact T.ex.s_ROWS_join H,by decide+kernel⟩
 ·exact ⟨by omega,ad.ROWS_turn,by unfold valV DQ;rfl,λ H=>by rw [e];exact T.ex.s_ROWS_turn H,by decide+kernel⟩
theorem Yy (T:Txt K mg ad)(S:w.params=ad.pr):CalB P w K mg base true 8 "read_row" ["words"] AJ0:=by
 refine T.M3.calN Fo (λ _ _ _ _ _ _=>Bl λ _=>rfl) (λ vs H Q E U=>?_) (λ f a4 A outer s H vs Q E F U=>?_)
 ·obtain ⟨_,_,_,rfl,_⟩:=U;rfl
 obtain ⟨l,wd,ns,rfl,hl,nn,W,k⟩:=U;obtain ⟨a5,o,X,t,L⟩:=iW T W;refine ⟨_,(Ae (Ar (i:=1) Fo.nd (Yp (BZ (v:=.ref ad.ROWS) rfl T.ex.m_ROWS rfl) (Ad ix_list (pv 0) Ab) ⟨rfl,rfl,rfl,rfl⟩)) (Ae (Aw (PW.pt (pw_or (Az Ig (pv 1) DX) (pw_or1 (Az Dk (Be Cp rfl T.len Ce (Ac (pv 0) Aa)) (Ak CJ (Ak CJ Ab (Ad ix_tup (pv 1) Ab)) (Ad ix_tup (pv 1) Ab)))))) (Af Cj) Ax) (Ae (Ar (i:=2) Fo.nd (DP Fg (pv 0) (CZ Ab) (CZ (Ak CJ Ab (Ad ix_tup (pv 1) Ab))))) (Ae (Dm Xs rfl (DY (pv 2)) (Bc (i:=3) Fo.nd) (Af (Cw (Ah (Vw T) F.m Ag (Ac (pv 3) Aa))))) (Ae (T7 (i:=4) Fo.nd rfl (by walk_at "o") ["word"] [none] rfl (DY (DP Fg (pv 0) (CZ (Ak CJ Ab (Ad ix_tup (pv 1) Ab))) Dh)) (λ _ _ _ _ _=>(Bc (i:=0) (show Uz [("word":Str)] by decide))) (λ _ _ _ _ _=>Eb) (λ _ _ _ _ _=>(Ah (eQ T) F.m Ag (Ac (pv 0) Aa))) (Ds (by decide) (by decide)) (by decide) rfl (by decide) rfl (Dt rfl)) (Ae (Aw (PW.pt (pw_and (Az Bp (Ad ix_list (pv 0) Ab) BJ) (pw_and1 (Bj (Ah (Mv T) F.m Ag (Ao (Ad ix_list (pv 4) Ab) (Ac (BZ (v:=.ref ad.NOUGHT) rfl T.ex.m_NOUGHT rfl) Aa))))))) (Af Cj) Ax) (Af (Am (Bk (Ac (pv 2) (Ac (pv 4) Aa))))))))))),?_⟩
 refine ⟨ad.ROWS,_,rfl,T.ex.g_ROWS _ _ S,_,rfl,l,_,_,.str wd,rfl,rfl,SqL.of hl,Bm (j:=0) rfl,.inr wd,rfl,?_⟩;rw [X];refine ⟨_,rfl,rfl,_,rfl,BR (by rfl) ?_⟩
 refine ⟨_,rfl,l,_,rfl,.inl (SqL.of hl),_,rfl,o,_,_,.int (ns.length:Int),rfl,rfl,t H,rfl,_,_,rfl,rfl,_,rfl,o,_,_,.int 0,rfl,rfl,t H,rfl,_,_,rfl,rfl,?_⟩;refine ⟨rfl,_,rfl,BR (by rw [EY,decide_eq_true (show (((wd::ns).map V.str).length:Int)=1+(ns.length:Int)+0 by simp only [Y3,X4];omega)];rfl) ?_⟩
 refine ⟨_,rfl,_,rfl,_,rfl,o,_,_,.int (ns.length:Int),rfl,rfl,t H,rfl,_,_,rfl,rfl,_,rfl,l,_,rfl,SqL.of hl,λ e M=>?_⟩
 have N:((wd::ns).map V.str).length=1+ns.length:=by simp only [Y3,X4];omega
 have Y:cutV ((wd::ns).map V.str) (some 1) (some (1+(ns.length:Int)))=ns.map V.str:=by
  unfold cutV;rw [show HT.sIx ((wd::ns).map V.str).length 0 (some 1)=min 1 ((wd::ns).map V.str).length from HT.Ff _ _ 1,show (1+(ns.length:Int))=((1+ns.length:Nat):Int) by omega,HT.Ff,N,Nat.min_self,jO (by omega)]
  show (ns.map V.str).take _=_;exact UP (by rw [Y3];omega)
 have Z:cutV ((wd::ns).map V.str) (some (1+(ns.length:Int))) none=[]:=by
  unfold cutV;rw [show (1+(ns.length:Int))=((1+ns.length:Nat):Int) by omega,HT.Ff,HT.Ni,N,Nat.min_self,MM]
  rfl
 rw [Y];have G:=Aj M (.lst (ns.map V.str));have b:upd H e (.lst (ns.map V.str)) e=some (.lst (ns.map V.str)):=Al;generalize upd H e (.lst (ns.map V.str))=a0 at G b ⊢;refine ⟨_,rfl,e,rfl,⟨_,SqL.of b⟩,?_⟩;refine Gr (K:=K) (a:=e) (xs:=ns.map V.str) (λ i g h=>∃u,g=[some (.ref l),some (.ref o),some (.ref e),u,none]/\Same a0 h) ⟨_,rfl,Same.refl _⟩ ?_ ?_ ?_
 ·rintro i g h d ⟨u,rfl,n⟩
  exact SqL.of (n _ _ b)
 ·rintro i x g h d ⟨u,rfl,n⟩
  rw [Ya] at d;cases I:ns[i]? with
  | none=>rw [I] at d;cases d
  | some y=>
   rw [I] at d;cases d
   exact ⟨_,rfl,y,rfl,nn y (ZN I),λ q a1=>⟨_,rfl,n.trans a1⟩⟩
 ·rintro g h ⟨u,rfl,n⟩
  have D:h l=some (.lst ((wd::ns).map V.str)):=n _ _ (G _ _ hl);refine ⟨_,rfl,_,rfl,o,_,_,.int (ns.length:Int),rfl,rfl,t h,rfl,_,_,rfl,rfl,_,rfl,l,_,rfl,SqL.of D,λ z J=>?_⟩
  rw [Z];have a2:=Aj J (.lst ([]:List V));refine ⟨z,rfl,⟨_,SqL.of Al⟩,?_⟩;refine HQ (K:=K) (a:=z) (xs:=[]) (λ i g B q=>B=[]/\q=upd h z (.lst [])) ⟨rfl,rfl⟩ ?_ ?_ ?_
  ·rintro i g B q d ⟨rfl,rfl⟩
   exact ⟨by decide,SqL.of Al⟩
  ·rintro i x g B q d ⟨rfl,rfl⟩
   cases d
  ·rintro g B q p ⟨rfl,rfl⟩ a3
   have C:=a2.trans (Aj a3 (.lst ([]:List V)));generalize upd (upd h z (.lst [])) p (.lst [])=a6 at C ⊢;refine ⟨_,rfl,l,_,_,.str wd,rfl,rfl,SqL.of (C _ _ D),Bm (j:=0) rfl,rfl,_,rfl,BR (by rw [By];exact decide_eq_false L) (iteF ?_)⟩
   refine ⟨_,rfl,_,rfl,(by show 2<=Y7;decide),λ r O=>?_⟩
   have R:=Aj O (.tup [.ref e,.ref p]);exact k r e p _ (((G.trans n).trans C).trans R) Al (R _ _ (C _ _ (n _ _ b)))
theorem jY (T:Txt K mg ad)(a4:w.params=ad.pr):MC P w K mg base 16 ad.Desk "say" ["self","row"] (yJ K ad.Desk):=by
 refine T.ex.q_Desk_say.mc Dr (λ _ _ _ _ _ _=>Ba λ _ _=>rfl) (λ vs H Q E a5=>?_) (λ f b6 A outer s H vs Q E h a5=>?_)
 ·obtain ⟨_,_,_,_,_,_,_,_,_,_,_,rfl,_⟩:=a5;rfl
 obtain ⟨o,l,d,q,x,y,B,a6,n,a,b,rfl,a7,a8,a9,nx,G,nz,N,sz,ab,k⟩:=a5;refine ⟨_,(Ae (Aw (Bt (Bj (Be Ed rfl T.isinstance Dy (Ac (pv 1) (Ac (Ec (v:=.ty "str") rfl T.str Ep rfl) Aa))))) (Af Cj) Ax) (Ae (Ar (i:=2) Dr.nd (CT ZU XI XZ Fe (pv 1) (BP BJ Aa))) (Ae (Aw (Az Bp (Ad ix_list (pv 2) Ab) BJ) (Af (Am (Bb (k:=10) (pv 0) h.m (Ac (pv 1) Aa)))) Ax) (Ae (Ar (i:=3) Dr.nd (Ah (Yy T a4) h.m Ag (Ac (pv 2) Aa))) (Ae (Ar (i:=4) Dr.nd (Ad ix_tup (pv 3) Ab)) (Ae (Aw (Az Bp (Ad ix_list (pv 2) Ab) BJ) (Af (Am (Bb (k:=6) (pv 0) h.m (Ao (Ad ix_list (pv 4) Ab) (Bf (Ak G5 (Bb (k:=1) (pv 0) h.m (Ao (Ad ix_list (pv 4) Ab) Aa)) (Bb (k:=1) (pv 0) h.m (Ao (Ad ix_list (pv 4) Ab) Aa))) Aa))))) Ax) (Ae (Aw (Az Bp (Ad ix_list (pv 2) Ab) BJ) (Af (Am (Bb (k:=6) (pv 0) h.m (Ao (Ad ix_list (pv 4) Ab) (BL (Ah (b8 T) h.m Ag (BL (Bb (k:=1) (pv 0) h.m (Ao (Ad ix_list (pv 4) Ab) Aa)) Aa)) Aa))))) Ax) (Af (Am (Oq Ag (Pr (BZ (v:=.ref ad.ANSWERS) rfl T.ex.m_ANSWERS rfl) (Ad ix_list (pv 2) Ab) (λ _ _=>rfl)) (BL (Bb (k:=1) (pv 0) h.m (Ao (Ad ix_list (pv 4) Ab) Aa)) (Ao (Ad ix_tup (pv 3) Ab) Aa)))))))))))),?_⟩
 refine ⟨_,rfl,_,_,_,_,rfl,.str _,Gp _,_,rfl,iteF ?_⟩;refine ⟨_,rfl,rfl,_,_,rfl,rfl,rfl,U1 (JA (xH nx G nz) 2) (by decide),λ u O=>?_⟩
 have b0:Xo (Gd x y B) (Y1 " ")=[Y1 "join",x,y,B]:=vX nx G nz;rw [b0];have R:=Aj O (.lst ([Y1 "join",x,y,B].map V.str));have C:upd H u (.lst ([Y1 "join",x,y,B].map V.str)) u=some (.lst ([Y1 "join",x,y,B].map V.str)):=Al;generalize upd H u (.lst ([Y1 "join",x,y,B].map V.str))=c3 at R C ⊢;refine ⟨_,rfl,u,_,_,.str (Y1 "join"),rfl,rfl,SqL.of C,Bm (j:=0) rfl,rfl,_,rfl,BR (by rw [By];exact decide_eq_false (by decide+kernel)) ?_⟩
 refine ⟨_,rfl,u,Y1 "join",[x,y,B],rfl,C,(λ t ht=>by
  rcases W4.mp ht with rfl | ht
  ·exact nx
  rcases W4.mp ht with rfl | ht
  ·exact G
  ·rw [U0.mp ht];exact nz),.inl ⟨rfl,rfl⟩,λ r D c4 c5 S U z=>?_⟩
 refine ⟨_,rfl,r,_,_,.ref D,rfl,rfl,SqT.of U,Bm (j:=0) rfl,?_⟩;have b1:=S _ _ C;refine ⟨_,rfl,u,_,_,.str (Y1 "join"),rfl,rfl,SqL.of b1,Bm (j:=0) rfl,rfl,_,rfl,Bg (by rw [By];exact decide_eq_true rfl) ?_⟩
 have I:=R.trans S;have g:=a7.keep I;refine ⟨_,rfl,o,_,l,_,_,_,rfl,g.o,rfl,RJ T,_,rfl,D,_,_,.str x,rfl,rfl,SqL.of z,Bm (j:=0) rfl,?_⟩;refine ⟨_,rfl,o,_,l,_,_,_,rfl,g.o,rfl,Lr T,_,rfl,D,_,_,.str y,rfl,rfl,SqL.of z,Bm (j:=1) rfl,o,l,d,q,y,a6,n,a,rfl,g,N,λ b2 W b7=>?_⟩
 refine ⟨_,rfl,o,_,l,_,_,_,rfl,g.o,rfl,Lr T,_,rfl,D,_,_,.str B,rfl,rfl,SqL.of z,Bm (j:=2) rfl,o,l,d,q,B,a6,n,b,rfl,g,sz,λ lb X b9=>?_⟩
 obtain ⟨J,Y,Z,c0⟩:=W;obtain ⟨L,a0,a1,c1⟩:=X;have c2:=(g.ok N).1;have okB:=(g.ok sz).1;refine ⟨b2,lb,J,L,rfl,rfl,Y,a0,U1 (show J.length+L.length<=60 by omega) (by decide),λ p a2=>?_⟩
 have M:=Aj a2 (.lst (J++L));have np:p∉q:=λ e=>by
  obtain ⟨B,b3⟩:=a8 p e;have:=I _ _ b3;rw [a2] at this;cases this
 refine ⟨o,l,d,q,p,x,a6,n,a++b,rfl,g.keep M,a9,.of Al ?_,np,ab,λ b4 b5 a3=>k b4 ((Lib.SD.ofSame (I.trans M)).trans b5) a3⟩
 rw [ZH];exact (DVs.append Z a1).keep M
theorem AI1 (T:Txt K mg ad)(X:w.params=ad.pr):MC P w K mg base 16 ad.Desk "say" ["self","row"] (sG K ad.Desk):=by
 refine T.ex.q_Desk_say.mc Dr (λ _ _ _ _ _ _=>Ba λ _ _=>rfl) (λ vs H Q E Y=>?_) (λ f a8 A outer s H vs Q E g Y=>?_)
 ·obtain ⟨_,_,_,_,_,_,_,_,_,rfl,_⟩:=Y;rfl
 obtain ⟨o,u,d,q,x,y,a9,n,a,rfl,Z,a0,a1,nx,D,z,k⟩:=Y;refine ⟨_,(Ae (Aw (Bt (Bj (Be Ed rfl T.isinstance Dy (Ac (pv 1) (Ac (Ec (v:=.ty "str") rfl T.str Ep rfl) Aa))))) (Af Cj) Ax) (Ae (Ar (i:=2) Dr.nd (CT ZU XI XZ Fe (pv 1) (BP BJ Aa))) (Ae (Aw (Az Bp (Ad ix_list (pv 2) Ab) BJ) (Af (Am (Bb (k:=10) (pv 0) g.m (Ac (pv 1) Aa)))) Ax) (Ae (Ar (i:=3) Dr.nd (Ah (Yy T X) g.m Ag (Ac (pv 2) Aa))) (Ae (Ar (i:=4) Dr.nd (Ad ix_tup (pv 3) Ab)) (Ae (Aw (Az Bp (Ad ix_list (pv 2) Ab) BJ) (Af (Am (Bb (k:=6) (pv 0) g.m (Ao (Ad ix_list (pv 4) Ab) (Bf (Ak G5 (Bb (k:=1) (pv 0) g.m (Ao (Ad ix_list (pv 4) Ab) Aa)) (Bb (k:=1) (pv 0) g.m (Ao (Ad ix_list (pv 4) Ab) Aa))) Aa))))) Ax) (Ae (Aw (Az Bp (Ad ix_list (pv 2) Ab) BJ) (Af (Am (Bb (k:=6) (pv 0) g.m (Ao (Ad ix_list (pv 4) Ab) (BL (Ah (b8 T) g.m Ag (BL (Bb (k:=1) (pv 0) g.m (Ao (Ad ix_list (pv 4) Ab) Aa)) Aa)) Aa))))) Ax) (Af (Am (Oq Ag (Pr (BZ (v:=.ref ad.ANSWERS) rfl T.ex.m_ANSWERS rfl) (Ad ix_list (pv 2) Ab) (λ _ _=>rfl)) (BL (Bb (k:=1) (pv 0) g.m (Ao (Ad ix_list (pv 4) Ab) Aa)) (Ao (Ad ix_tup (pv 3) Ab) Aa)))))))))))),?_⟩
 refine ⟨_,rfl,_,_,_,_,rfl,.str _,Gp _,_,rfl,iteF ?_⟩;refine ⟨_,rfl,rfl,_,_,rfl,rfl,rfl,U1 (JA (m9 nx D) 2) (by decide),λ h J=>?_⟩
 have a2:Xo (G3 x y) (Y1 " ")=[Y1 "turn",x,y]:=kZ nx D;rw [a2];have L:=Aj J (.lst ([Y1 "turn",x,y].map V.str));have B:upd H h (.lst ([Y1 "turn",x,y].map V.str)) h=some (.lst ([Y1 "turn",x,y].map V.str)):=Al;generalize upd H h (.lst ([Y1 "turn",x,y].map V.str))=b1 at L B ⊢;refine ⟨_,rfl,h,_,_,.str (Y1 "turn"),rfl,rfl,SqL.of B,Bm (j:=0) rfl,rfl,_,rfl,BR (by rw [By];exact decide_eq_false (by decide+kernel)) ?_⟩
 refine ⟨_,rfl,h,Y1 "turn",[x,y],rfl,B,(λ t ht=>by
  rcases W4.mp ht with rfl | ht
  ·exact nx
  ·rw [U0.mp ht];exact D),.inr ⟨rfl,rfl⟩,λ r G b2 b3 M N C=>?_⟩
 refine ⟨_,rfl,r,_,_,.ref G,rfl,rfl,SqT.of N,Bm (j:=0) rfl,?_⟩;have O:=M _ _ B;refine ⟨_,rfl,h,_,_,.str (Y1 "turn"),rfl,rfl,SqL.of O,Bm (j:=0) rfl,rfl,_,rfl,BR (by rw [By];exact decide_eq_false (by decide+kernel)) ?_⟩
 refine ⟨_,rfl,h,_,_,.str (Y1 "turn"),rfl,rfl,SqL.of O,Bm (j:=0) rfl,rfl,_,rfl,Bg (by rw [By];exact decide_eq_true rfl) ?_⟩
 have I:=L.trans M;have b:=Z.keep I;refine ⟨_,rfl,o,_,u,_,_,_,rfl,b.o,rfl,RJ T,_,rfl,G,_,_,.str x,rfl,rfl,SqL.of C,Bm (j:=0) rfl,?_⟩;refine ⟨_,rfl,o,_,u,_,_,_,rfl,b.o,rfl,Lr T,_,rfl,G,_,_,.str y,rfl,rfl,SqL.of C,Bm (j:=1) rfl,o,u,d,q,y,a9,n,a,rfl,b,z,λ b4 R b0=>?_⟩
 refine ⟨_,a,rfl,R.dv,b.ok z,λ l xs b5 S a3 hl U=>?_⟩
 have np:l∉q:=λ e=>by
  obtain ⟨b6,a4⟩:=a0 l e;have:=I _ _ a4;rw [a3] at this;cases this
 exact ⟨o,u,d,q,l,x,a9,n,a.reverse,rfl,b.keep S,a1,.of hl U,np,⟨by rw [xz];exact (b.ok z).1,λ p a5=>(b.ok z).2 p (List.mem_reverse.mp a5)⟩,λ a6 a7 W=>k a6 ((Lib.SD.ofSame (I.trans S)).trans a7) W⟩
theorem jT (T:Txt K mg ad):CalB P w K mg base true 1 "_law_called" ["_law_number","_law_k"] sI:=by
 refine T.Px.calN QG (λ _ _ _ _ _ _=>Ba λ _ _=>rfl) (λ vs H Q E d=>?_) (λ f l A outer s H vs Q E n d=>?_)
 ·obtain ⟨_,_,rfl,_⟩:=d;rfl
 obtain ⟨a,i,rfl,z0,o,p,r,q⟩:=d;refine ⟨_,(Ae (Ar (i:=2) QG.nd (gA BJ (Ak DR (Ak CJ (Ak Gm (pv 0) Ab) (Ak Ea Ab (pv 1))) Ab) (λ _ _=>rfl))) (Ae (Aw (Az Bp (Ak DR (pv 0) Ab) Ab) (Af (Am (Ak ZM BJ (Ak CJ Ab (pv 1))))) Ax) (Ae (Ar (i:=3) QG.nd (Ak DR (Ak Gm (pv 0) Ab) Ab)) (Af (Am (Ak CN (Ak CN (DP Hf BJ Dh (CZ (pv 3))) (pv 2)) (DP Hf BJ (CZ (pv 3)) (CZ (Ak CJ (pv 3) (Ak DR (pv 0) Ab)))))))))),?_⟩
 have hl:=qp ⟨((a / 24+5 * i) % 26).toNat,by omega⟩
 have h:=yj ⟨(a / 3 % 5).toNat,by omega⟩ ⟨(a % 4).toNat,by omega⟩
 have e2:(((a / 3 % 5).toNat:Nat):Int)=a / 3 % 5:=by omega
 have j:(((a % 4).toNat:Nat):Int)=a % 4:=by omega
 simp only [e2,j] at h;refine ⟨_,rfl,_,_,rfl,rfl,⟨(by show (0:Int) < 24;decide),(by show (24:Int) < 1073741824;decide)⟩,_,rfl,_,_,rfl,rfl,.inl ⟨by decide,by omega⟩,_,_,rfl,rfl,_,_,rfl,rfl,(by show (0:Int) < 26;decide),?_⟩
 refine ⟨_,_,_,rfl,rfl,by omega,by omega,?_,hl,?_⟩
 ·show (a / 24+5 * i) % 26 < ((Y1 "abcdefghijklmnopqrstuvwxyz").length:Int);rw [show (Y1 "abcdefghijklmnopqrstuvwxyz").length=26 by decide+kernel]
  omega
 refine ⟨_,rfl,_,_,rfl,rfl,(by show (0:Int) < 3;decide),rfl,_,rfl,?_⟩
 by_cases b:a % 3=0
 ·refine Bg (by rw [EY];exact decide_eq_true b) ⟨_,rfl,_,_,rfl,rfl,_,_,rfl,rfl,?_,?_⟩
  ·have k:i=0\/i=1\/i=2\/i=3:=by omega
   rcases k with rfl | rfl | rfl | rfl
   ·exact ⟨by decide,λ _ d=>absurd d (by decide),λ _ d=>absurd d (by decide)⟩
   ·exact ⟨by decide,λ _ _=>by decide,λ _ _=>by decide⟩
   ·exact ⟨by decide,λ _ _=>by decide,λ _ _=>by decide⟩
   ·exact ⟨by decide,λ _ _=>by decide,λ _ _=>by decide⟩
  ·have e:called a i=GE (Y1 "m") (1+i):=if_pos b;rw [<- e];exact q
 ·refine BR (by rw [EY];exact decide_eq_false b) ?_
  have e:called a i=Gg ((a / 24+5 * i) % 26) (a / 3 % 5) (a % 4):=if_neg b;rw [e] at q;have g:(Y1 "lens").length<=Y7:=by decide+kernel
  refine ⟨_,rfl,_,_,rfl,rfl,⟨(by show (0:Int) < 3;decide),(by show (3:Int) < 1073741824;decide)⟩,_,_,rfl,rfl,(by show (0:Int) < 5;decide),?_⟩
  refine ⟨_,rfl,_,rfl,_,rfl,g,_,rfl,_,_,rfl,rfl,?_,?_⟩
  ·exact U1 (show _+1<=5 by omega) (by decide)
  refine ⟨_,rfl,_,rfl,_,rfl,_,rfl,_,_,rfl,rfl,(by show (0:Int) < 4;decide),_,_,rfl,rfl,_,rfl,_,rfl,g,_,_,rfl,rfl,?_,q⟩
  refine U1 (m:=9) ?_ (by decide)
  rw [<- Lib.Fv,BV,X9,Lib.Fv,Lib.Fv];show _+1+_<=9;omega
theorem lZ (T:Txt K mg ad):CalB P w K mg base true 6 "_law_benches" ["_law_drawn_here","_law_many","_law_least"] (wU K):=by
 refine T.Uo.calN Gu (λ _ _ _ _ _ _=>Gb λ _ _ _=>rfl) (λ vs H Q E I=>?_) (λ f j5 A outer s H vs Q E b9 I=>?_)
 ·obtain ⟨_,_,_,_,rfl,_⟩:=I;rfl
 obtain ⟨d,c,e9,d3,rfl,j9,hd,q⟩:=I;refine ⟨_,(Ae (Ar (i:=3) Gu.nd (Bu Aa)) (Ae (Dm Xs rfl (IW rfl T.range (Ac (pv 1) Aa)) (Bc (i:=4) Gu.nd) (Ae (Ar (i:=5) Gu.nd (Bu Aa)) (Ae (Dm Xs rfl (IW rfl T.range (Bf (Ak CJ (pv 2) (Ah (Lf T) b9.m Ag (Ac (pv 0) (BP Ab Aa)))) Aa)) (Bc (i:=6) Gu.nd) (Ae (Ar (i:=7) Gu.nd (Ah (qb T) b9.m Ag (Ac (pv 0) (BP CQ Aa)))) (Ae (Aw (PW.pt (pw_and (Az Bp (Ad ix_tup (pv 7) Ab) BJ) (pw_and1 (Az HY (Ah (Lf T) b9.m Ag (Ac (pv 0) (BP Ab Aa))) Ab)))) (Ae (Ar (i:=8) Gu.nd (Ah (Q8 T) b9.m Ag (Ao (Ad ix_tup (pv 7) Ab) (Do (Bk (BP Ab (BP Ab Aa))) Aa)))) (Af (Ar (i:=7) Gu.nd (Bk (BP BJ (Ac (pv 8) (BL (Ah (M5 T) b9.m Ag (Ao (Ad ix_tup (pv 7) Ab) (Do (Bk (BP Ab (BP Ab Aa))) Aa))) Aa))))))) Ax) (Af (Cw (CT WB WH WI Ga (pv 5) (Ac (pv 7) Aa))))))) (Af (Cw (CT WB WH WI Ga (pv 3) (Ac (pv 5) Aa))))))) (Af (Am (pv 3))))),?_⟩
 refine ⟨(by show 0<=Y7;decide),λ g J=>?_⟩
 have u0:=Aj J (.lst ([]:List V));have a7:g≠d:=hd.nd J;have a8:g≠c:=hd.nc J;have d7:=hd.keep u0;have d8:upd H g (.lst ([]:List V)) g=some (.lst []):=Al;have f7:SE d c H (upd H g (.lst ([]:List V))):=u0.se d c;generalize upd H g (.lst ([]:List V))=k0 at u0 d7 d8 f7 ⊢;refine ⟨_,rfl,(d3:Int),rfl,by omega,by omega,?_⟩
 rw [yT];refine IK (lo:=0) (n:=d3) (λ i Z l=>(∃f0 f1 a0 a1 a2,Z=[some (.ref d),some (.int (d3:Int)),some (.int 0),some (.ref g),f0,f1,a0,a1,a2])/\DrG l d c (e9+400 - i * 120)/\SE d c H l/\∃(bs:List Addr) (h:List (List Pc)),bs.length=i/\l g=some (.lst (bs.map V.ref))/\BnL K l bs h/\(∀b∈bs,H b=none/\b≠g)/\∀ps∈h,OkS ps) ⟨⟨_,_,_,_,_,rfl⟩,d7.le (by omega),f7,[],[],rfl,d8,⟨rfl,λ i b ps I=>nomatch I⟩,(λ b B=>nomatch B),λ ps a3=>nomatch a3⟩ ?_ ?_
 ·rintro i Z d4 a4 ⟨⟨f0,f1,a0,a1,a2,rfl⟩,L,d5,bs,h,f2,a9,M,bn,c0⟩
  refine ⟨(by show 0<=Y7;decide),λ lb x=>?_⟩
  have c1:=Aj x (.lst ([]:List V));have N:lb≠d:=L.nd x;have O:lb≠c:=L.nc x;have c2:lb≠g:=λ e=>by rw [e,a9] at x;cases x
  have f8:∀b∈bs,b≠lb:=λ b B e=>by
   obtain ⟨j,f9⟩:=List.getElem?_of_mem B;have g0:j < h.length:=by rw [<- M.1];exact CK f9
   obtain ⟨xs,R,_⟩:=M.2 j b _ f9 (YO g0);rw [e,x] at R;cases R
  have d9:H lb=none:=by
   cases e:H lb with
   | none=>rfl
   | some o=>have:=d5 lb o N O e;rw [x] at this;cases this
  have c3:=L.keep c1;have e0:upd d4 lb (.lst ([]:List V)) lb=some (.lst []):=Al;have e1:=c1 _ _ a9;have g1:=d5.trans (c1.se d c);have e2:=M.keep c1;generalize upd d4 lb (.lst ([]:List V))=k1 at c1 c3 e0 e1 g1 e2 ⊢;refine ⟨_,rfl,_,rfl,d,c,e9+400 - i * 120 - 1,7,rfl,c3.le (by omega),by decide,λ m k2 k3 k4 g2 d6=>?_⟩
  refine ⟨_,_,rfl,rfl,_,rfl,by omega,by omega,?_⟩
  have a5:∀b∈bs,b≠d/\b≠c:=λ b B=>⟨hd.nd (bn b B).1,hd.nc (bn b B).1⟩
  refine IK (lo:=0) (n:=(0+m).toNat) (λ G Z l=>(∃a0 a1 a2,Z=[some (.ref d),some (.int (d3:Int)),some (.int 0),some (.ref g),some (.int (0+(i:Int))),some (.ref lb),a0,a1,a2])/\DrG l d c (e9+400 - i * 120 - 1 - G * 17)/\SE d c H l/\l g=some (.lst (bs.map V.ref))/\BnL K l bs h/\∃xs ps,l lb=some (.lst xs)/\DVs K l xs (List.map Bh ps)/\ps.length=G/\∀p∈ps,DN p/\p.fd 12 17) ⟨⟨_,_,_,rfl⟩,g2.le (by omega),g1.trans d6,d6 _ _ a7 a8 e1,e2.se c3 d6 a5,[],[],d6 _ _ N O e0,.nil,rfl,λ p a3=>nomatch a3⟩ ?_ ?_
  ·rintro G Z f3 j6 ⟨⟨a0,a1,a2,rfl⟩,S,f4,C,c4,xs,ps,c5,b0,e3,c6⟩
   have k5:G < 7:=by omega
   have k6:i < 3:=by omega
   refine ⟨_,rfl,d,c,e9+400 - i * 120 - 1 - G * 17 - 15,false,rfl,S.le (by omega),λ v g3 p D c7 hv e4 c8=>?_⟩
   have b1:∀(u:V) (a:Hp) (b6:Pc),DrG a d c (e9+400 - i * 120 - 1 - (G+1) * 17)->SE d c H a->a g=some (.lst (bs.map V.ref))->BnL K a bs h->a lb=some (.lst xs)->DV K a u (Bh b6)->DVs K a xs (List.map Bh ps)->(DN b6/\b6.fd 12 17)->DrG (upd a lb (.lst (xs++[u]))) d c (e9+400 - i * 120 - 1 - (G+1) * 17)/\SE d c H (upd a lb (.lst (xs++[u])))/\upd a lb (.lst (xs++[u])) g=some (.lst (bs.map V.ref))/\BnL K (upd a lb (.lst (xs++[u]))) bs h/\∃e5 c9,upd a lb (.lst (xs++[u])) lb=some (.lst e5)/\DVs K (upd a lb (.lst (xs++[u]))) e5 (List.map Bh c9)/\c9.length=G+1/\∀p∈c9,DN p/\p.fd 12 17:=by
    intro u a b6 b2 U b3 b4 k i4 b5 g4;have W:SD lb a (upd a lb (.lst (xs++[u]))):=N5;have st:G8 a (upd a lb (.lst (xs++[u]))):=W.t k;refine ⟨b2.keepD W N.symm O.symm,λ b o n m e=>by rw [BK (Bq e d9)];exact U b o n m e,by rw [BK c2.symm];exact b3,b4.sd k W f8,_,ps++[b6],Al,?_,by rw [X9,e3];rfl,λ p a3=>?_⟩
    ·rw [ZH];exact DVs.append (Eg st (Eu Kz ps) b5) (.cons (G9 st (Kz b6) i4) .nil)
    ·rcases XO.mp a3 with I | I
     ·exact c6 p I
     ·rw [U0.mp I];exact g4
   have b7:xs.length < Y7:=small1000 (by have:=b0.len;rw [Y3] at this;omega)
   have d0:=f4.trans c7;have d1:=c7 _ _ a7 a8 C;have z:=c7 _ _ N O c5;have d2:=Eg (S.t c7) (Eu Kz ps) b0;have X:=c4.se S c7 a5;have a6:DN _/\_:=⟨Yd e4 c8 (by decide),vH c8⟩
   cases p with
   | gap k7=>
    obtain ⟨tt,g5,rfl,ht,Y⟩:=DV.tup_of hv;obtain ⟨g6,g7,rfl,R,g8⟩:=Y.two;obtain rfl:=DV.str_of R;refine ⟨_,rfl,tt,_,_,_,rfl,rfl,ht,Ek,rfl,_,rfl,BR (by rw [By];exact decide_eq_false (by decide+kernel)) (iteF ?_)⟩
    exact ⟨_,rfl,.inl ⟨rfl,_,SqL.of z⟩,_,rfl,lb,_,_,rfl,rfl,z,b7,⟨_,_,_,rfl⟩,b1 _ g3 _ (D.le (by omega)) d0 d1 X z hv d2 a6⟩
   | glass k7=>
    obtain ⟨tt,g5,rfl,ht,Y⟩:=DV.tup_of hv;obtain ⟨g6,g7,rfl,R,g8⟩:=Y.two;obtain rfl:=DV.str_of R;refine ⟨_,rfl,tt,_,_,_,rfl,rfl,ht,Ek,rfl,_,rfl,BR (by rw [By];exact decide_eq_false (by decide+kernel)) (iteF ?_)⟩
    exact ⟨_,rfl,.inl ⟨rfl,_,SqL.of z⟩,_,rfl,lb,_,_,rfl,rfl,z,b7,⟨_,_,_,rfl⟩,b1 _ g3 _ (D.le (by omega)) d0 d1 X z hv d2 a6⟩
   | stop lo a4=>
    obtain ⟨tt,g5,rfl,ht,Y⟩:=DV.tup_of hv;obtain ⟨g6,g7,k8,rfl,R,g8,k9⟩:=Y.three;obtain rfl:=DV.str_of R;refine ⟨_,rfl,tt,_,_,_,rfl,rfl,ht,Ek,rfl,_,rfl,Bg (by rw [By];exact decide_eq_true rfl) ?_⟩
    refine ⟨_,rfl,d,c,e9+400 - i * 120 - 1 - G * 17 - 16,3,rfl,D.le (by omega),by decide,λ y a l0 l1 b2 U=>?_⟩
    have e6:=d0.trans U;have b3:=U _ _ a7 a8 d1;have k:=U _ _ N O z;have b5:=Eg (D.t U) (Eu Kz ps) d2;have b4:=X.se D U a5;have e7:=D.dv U hv;refine ⟨_,_,rfl,rfl,_,rfl,ite2 (λ i5=>?_) (λ i5=>?_)⟩
    ·obtain ⟨t',j7,e,e8,f5⟩:=DV.tup_of e7;cases e
     obtain ⟨l2,l3,l4,rfl,l5,i6,i7⟩:=f5.three;have b:Bd 12 lo/\Bd 12 a4:=c8;have g9:Ai 9=.tuple [.int 9,.int 1]:=rfl;have b8:Bd 4 (9:Rat):=⟨by decide,by decide⟩
     refine ⟨_,rfl,tt,_,_,_,rfl,rfl,e8,rfl,(by show 2<=Y7;decide),λ h0 h1=>?_⟩
     have h2:=Aj h1 (.tup [.int 9,.int 1]);have i8:DV K (upd a h0 (.tup [.int 9,.int 1])) (.ref h0) (Ai 9):=by rw [g9];exact .tup (SqT.of Al) (.cons (.int 9) (.cons (.int 1) .nil))
     refine ⟨_,_,.cons (i6.keep h2) (.cons i8 .nil),⟨lo,9,rfl,b.1.sm (by decide),b8.sm (by decide),rfl⟩,λ h3 i9 j0 j1=>?_⟩
     have h4:=h2.trans j0;refine ⟨_,rfl,_,rfl,tt,_,_,_,rfl,rfl,e8.keep h4,rfl,(by show 2<=Y7;decide),λ h5 h6=>?_⟩
     have h7:=Aj h6 (.tup [.int 9,.int 1]);have h8:=h4.trans h7;have j2:DV K (upd i9 h5 (.tup [.int 9,.int 1])) (.ref h5) (Ai 9):=by rw [g9];exact .tup (SqT.of Al) (.cons (.int 9) (.cons (.int 1) .nil))
     refine ⟨_,_,.cons (i7.keep h8) (.cons j2 .nil),⟨a4,9,rfl,b.2.sm (by decide),b8.sm (by decide),rfl⟩,λ h9 j3 i0 j4=>?_⟩
     refine ⟨(by show 3<=Y7;decide),λ r i1=>?_⟩
     have f6:=Aj i1 (.tup [.str (Y1 "stop"),h3,h9]);have u:=(h8.trans i0).trans f6;have i2:DV K (upd j3 r (.tup [.str (Y1 "stop"),h3,h9])) (.ref r) (Bh (.stop (lo - 9) (a4+9))):=.tup (SqT.of Al) (.cons (.str _) (.cons (j1.keep ((h7.trans i0).trans f6)) (.cons (j4.keep f6) .nil)));have j8:¬ a4 < lo:=e4;have i3:(Pc.stop (lo - 9) (a4+9)).ok:=show ¬ a4+9 < lo - 9 by grind
     exact ⟨_,rfl,.inl ⟨rfl,_,SqL.of (u _ _ k)⟩,_,rfl,lb,_,_,rfl,rfl,u _ _ k,b7,⟨_,_,_,rfl⟩,b1 _ _ _ ((b2.keep u).le (by omega)) (e6.trans (u.se d c)) (u _ _ b3) (b4.keep u) (u _ _ k) i2 (b5.keep u) ⟨Yd i3 ⟨b.1.sub b8,b.2.add b8⟩ (by decide),(b.1.sub b8).mono (by decide),(b.2.add b8).mono (by decide)⟩⟩
    ·exact ⟨_,rfl,.inl ⟨rfl,_,SqL.of k⟩,_,rfl,lb,_,_,rfl,rfl,k,b7,⟨_,_,_,rfl⟩,b1 _ a _ (b2.le (by omega)) e6 b3 b4 k e7 b5 a6⟩
  ·rintro Z f3 ⟨⟨a0,a1,a2,rfl⟩,S,f4,C,c4,xs,ps,c5,b0,e3,c6⟩
   have W:SD g f3 (upd f3 g (.lst (bs.map V.ref++[.ref lb]))):=N5;have X:=(c4.sd C W λ b B=>(bn b B).2).snoc (LC (BnA.of c5 b0) (W.t C) λ o e=>W _ _ c2 e)
   have b7:(bs.map V.ref).length < Y7:=small1000 (by rw [Y3];omega)
   refine ⟨_,rfl,.inl ⟨rfl,_,SqL.of C⟩,_,rfl,g,_,_,rfl,rfl,C,b7,⟨_,_,_,_,_,rfl⟩,(S.keepD W a7.symm a8.symm).le (by omega),(λ b o n m e=>by rw [BK (Bq e J)];exact f4 b o n m e),bs++[lb],h++[ps],by rw [X9,f2];rfl,by rw [Al,ZH];rfl,X,λ b B=>?_,λ p a3=>?_⟩
   ·rcases XO.mp B with I | I
    ·exact bn b I
    ·rw [U0.mp I];exact ⟨d9,c2⟩
   ·rcases XO.mp a3 with I | I
    ·exact c0 p I
    ·rw [U0.mp I];exact ⟨by omega,c6⟩
 ·rintro Z d4 ⟨⟨f0,f1,a0,a1,a2,rfl⟩,L,d5,bs,h,f2,a9,M,bn,c0⟩
  exact ⟨_,rfl,q g bs h d4 (L.le (by omega)) d5 J bn a9 f2 M c0⟩
theorem uX (T:Txt K mg ad)(c9:w.params=ad.pr):CalB P w K mg base true 18 "_law_laid" ["_law_drawn_here","_law_number","_law_least"] (jU K ad.Desk):=by
 refine T.Ux.calN Ju (λ _ _ _ _ _ _=>Gb λ _ _ _=>rfl) (λ vs H Q E X=>?_) (λ f d6 A outer s H vs Q E G X=>?_)
 ·obtain ⟨_,_,_,_,rfl,_⟩:=X;rfl
 obtain ⟨q,c,c8,z,rfl,a3,z0,a8,k⟩:=X;have d7:(Y1 "bench ").length=6:=by decide+kernel
 have e3:(Y1 " ").length=1:=by decide+kernel
 refine ⟨_,(Ae (tY (i:=3) Ju.nd rfl (by walk_at "o") ["_law_k","_law_number"] [none,some 1] rfl (IW rfl T.range (BP Ab Aa)) (λ _ _ _ _ _ _=>(Bc (i:=0) (show Uz [("_law_k":Str),("_law_number":Str)] by decide))) (λ _ _ _ _ _ _=>Eb) (λ _ _ _ _ _ _=>(Ah (jT T) G.m Ag (Ac (pv 1) (Ac (pv 0) Aa)))) (lu (hcell:=by decide) (hf:=(show ∀y:Str×QN,y∈_->y.2=up->(defScope Ms).names.lookup y.1=some QN.cell by decide))) (by decide) rfl (by decide) rfl (λ i j X=>by
   rcases i with _ | _ | i
   ·simp at X
   ·simp at X;subst X;exact ⟨_,rfl,rfl,rfl,rfl⟩
   ·simp at X)) (Ae (Ar (i:=4) Ju.nd (Ah (lZ T) G.m Ag (Ac (pv 0) (Bf (Ak CJ Ab (Ah (Lf T) G.m Ag (Ac (pv 0) (BP Ab Aa)))) (Ac (pv 2) Aa))))) (Ae (Ar (i:=5) Ju.nd (vN (ig T) G.m)) (Ae (Dm Xs rfl (IW rfl T.range (BL (Be Cp rfl T.len Ce (Ac (pv 4) Aa)) Aa)) (Bc (i:=6) Ju.nd) (Af (Aw (Az Dk (Bb (k:=16) (pv 5) G.m (Bf (Ak CN (Ak CN (Ak CN BJ (Ad ix_list (pv 3) (pv 6))) BJ) (Ah (uh T) G.m Ag (Ao (Ad ix_list (pv 4) (pv 6)) Aa))) Aa)) BJ) (Af (Am (Bu (BP DX (Ac (pv 3) (Ac (pv 4) Aa)))))) Ax))) (Af (Am (Bu (Ac (pv 5) (Ac (pv 3) (Ac (pv 4) Aa)))))))))),?_⟩
 refine ⟨4,rfl,by decide,by decide,?_⟩
 refine xF (lo:=0) (n:=(4:Int).toNat) (λ i p S h=>(∃c0,p=[c0,some (.int z)])/\S=((WC i).map λ j:Nat=>V.str (called z (j:Nat)))/\h=H) ⟨⟨_,rfl⟩,rfl,rfl⟩ ?_ ?_ ?_
 ·rintro i p S h I ⟨⟨c0,rfl⟩,rfl,rfl⟩
  rw [Y3,List.length_range];exact U1 I (by decide)
 ·rintro i p S h I ⟨⟨c0,rfl⟩,rfl,rfl⟩
  have d8:i < 4:=I;refine ⟨_,rfl,_,rfl,_,_,rfl,z0,a8,by omega,by omega,nx I ⟨⟨_,rfl⟩,?_,rfl⟩⟩
  rw [List.range_succ,ZH,Int.zero_add];rfl
 rintro p S h g ⟨⟨c0,rfl⟩,rfl,rfl⟩ J
 have L:=Aj J (.lst ((WC (4:Int).toNat).map λ j:Nat=>V.str (called z (j:Nat))))
 have a4:(upd h g (.lst ((WC (4:Int).toNat).map λ j:Nat=>V.str (called z (j:Nat))))) g=some (.lst ((WC 4).map λ j:Nat=>V.str (called z (j:Nat)))):=Al
 have Y:g≠q:=a3.nd J;have M:g≠c:=a3.nc J;have N:=a3.keep L;generalize upd h g (.lst ((WC (4:Int).toNat).map λ j:Nat=>V.str (called z (j:Nat))))=e4 at L a4 N ⊢
 refine ⟨_,rfl,_,rfl,q,c,c8+400,2,rfl,N,by decide,λ a9 d0 d9 e0 B b0=>?_⟩
 obtain ⟨m,d1,e5,b1⟩:∃m:Nat,2+a9=(m:Int)/\2<=m/\m<=3:=⟨(2+a9).toNat,by omega,by omega,by omega⟩
 refine ⟨_,_,rfl,rfl,_,rfl,?_⟩;dsimp only
 rw [d1];refine ⟨q,c,c8,m,rfl,b1,B,λ lb bs t d2 C b2 b3 bn Z bl b4 a0=>?_⟩
 have a1:∀b,d0 b=none->b≠q/\b≠c:=λ b v=>⟨B.nd v,B.nc v⟩
 have D:=b0.trans b2;have b5:=D _ _ Y M a4;have a5:=a1 lb b3;refine λ o l no a2 ne=>⟨o,l,rfl,Al,λ d hd=>⟨rfl,?_⟩⟩
 obtain ⟨x,O,F,b6⟩:=AJ7 (K:=K) (q:=[q,c]) no a2 ne hd;generalize upd (upd (upd (upd d2 l (.own o)) o (.ins ad.Desk l [])) d (.dK [])) o (.ins ad.Desk l [("benches",.ref d)])=b7 at x O ⊢;have a:Ly73 K b7 ad.Desk o l d g lb q c c8 (λ _=>none) 0 z bs t:=⟨C.keep x,O,x _ _ b5,x _ _ Z,b4.keep x,λ j ps d3=>absurd d3 (by omega)⟩
 have b8:SE q c h b7:=(L.se q c).trans (D.trans (x.se q c));have b9:∀b∈bs,b≠q/\b≠c:=λ b v=>a1 b (bn b v).1
 have c1:h d=none:=by
  cases e:h d with
  | none=>rfl
  | some o=>
   have:=D _ _ (C.nd F) (C.nc F) (L _ _ e);rw [F] at this;cases this
 clear x O F b6 hd no a2 ne D C B N b0 b2 a4 b5 L b4 Z;refine ⟨_,rfl,lb,_,rfl,.inl (SqL.of a.hl),_,rfl,by omega,by rw [Y3];omega,?_⟩
 rw [yT,Y3,bl];refine IK (lo:=0) (n:=m) (λ i p U=>∃(a6:Option V) (c2:CP),p=[some (.ref q),some (.int z),some (.int 0),some (.ref g),some (.ref lb),some (.ref o),a6]/\Ly73 K U ad.Desk o l d g lb q c c8 c2 i z bs t/\SE q c h U) ⟨_,_,rfl,a,b8⟩ ?_ ?_
 ·rintro i p U I ⟨a6,c2,rfl,a,sx⟩
  have v:i < bs.length:=by omega
  have d4:i < t.length:=by rw [<- a.bl.1];exact v
  have a7:=YO v;have W:=YO d4;generalize bs[i]=b at a7;generalize t[i]=ps at W;have c3:=a.bl.2 i b ps a7 W;have ok:=a0 ps (ZN W);have nm:Nm (called z i):=Xr z (by omega) (by omega)
  have e6:=Pg (U1 ok.1 (by decide)) ok.w.sh
  have e1:((WC 4).map λ k=>V.str (called z (k:Nat)))[i]?=some (.str (called z i)):=by
   rw [Ya,List.getElem?_range (by omega)]
   rfl
  have e2:(bs.map V.ref)[i]?=some (.ref b):=by rw [Ya,a7];rfl
  have a8:=nm.len;refine ⟨_,rfl,o,_,l,_,_,_,rfl,a.ds.o,rfl,aD T c9,?_⟩;rw [Int.zero_add];refine ⟨_,rfl,_,rfl,g,_,_,_,rfl,rfl,SqL.of a.nm,Bm e1,_,_,rfl,rfl,Br (by omega),_,_,rfl,rfl,Br (by rw [Ck];omega),?_⟩
  refine ⟨_,rfl,_,rfl,lb,_,_,_,rfl,rfl,SqL.of a.hl,Bm e2,.ref b,ps,rfl,c3.dv,U1 ok.1 (by decide),ok.w.pbig,λ e7 c4=>?_⟩
  refine ⟨_,_,rfl,rfl,(by rw [Ck,Ck];exact U1 (show _<=20100 by omega) (by decide)),?_⟩
  have R:=a.keep c4;refine ⟨o,l,d,[q,c],called z i,c2,i,ps,rfl,R.ds,R.there,by omega,nm,ok.w,λ e8 c5 c6=>?_⟩
  refine ⟨rfl,_,rfl,BR (by decide+kernel) ?_⟩
  exact ⟨_,_,rfl,R.next W (by omega) c5 c6,λ b o n d5 e=>c5 _ _ (Bq e c1) (c4 _ _ (sx b o n d5 e))⟩
 ·rintro p U ⟨a6,c2,rfl,a,sx⟩
  refine ⟨_,rfl,_,rfl,_,rfl,(by show 3<=Y7;decide),λ r c7=>?_⟩
  have u:=Aj c7 (.lst [.ref o,.ref g,.ref lb]);have a:=a.keep u;exact k r o l d g lb c2 m bs t _ (sx.trans (u.se q c)) Al b1 ⟨a.dr,a.ds,a.nm,a.hl,⟨⟨Y,M⟩,a5⟩,a.bl,b9,by omega,a0,λ j ps e=>a.sx j ps (by have:=CK e;rw [<- a.bl.1] at this;omega) e⟩
theorem aQ (T:Txt K mg ad):CalB P w K mg base true 3 "_law_row" ["_law_parts"] (ZX K):=by
 refine T.Vj.calN iw (λ _ _ _ _ _ _=>Bl λ _=>rfl) (λ vs H Q E b=>?_) (λ f h A outer s H vs Q E d b=>?_)
 ·obtain ⟨_,_,rfl,_⟩:=b;rfl
 obtain ⟨v,qs,rfl,hv,big,a,q⟩:=b;refine ⟨_,(Af (Am (CT ZU US UU Ie BJ (Cm (Ej ["_law_part_here"] [none] rfl (ZW (pv 0)) (λ _ _ _ _ _=>(Bc (i:=0) (show Uz [("_law_part_here":Str)] by decide))) (λ _ _ _ _ _=>Eb) (λ _ _ _ _ _=>(Ah (Rc T) d.m Ag (Ac (pv 0) Aa))) (Ds (by decide) (by decide)) (by decide) rfl (by decide) rfl (Dt rfl)) Aa)))),?_⟩
 exact ⟨rfl,bW hv big a λ p j e g=>⟨_,p,qs.map Aq,rfl,rfl,g,gO big a,q _ e⟩⟩
theorem Z9 (T:Txt K mg ad):CalB P w K mg base true 1 "_law_read" ["_law_word"] (sV K):=by
 refine T.QL.calN YQ (λ _ _ _ _ _ _=>Bl λ _=>rfl) (λ vs H Q E t=>?_) (λ f y A outer s H vs Q E z t=>?_)
 ·obtain ⟨_,rfl,_⟩:=t;rfl
 obtain ⟨q,rfl,r,k⟩:=t;refine ⟨_,(Ae (Ar (i:=1) YQ.nd (CT ZU XI XZ Fe (pv 0) (BP BJ Aa))) (Ae (Aw (Az Bp (Be Cp rfl T.len Ce (Ac (pv 1) Aa)) Ab) (Af (Am (Bk (BL (Fp Jt rfl T.int Gs (Ao (Ad ix_list (pv 1) Ab) Aa)) (BL (Fp Jt rfl T.int Gs (Ao (Ad ix_list (pv 1) Ab) Aa)) Aa))))) Ax) (Af (Am (Bk (BL (Fp Jt rfl T.int Gs (Ao (Ad ix_list (pv 1) Ab) Aa)) (BP Ab Aa))))))),?_⟩;refine ⟨_,rfl,rfl,_,_,rfl,rfl,rfl,U1 (JA (JT r) 2) (by decide),λ d l=>?_⟩
 rcases wD r with ⟨a,e,u,m,n⟩ | ⟨a,b,e,m,lb,n,v⟩
 ·rw [e];have h:=Aj l (.lst [.str a]);have g:upd H d (.lst [.str a]) d=some (.lst [.str a]):=Al;show tSeq _ _ _ _ (upd H d (.lst [.str a]));generalize upd H d (.lst [.str a])=x at h g ⊢;refine ⟨_,rfl,d,_,rfl,.inl (SqL.of g),rfl,_,rfl,BR rfl ?_⟩;refine ⟨_,rfl,d,_,_,.str a,rfl,rfl,SqL.of g,Bm (j:=0) rfl,a,_,rfl,m,n,(by show 2<=Y7;decide),λ p o=>k _ _ (h.trans (Aj o _)) ?_⟩
  show DV K _ _ (.tuple [.int q.num,.int (q.den:Int)]);rw [u];exact .tup (SqT.of Al) (.cons (.int _) (.cons (.int _) .nil))
 ·rw [e];have h:=Aj l (.lst [.str a,.str b]);have g:upd H d (.lst [.str a,.str b]) d=some (.lst [.str a,.str b]):=Al;show tSeq _ _ _ _ (upd H d (.lst [.str a,.str b]));generalize upd H d (.lst [.str a,.str b])=x at h g ⊢;refine ⟨_,rfl,d,_,rfl,.inl (SqL.of g),rfl,_,rfl,Bg rfl ?_⟩;refine ⟨_,rfl,d,_,_,.str a,rfl,rfl,SqL.of g,Bm (j:=0) rfl,a,_,rfl,m,n,_,rfl,d,_,_,.str b,rfl,rfl,SqL.of g,Bm (j:=1) rfl,b,_,rfl,lb,v,(by show 2<=Y7;decide),λ p o=>k _ _ (h.trans (Aj o _)) ?_⟩
  exact .tup (SqT.of Al) (.cons (.int _) (.cons (.int _) .nil))
theorem Kd (T:Txt K mg ad):CalB P w K mg base true 3 "_law_read_all" ["_law_text_here"] (um K):=by
 refine T.Va.calN oG (λ _ _ _ _ _ _=>Bl λ _=>rfl) (λ vs H Q E B=>?_) (λ f J A outer s H vs Q E C B=>?_)
 ·obtain ⟨_,rfl,_⟩:=B;rfl
 obtain ⟨qs,rfl,n,D,o,k⟩:=B;refine ⟨_,(Af (Am (Ej ["_law_word"] [none] rfl (DY (CT ZU XI XZ Fe (pv 0) (BP BJ Aa))) (λ _ _ _ _ _=>(Bc (i:=0) (show Uz [("_law_word":Str)] by decide))) (λ _ _ _ _ _=>Eb) (λ _ _ _ _ _=>(Ah (Z9 T) C.m Ag (Ac (pv 0) Aa))) (Ds (by decide) (by decide)) (by decide) rfl (by decide) rfl (Dt rfl)))),?_⟩
 refine ⟨_,rfl,rfl,_,_,rfl,rfl,rfl,U1 (JA (O4 o D) 2) (by decide),λ g r=>?_⟩
 rw [oK n];have t:=Aj r (.lst ((qs.map Aq).map V.str));have l:upd H g (.lst ((qs.map Aq).map V.str)) g=some (.lst ((qs.map Aq).map V.str)):=Al;generalize upd H g (.lst ((qs.map Aq).map V.str))=G at t l ⊢;refine ⟨g,rfl,⟨_,SqL.of l⟩,?_⟩;refine HQ (K:=K) (a:=g) (xs:=(qs.map Aq).map V.str) (λ i j d h=>(∃c0,j=[c0])/\Same G h/\DVs K h d ((qs.take i).map Ai)) ⟨⟨_,rfl⟩,Same.refl _,.nil⟩ ?_ ?_ ?_
 ·rintro i j d h b ⟨⟨c0,rfl⟩,s',dv⟩
  have:=dv.len;rw [Y3,XE] at this;exact ⟨XP (small1000 (by omega)),SqL.of (s' _ _ l)⟩
 ·rintro i x j d h b ⟨⟨c0,rfl⟩,s',dv⟩
  obtain ⟨q,y,rfl⟩:∃q,qs[i]?=some q/\x=.str (Aq q):=by
   rw [Ya,Ya] at b;cases e:qs[i]? with
   | none=>rw [e] at b;cases b
   | some q=>rw [e] at b;cases b;exact ⟨q,rfl,rfl⟩
  refine ⟨_,rfl,q,rfl,o q (ZN y),λ v L z hv=>nx (CK b) ⟨⟨_,rfl⟩,s'.trans z,?_⟩⟩
  rw [XV,y,ZH];exact (dv.keep z).append (.cons hv .nil)
 ·rintro j d h p ⟨⟨c0,rfl⟩,s',dv⟩ I
  rw [Y3,Y3,WA] at dv;have u:=Aj I (.lst d);exact k p d _ (t.trans (s'.trans u)) Al (dv.keep u)
theorem Wz (T:Txt K mg ad):CalB P w K mg base true 1 "_law_is_short" ["_law_parts"] (wj K):=by
 refine T.Wo.calN yF (λ _ _ _ _ _ _=>Bl λ _=>rfl) (λ vs H Q E j=>?_) (λ f U A outer s H vs Q E J j=>?_)
 ·obtain ⟨_,_,rfl,_⟩:=j;rfl
 obtain ⟨v,qs,rfl,hv,W,k⟩:=j;obtain ⟨a,xs,rfl,t,o⟩:=DV.lst_of hv;have y:CPow 10 14:=⟨by decide,by decide,by decide⟩
 refine ⟨_,(Af (Am (Dq (Gn J.units) (Ej ["_law_part_here"] [none] rfl (DY (pv 0)) (λ _ _ _ _ _=>(Bc (i:=0) (show Uz [("_law_part_here":Str)] by decide))) (λ _ _ _ _ _=>(dY (Az dX (Be (kI rfl) rfl T.max pH (BL (Be Iw rfl T.abs Iz (Ao (Ad (W0 (K:=K)) (pv 0) Ab) Aa)) (Ao (Ad (W0 (K:=K)) (pv 0) Ab) Aa))) (Ak N6 Ab Ab)))) (λ _ _ _ _ _=>(pv 0)) (Ds (by decide) (by decide)) (by decide) rfl (by decide) rfl (Dt rfl)) (Bu Aa)))),?_⟩
 refine ⟨_,rfl,a,rfl,⟨_,t⟩,?_⟩;refine XC (K:=K) (a:=a) (xs:=xs) (λ i m g h=>(∃c0,m=[c0])/\h=H/\DVs K H g (((qs.take i).filter λ q=>!Dz q).map Ai)) ⟨⟨_,rfl⟩,rfl,.nil⟩ ?_ ?_ ?_
 ·rintro i m g h n ⟨⟨c0,rfl⟩,rfl,dv⟩
  have:=dv.len;have L:=QP (λ q=>!Dz q) (qs.take i)
  rw [Y3] at this;rw [XE] at L;exact ⟨XP (small1000 (by omega)),t⟩
 ·rintro i x m g h n ⟨⟨c0,rfl⟩,rfl,dv⟩
  obtain ⟨d,hd,z⟩:=o.get n;rw [Ya] at hd;obtain ⟨q,M,rfl⟩:=wS.mp hd;obtain ⟨b,rfl,B⟩:=z.fr;refine ⟨_,rfl,b,_,_,_,rfl,rfl,B,rfl,_,rfl,_,rfl,b,_,_,_,rfl,rfl,B,rfl,_,_,rfl,_,_,rfl,rfl,y,?_⟩;refine ⟨_,_,rfl,rfl,_,rfl,?_⟩;have C:=qC q;have r:(qs.take (i+1)).filter (λ q=>!Dz q)=(qs.take i).filter (λ q=>!Dz q)++if (!Dz q)=true then [q] else []:=by
   rw [XV,M,wc];cases e:Dz q with
   | true=>simp [e]
   | false=>simp [e]
  show if decide (_<=_)=true then _ else _
  refine ite2 (λ c1=>?_) (λ c1=>?_)
  ·have c1:(!Dz q)=true:=C.symm.trans c1;refine ⟨_,rfl,nx (CK n) ⟨⟨_,rfl⟩,rfl,?_⟩⟩;rw [r,if_pos c1,ZH];exact dv.append (.cons z .nil)
  ·have c1:¬ (!Dz q)=true:=λ j=>c1 (C.trans j)
   refine nx (CK n) ⟨⟨_,rfl⟩,rfl,?_⟩;rw [r,if_neg c1,WJ];exact dv
 ·rintro m g h p ⟨⟨c0,rfl⟩,rfl,dv⟩ N
  have O:xs.length=qs.length:=by have:=o.len;rw [Y3] at this;exact this
  rw [O,WA] at dv;have u:=Aj N (.lst g);have D:DV K (upd h p (.lst g)) (.ref p) (.list ((qs.filter λ q=>!Dz q).map Ai)):=.lst (SqL.of Al) (dv.keep u)
  generalize upd h p (.lst g)=R at u D ⊢;refine ⟨(by show 0<=Y7;decide),λ F G=>?_⟩
  have I:=Aj G (.lst ([]:List V));have S:DV K (upd R F (.lst ([]:List V))) (.ref F) (.list []):=.lst (SqL.of Al) .nil;refine jQ (D.keep I) S (JF (Qc GQ _)) (k _ _ (u.trans I) ?_);rw [nj];cases qs.filter (λ q=>!Dz q) with
  | nil=>exact ⟨λ _=>rfl,λ _=>rfl⟩
  | cons a l=>exact ⟨λ j=>(by cases j),λ j=>(by cases j)⟩
theorem pJ (T:Txt K mg ad)(a:w.params=ad.pr):MC P w K mg base 16 ad.Desk "say" ["self","row"] (Ip K ad.Desk (Y1 "walk") 2 iK):=K7 T a ⟨_,by unfold valV DQ;rfl,λ H=>T.ex.s_ROWS_walk H⟩ (by decide) (by decide+kernel) (by decide+kernel) (by decide+kernel) (by decide+kernel) (by decide+kernel) (by unfold valV DQ;rfl) T.ex.f_ANSWERS_walk (wV T)
theorem AJ1 (T:Txt K mg ad)(a:w.params=ad.pr):MC P w K mg base 16 ad.Desk "say" ["self","row"] (Ip K ad.Desk (Y1 "image") 1 aq):=K7 T a ⟨_,by unfold valV DQ;rfl,λ H=>T.ex.s_ROWS_image H⟩ (by decide) (by decide+kernel) (by decide+kernel) (by decide+kernel) (by decide+kernel) (by decide+kernel) (by unfold valV DQ;rfl) T.ex.f_ANSWERS_image (o4 T)
theorem G4 (T:Txt K mg ad)(a:w.params=ad.pr):MC P w K mg base 16 ad.Desk "say" ["self","row"] (Ip K ad.Desk (Y1 "table") 0 fC):=K7 T a ⟨_,by unfold valV DQ;rfl,λ H=>T.ex.s_ROWS_table H⟩ (by decide) (by decide+kernel) (by decide+kernel) (by decide+kernel) (by decide+kernel) (by decide+kernel) (by unfold valV DQ;rfl) T.ex.f_ANSWERS_table (pW T)
theorem AL1 (T:Txt K mg ad)(a:w.params=ad.pr):MC P w K mg base 16 ad.Desk "say" ["self","row"] (Ip K ad.Desk (Y1 "apart") 0 aM):=K7 T a ⟨_,by unfold valV DQ;rfl,λ H=>T.ex.s_ROWS_apart H⟩ (by decide) (by decide+kernel) (by decide+kernel) (by decide+kernel) (by decide+kernel) (by decide+kernel) (by unfold valV DQ;rfl) T.ex.f_ANSWERS_apart (vZ T)
theorem dU (T:Txt K mg ad)(a:w.params=ad.pr):MC P w K mg base 16 ad.Desk "say" ["self","row"] (Ip K ad.Desk (Y1 "rounds") 0 aY):=K7 T a ⟨_,by unfold valV DQ;rfl,λ H=>T.ex.s_ROWS_rounds H⟩ (by decide) (by decide+kernel) (by decide+kernel) (by decide+kernel) (by decide+kernel) (by decide+kernel) (by unfold valV DQ;rfl) T.ex.f_ANSWERS_rounds (uq T)
theorem g8 (T:Txt K mg ad)(I:w.params=ad.pr):CalB P w K mg base true 18 "_law_sent" ["_law_desk","_law_name","_law_ray"] (yO K ad.Desk):=by
 refine T.Wk.calN ZJ (λ _ _ _ _ _ _=>Gb λ _ _ _=>rfl) (λ vs H Q E J=>?_) (λ f M A outer s H vs Q E h J=>?_)
 ·obtain ⟨_,_,_,_,_,_,_,_,_,_,_,rfl,_⟩:=J;rfl
 obtain ⟨o,C,d,q,x,O,n,ps,v,y,u,rfl,a,nx,sx,hv,b,g,k⟩:=J;have R:=nx.len;have S:(Y1 "walk ").length=5:=by decide+kernel
 have U:(Y1 " ").length=1:=by decide+kernel
 have D:=all2 (GJ b) (GJ g);have V:=O4 D (by show 2<=5;decide)
 have sh:∀q∈[y,u],Short q:=λ q j=>by
  rcases W4.mp j with rfl | j
  ·exact b
  ·rw [U0.mp j];exact g
 have W:=nW (a.ok sx) (W2 b g);have lb:=Ws (a.ok sx) (W2 b g);have N:=(a.ok sx).1;refine ⟨_,(Ae (Ar (i:=3) ZJ.nd (Bb (k:=16) (pv 0) h.m (Bf (Ak CN (Ak CN (Ak CN BJ (pv 1)) BJ) (Ah (aQ T) h.m Ag (Ac (pv 2) Aa))) Aa))) (Ae (Aw (Az Bp (DP Hf (pv 3) Dh (CZ Ab)) BJ) (Af (Am (Bu (BP DX (BL (Ah (Kd T) h.m Ag (Ao (DP Hf (pv 3) (CZ Ab) Dh) Aa)) Aa))))) Ax) (Af (Am (Bu (BL (Fp Jt rfl T.int Gs (Ao (DP Hf (pv 3) (CZ Ab) Dh) Aa)) (BP DX Aa))))))),?_⟩
 refine ⟨_,rfl,o,_,C,_,_,_,rfl,a.o,rfl,pJ T I,_,rfl,_,_,rfl,rfl,Br (by omega),_,_,rfl,rfl,Br (by rw [Ck];omega),?_⟩
 refine ⟨_,rfl,v,[y,u],rfl,.inl hv,D,by show 2<=60;decide,λ X r=>?_⟩
 refine ⟨_,_,rfl,rfl,Br (by rw [Ck,Ck];omega),?_⟩
 rw [Xu (u:=Y1 "walk") (by decide+kernel)]
 refine ⟨o,C,d,q,x,O,n,ps,[y,u],_,rfl,a.keep r,nx,sx,rfl,sh,(λ e=>absurd e (by decide+kernel)),⟨y,u,rfl,b,g,rfl⟩,λ Y F=>?_⟩
 refine ⟨_,rfl,_,rfl,_,rfl,Br (by omega),rfl,_,rfl,?_⟩
 rw [By];cases e:(walk ps (y,u)).2 with
 | none=>
  refine Bg (decide_eq_true ((dj ps (y,u)).mpr e)) ?_;have t:Fb ps (y,u)=Y1 "by "++Di [(BW ps (y,u)).1,(BW ps (y,u)).2]:=by unfold Fb;rw [e]
  refine ⟨_,rfl,_,rfl,_,rfl,Br (by omega),?_⟩
  rw [t,xU];refine ⟨[(BW ps (y,u)).1,(BW ps (y,u)).2],rfl,by simp,by show 2<=5;decide,all2 lb.1 lb.2,λ l xs Z L hl G=>⟨(by show 2<=Y7;decide),λ p z=>?_⟩⟩
  have B:=Aj z (.lst [.non,.ref l]);refine k p _ _ (r.trans (F.trans (L.trans B))) Al ?_;rw [Hh e];exact .cons .non (.cons (.lst (SqL.of (B _ _ hl)) (G.keep B)) .nil)
 | some m=>
  refine BR (decide_eq_false λ a0=>by have:=(dj ps (y,u)).mp a0;rw [e] at this;cases this) ?_
  have t:Fb ps (y,u)=Y1 "stopped "++HN m:=by unfold Fb;rw [e]
  have a1:=(Uq e).1;refine ⟨_,rfl,_,rfl,_,rfl,Br (by omega),?_⟩
  rw [t,jm];have a2:=di (fD (n:=m) (by omega))
  refine ⟨HN m,(m:Int),rfl,by omega,Lk (by rw [Ym,if_neg (by omega),JO,XW]) (by omega),(by show 2<=Y7;decide),λ p z=>?_⟩
  refine k p _ _ (r.trans (F.trans (Aj z _))) Al ?_;rw [Gi e];exact .cons (.int _) (.cons .non .nil)
theorem cg (T:Txt K mg ad):CalB P w K mg base true 5 "_law_times_row" ["_law_row_here","_law_ray"] (uy K):=by
 refine T.UL.calN mC (λ _ _ _ _ _ _=>Ba λ _ _=>rfl) (λ vs H Q E z=>?_) (λ f a1 A outer s H vs Q E x z=>?_)
 ·obtain ⟨_,_,_,_,_,_,rfl,_⟩:=z;rfl
 obtain ⟨v,N,p,q,y,u,rfl,hv,e,⟨B,C,t,D⟩,k⟩:=z;obtain ⟨a,xs,rfl,F,G⟩:=DV.lst_of hv;obtain ⟨O,R,rfl,S,U⟩:=G.two;obtain ⟨b,g,h,rfl,j,l,W,X⟩:∃(b:Addr) (g h:V),N=.ref b/\DV K H g (Ai y)/\DV K H h (Ai u)/\(∀d (q:VK),Same H d->q g d->rIx K (.ref b) (.int 0) d q)/\(∀d (q:VK),Same H d->q h d->rIx K (.ref b) (.int 1) d q):=by
  rcases e with e | e
  ·obtain ⟨b,Y,rfl,n,o⟩:=DV.lst_of e;obtain ⟨g,h,rfl,j,l⟩:=o.two;exact ⟨b,g,h,rfl,j,l,λ d q s' i=>.inl ⟨b,_,_,_,rfl,rfl,n.keep s',rfl,i⟩,λ d q s' i=>.inl ⟨b,_,_,_,rfl,rfl,n.keep s',rfl,i⟩⟩
  ·obtain ⟨b,Y,rfl,n,o⟩:=DV.tup_of e;obtain ⟨g,h,rfl,j,l⟩:=o.two;exact ⟨b,g,h,rfl,j,l,λ d q s' i=>.inr (.inl ⟨b,_,_,_,rfl,rfl,n.keep s',rfl,i⟩),λ d q s' i=>.inr (.inl ⟨b,_,_,_,rfl,rfl,n.keep s',rfl,i⟩)⟩
 have sm:∀{M:Rat},Bd 700 M->Sm M:=λ z=>z.sm (by decide)
 refine ⟨_,(Af (Am (Ah (M5 T) x.m Ag (BL (Ah (gD T) x.m Ag (Ao (Ad ix_list (pv 0) Ab) (Ao (Ad aN (pv 1) Ab) Aa))) (BL (Ah (gD T) x.m Ag (Ao (Ad ix_list (pv 0) Ab) (Ao (Ad aN (pv 1) Ab) Aa))) Aa))))),?_⟩
 refine ⟨_,rfl,a,_,_,O,rfl,rfl,F,rfl,_,rfl,W _ _ (Same.refl _) ?_⟩;refine ⟨_,_,.cons S (.cons j .nil),⟨p,y,rfl,sm B,sm t,rfl⟩,λ a2 a3 r I=>?_⟩
 refine ⟨_,rfl,a,_,_,R,rfl,rfl,F.keep r,rfl,_,rfl,X _ _ r ?_⟩;refine ⟨_,_,.cons (U.keep r) (.cons (l.keep r) .nil),⟨q,u,rfl,sm C,sm D,rfl⟩,λ a4 a5 J L=>?_⟩
 exact ⟨_,_,.cons (I.keep J) (.cons L .nil),⟨p * y,q * u,rfl,(B.mul t).sm (by decide),(C.mul D).sm (by decide),rfl⟩,λ M a6 Z a0=>k M _ (r.trans (J.trans Z)) a0⟩
end
end K73
namespace K73
open PySem L2 Lib Fr Op
seal PE PT PW PA PS PSs PG PGs PI PO Bv
section
variable {P:ZY}{w:World}{K:FrG}{mg:Str->Option Value}{base:Heap}{ad:Adr}{c:Bool}
theorem uV (T:Txt K mg ad):CalB P w K mg base true 3 "_law_over" ["_law_one","_law_other"] (PR K bN):=by
 refine T.TX.calN xn (λ _ _ _ _ _ _=>Ba λ _ _=>rfl) (λ vs H Q E o=>?_) (λ f B A outer s H vs Q E d o=>?_)
 ·obtain ⟨_,_,dv,⟨_,_,rfl,_⟩,_⟩:=o;exact dv.len
 obtain ⟨_,_,dv,⟨p,q,rfl,sp,g,u,rfl⟩,k⟩:=o;obtain ⟨_,_,rfl,v,x⟩:=dv.two;obtain ⟨a,rfl,j⟩:=v.fr;obtain ⟨b,rfl,i⟩:=x.fr;have y:q.num≠0:=λ e=>u (Fr.Qz q |>.mp e)
 have dp:=Il p;refine ⟨_,(Ae (Aw (Az Fi (Ad ix_tup (pv 1) Ab) Ab) (Af (Am (Ah (Ln T) d.m Ag (Bf (Ak Ex Ab (Ak Cq (Ad ix_tup (pv 0) Ab) (Ad ix_tup (pv 1) Ab))) (Bf (Ak Ex Ab (Ak Cq (Ad ix_tup (pv 0) Ab) (Ad ix_tup (pv 1) Ab))) Aa))))) Ax) (Af (Am (Ah (Ln T) d.m Ag (Bf (Ak Cq (Ad ix_tup (pv 0) Ab) (Ad ix_tup (pv 1) Ab)) (Bf (Ak Cq (Ad ix_tup (pv 0) Ab) (Ad ix_tup (pv 1) Ab)) Aa)))))),?_⟩
 refine ⟨_,rfl,b,_,_,_,rfl,rfl,i,rfl,_,_,rfl,rfl,_,rfl,ite2 (λ h=>?_) (λ h=>?_)⟩
 ·have h:q.num < 0:=of_decide_eq_true h;refine ⟨_,rfl,a,_,_,_,rfl,rfl,j,rfl,_,rfl,b,_,_,_,rfl,rfl,i,rfl,_,_,rfl,rfl,Cv sp.n g.dn,_,_,rfl,rfl,?_⟩;refine ⟨_,rfl,a,_,_,_,rfl,rfl,j,rfl,_,rfl,b,_,_,_,rfl,rfl,i,rfl,_,_,rfl,rfl,Cv sp.dn g.n,_,_,rfl,rfl,?_⟩;have z:(p.den:Int) * q.num < 0:=Int.mul_neg_of_pos_of_neg dp h;refine ⟨_,_,rfl,(by show (0:Int) < 0 - (p.den:Int) * q.num;omega),(by show (0 - (p.den:Int) * q.num).natAbs < lim;rw [wE,wM];exact Gz sp.dn g.n),λ r d=>k _ _ (Aj d _) ?_⟩
  have e:=Fw (K:=K) (H:=H) (t:=0 - p.num * (q.den:Int)) (b:=0 - (p.den:Int) * q.num) (p:=r) (by omega)
  rw [xW p q y] at e;exact e
 ·have h:¬ q.num < 0:=λ C=>h (decide_eq_true C)
  refine ⟨_,rfl,a,_,_,_,rfl,rfl,j,rfl,_,rfl,b,_,_,_,rfl,rfl,i,rfl,_,_,rfl,rfl,Cv sp.n g.dn,?_⟩;refine ⟨_,rfl,a,_,_,_,rfl,rfl,j,rfl,_,rfl,b,_,_,_,rfl,rfl,i,rfl,_,_,rfl,rfl,Cv sp.dn g.n,?_⟩;have l:0 < (p.den:Int) * q.num:=Int.mul_pos dp (by omega)
  refine ⟨_,_,rfl,l,Gz sp.dn g.n,λ r d=>k _ _ (Aj d _) ?_⟩
  have e:=Fw (K:=K) (H:=H) (t:=p.num * (q.den:Int)) (b:=(p.den:Int) * q.num) (p:=r) (by omega)
  rw [Fr.Mm] at e;exact e
end
end K73
namespace K73
open PySem L2 Lib Fr Op Tx PySem.NumText
seal PE PT PW PA PS PSs PG PGs PI PO Bv PJ
section
variable {P:ZY}{w:World}{K:FrG}{mg:Y2->Option Value}{base:Heap}{ad:Adr}{c:Bool}
theorem HS {ps:List Pc}(f:OkB ps):∀q∈[(tabOf ps).a,(tabOf ps).b,(tabOf ps).c,(tabOf ps).d],Bd 614 q:=λ q e=>by
 have tb:=f.tb;simp only [W4,YV,or_false] at e;rcases e with rfl | rfl | rfl | rfl
 ·exact tb.a
 ·exact tb.b
 ·exact tb.c
 ·exact tb.d
theorem yc (T:Txt K mg ad)(c4:w.params=ad.pr):CalB P w K mg base true 19 "_law_walked_so" ["_law_desk","_law_name","_law_ray"] (rB K ad.Desk):=by
 refine T.WQ.calN Ji (λ _ _ _ _ _ _=>Gb λ _ _ _=>rfl) (λ vs H Q E L=>?_) (λ f j8 A outer s H vs Q E a L=>?_)
 ·obtain ⟨_,_,_,_,_,_,_,_,_,_,_,rfl,_⟩:=L;rfl
 obtain ⟨o,M,d,q,x,h5,n,ps,v,y,u,rfl,N,nx,sx,h6,hv,r,O,k⟩:=L;have k2:=nx.len;have k3:(Y1 "table ").length=6:=by decide+kernel
 have h7:=Jy r (by decide)
 have h8:=Jy O (by decide)
 have ok:=N.ok sx;have tb:=HS ok;obtain ⟨d6,vs,rfl,a0,d7⟩:=DV.lst_of hv;obtain ⟨t,h9,rfl,i0,i1⟩:=d7.two;refine ⟨_,(Ae (Ey (Ah (g8 T c4) a.m Ag (Ac (pv 0) (Ac (pv 1) (Ac (pv 2) Aa)))) (Ii (n:=2) rfl (Cy (Bc (i:=3) Ji.nd) (Cy (Bc (i:=4) Ji.nd) Gf)))) (Ae (Aw (Az Lw (pv 3) DX) (Af (Am CQ)) Ax) (Ae (Ar (i:=5) Ji.nd (Ah (Kd T) a.m Ag (BL (Bb (k:=16) (pv 0) a.m (Bf (Ak CN BJ (pv 1)) Aa)) Aa))) (Ae (Aw (Az (Gy a.units) (pv 4) (Bu (BL (Ah (cg T) a.m Ag (Ao (DP Fg (pv 5) Dh (CZ Ab)) (Ac (pv 2) Aa))) (BL (Ah (cg T) a.m Ag (Ao (DP Fg (pv 5) (CZ Ab) Dh) (Ac (pv 2) Aa))) Aa)))) (Af (Am CQ)) Ax) (Ae (Aw (Bt (Bj (Ah (Wz T) a.m Ag (Ac (pv 4) Aa)))) (Af (Am CQ)) Ax) (Ae (Ar (i:=6) Ji.nd (Ah (g8 T c4) a.m Ag (Ac (pv 0) (BP BJ (Mf (Bu (Ao (Ad ix_list (pv 4) Ab) (BL (Ah (Q8 T) a.m Ag (Do (Bk (BP Ab (BP Ab Aa))) (Ao (Ad ix_list (pv 4) Ab) Aa))) Aa))) Aa))))) (Af (Am (Dq (Gn a.units) (pv 6) (Bu (BP DX (Mf (Bu (Ao (Ad ix_list (pv 2) Ab) (BL (Ah (Q8 T) a.m Ag (Do (Bk (BP Ab (BP Ab Aa))) (Ao (Ad ix_list (pv 2) Ab) Aa))) Aa))) Aa)))))))))))),?_⟩
 refine ⟨_,rfl,_,rfl,_,rfl,o,M,d,q,x,h5,n,ps,_,y,u,rfl,N,nx,sx,hv,h7,h8,λ l xs k4 R hl g=>?_⟩
 cases e:(walk ps (y,u)).2 with
 | some m=>
  rw [Gi e] at g;obtain ⟨i2,d8,rfl,c5,c6⟩:=g.two;obtain rfl:=DV.int_of c5;refine ⟨l,_,rfl,SqL.of hl,rfl,_,_,rfl,_,_,rfl,rfl,?_⟩;exact ⟨_,rfl,rfl,_,rfl,Bg (by simp) (k _ R)⟩
 | none=>
  rw [Hh e] at g;obtain ⟨i2,d8,rfl,c5,c6⟩:=g.two;obtain rfl:=DV.non_of c5;refine ⟨l,_,rfl,SqL.of hl,rfl,_,_,rfl,_,_,rfl,rfl,?_⟩;refine ⟨_,rfl,rfl,_,rfl,BR (by simp) ?_⟩
  have a1:=N.keep R;refine ⟨_,rfl,o,_,M,_,_,_,rfl,a1.o,rfl,G4 T c4,_,rfl,_,_,rfl,rfl,Br (by omega),?_⟩
  rw [HJ (u:=Y1 "table") (by decide+kernel)]
  refine ⟨o,M,d,q,x,h5,n,ps,[],_,rfl,a1,nx,sx,rfl,(λ _ L=>nomatch L),(λ e=>absurd e (by decide+kernel)),rfl,λ k5 d9=>?_⟩
  refine ⟨[(tabOf ps).a,(tabOf ps).b,(tabOf ps).c,(tabOf ps).d],rfl,by simp,by show 4<=5;decide,(λ q i3=>(tb q i3).mono (by decide)),λ lt k6 e0 e3 a2 e4=>?_⟩
  obtain ⟨t1,t2,t3,t4,rfl,i4,i5,i6,i7⟩:=KD e4;have a3:=R.trans (d9.trans e3);have e5:=d9.trans e3;have S:∀{e6:Rat},Bd 614 e6->Bd 700 e6:=λ L=>L.mono (by decide)
  have U:∀{e6:Rat},Bd 12 e6->Bd 700 e6:=λ L=>L.mono (by decide)
  refine ⟨_,rfl,_,rfl,_,rfl,lt,_,rfl,SqL.of a2,λ V e7=>?_⟩
  have z:=Aj e7 (.lst (cutV [t1,t2,t3,t4] none (some 2)));have e8:upd e0 V (.lst (cutV [t1,t2,t3,t4] none (some 2))) V=some (.lst [t1,t2]):=Al;generalize upd e0 V (.lst (cutV [t1,t2,t3,t4] none (some 2)))=k7 at z e8 ⊢;refine ⟨_,rfl,.ref V,_,(tabOf ps).a,(tabOf ps).b,y,u,rfl,.lst (SqL.of e8) (.cons (i4.keep z) (.cons (i5.keep z) .nil)),.inl (hv.keep (a3.trans z)),⟨S (tb _ (by simp)),S (tb _ (by simp)),U r,U O⟩,λ c7 e9 i8 f0=>?_⟩
  have a4:=z.trans i8;refine ⟨_,rfl,_,rfl,lt,_,rfl,SqL.of (a4 _ _ a2),λ W f1=>?_⟩
  have c8:=Aj f1 (.lst (cutV [t1,t2,t3,t4] (some 2) none));have f2:upd e9 W (.lst (cutV [t1,t2,t3,t4] (some 2) none)) W=some (.lst [t3,t4]):=Al;generalize upd e9 W (.lst (cutV [t1,t2,t3,t4] (some 2) none))=k8 at c8 f2 ⊢;have h:=a4.trans c8;refine ⟨_,rfl,.ref W,_,(tabOf ps).c,(tabOf ps).d,y,u,rfl,.lst (SqL.of f2) (.cons (i6.keep h) (.cons (i7.keep h) .nil)),.inl (hv.keep (a3.trans h)),⟨S (tb _ (by simp)),S (tb _ (by simp)),U r,U O⟩,λ c9 f3 f4 f5=>?_⟩
  refine ⟨(by show 2<=Y7;decide),λ d0 f6=>?_⟩
  have X:=Aj f6 (.lst [c7,c9]);have f7:=Od e;have e1:(BW ps (y,u)).1=(tabOf ps).a * y+(tabOf ps).b * u:=by rw [f7];rfl
  have e2:(BW ps (y,u)).2=(tabOf ps).c * y+(tabOf ps).d * u:=by rw [f7];rfl
  have f8:DV K (upd f3 d0 (.lst [c7,c9])) (.ref d0) (.list [Ai (BW ps (y,u)).1,Ai (BW ps (y,u)).2]):=by
   rw [e1,e2];exact .lst (SqL.of Al) (.cons (f0.keep (c8.trans (f4.trans X))) (.cons (f5.keep X) .nil))
  generalize upd f3 d0 (.lst [c7,c9])=k9 at X f8 ⊢;have f9:=h.trans (f4.trans X);have a5:=e5.trans f9;have a6:=c6.keep a5;refine Km a6 f8 (Yl _ _) ⟨_,rfl,iteF ?_⟩;refine ⟨_,rfl,d8,[(BW ps (y,u)).1,(BW ps (y,u)).2],rfl,a6,by show 2<=60;decide,λ b g0 i9 j0=>⟨_,rfl,?_⟩⟩
  have a7:=a5.trans i9;have a8:=R.trans a7;cases b with
  | false=>exact Bg rfl (k _ a8)
  | true=>
   refine BR rfl ?_;have sh:=(j0.mp rfl).short;obtain ⟨lb,bs,rfl,a9,g1⟩:=DV.lst_of (c6.keep a7);obtain ⟨b1,b2,rfl,j1,j2⟩:=g1.two;have g2:Ai 0=.tuple [.int 0,.int 1]:=rfl;have j3:=sh _ (ZD);have g3:=sh (BW ps (y,u)).2 (by simp)
   refine ⟨_,rfl,_,rfl,lb,_,_,b1,rfl,rfl,a9,rfl,(by show 2<=Y7;decide),λ d1 g4=>?_⟩
   have j:=Aj g4 (.tup [.int 0,.int 1]);have b0:DV K (upd g0 d1 (.tup [.int 0,.int 1])) (.ref d1) (Ai 0):=by rw [g2];exact .tup (SqT.of Al) (.cons (.int 0) (.cons (.int 1) .nil))
   generalize upd g0 d1 (.tup [.int 0,.int 1])=j9 at j b0 ⊢;refine ⟨_,rfl,lb,_,_,b2,rfl,rfl,a9.keep j,rfl,_,_,.cons b0 (.cons (j2.keep j) .nil),⟨0,_,rfl,Sm.zero,(GJ g3).sm (by decide),rfl⟩,λ d2 b3 g5 g6=>⟨(by show 2<=Y7;decide),λ Y g7=>?_⟩⟩
   have B:=Aj g7 (.lst [b1,d2]);have C:=j.trans (g5.trans B);have b4:DV K (upd b3 Y (.lst [b1,d2])) (.ref Y) (.list ([(BW ps (y,u)).1,0 - (BW ps (y,u)).2].map Ai)):=.lst (SqL.of Al) (.cons (j1.keep C) (.cons (g6.keep B) .nil));generalize upd b3 Y (.lst [b1,d2])=k0 at B C b4 ⊢;have b5:=a8.trans C;refine ⟨o,M,d,q,Y1 "back",h5,n,ps.reverse,.ref Y,_,_,rfl,N.keep b5,JB _ (by decide+kernel),h6,b4,j3,zf g3,λ j4 l0 b6 d3 g9 b7=>?_⟩
   rw [Y5 e] at b7;have D:=b5.trans d3;refine ⟨_,rfl,_,rfl,d6,_,_,t,rfl,rfl,a0.keep D,rfl,(by show 2<=Y7;decide),λ d4 h0=>?_⟩
   have F:=Aj h0 (.tup [.int 0,.int 1]);have b8:DV K (upd b6 d4 (.tup [.int 0,.int 1])) (.ref d4) (Ai 0):=by rw [g2];exact .tup (SqT.of Al) (.cons (.int 0) (.cons (.int 1) .nil))
   generalize upd b6 d4 (.tup [.int 0,.int 1])=k1 at F b8 ⊢;have b9:=D.trans F;refine ⟨_,rfl,d6,_,_,h9,rfl,rfl,a0.keep b9,rfl,_,_,.cons b8 (.cons (i1.keep b9) .nil),⟨0,u,rfl,Sm.zero,O.sm (by decide),rfl⟩,λ Z c0 h1 h2=>⟨(by show 2<=Y7;decide),λ p h3=>?_⟩⟩
   have G:=Aj h3 (.lst [t,Z]);have c1:upd c0 p (.lst [t,Z]) p=some (.lst [t,Z]):=Al;generalize upd c0 p (.lst [t,Z])=c2 at G c1 ⊢;refine ⟨(by show 2<=Y7;decide),λ d5 h4=>?_⟩
   have I:=Aj h4 (.lst [.non,.ref p]);have J:=F.trans (h1.trans (G.trans I));have c3:=D.trans J;have j5:DV K (upd c2 d5 (.lst [.non,.ref p])) (.ref j4) (.list [.none,.list [Ai y,Ai (0 - u)]]):=.lst (SqL.of (J _ _ g9)) (b7.keep J);have j6:DV K (upd c2 d5 (.lst [.non,.ref p])) (.ref d5) (.list [.none,.list [Ai y,Ai (0 - u)]]):=.lst (SqL.of Al) (.cons .non (.cons (.lst (SqL.of (I _ _ c1)) (.cons (i0.keep c3) (.cons (h2.keep (G.trans I)) .nil))) .nil));have j7:Flat 3 (.list [ZB.none,.list [Ai y,Ai (0 - u)]]):=by
    have:=Ov ps.reverse ((BW ps (y,u)).1,0 - (BW ps (y,u)).2);rw [Y5 e] at this;exact this
   exact az j5 j6 j7 (k _ c3)
theorem Qx {K:FrG}{H:Hp}{p:Addr}(i:Int):DV K (upd H p (.tup [.int i,.int 1])) (.ref p) (Ai (i:Rat)):=by
 rw [jG];exact .tup (SqT.of Al) (.cons (.int _) (.cons (.int _) .nil))
theorem cL (T:Txt K mg ad)(b6:w.params=ad.pr):CalB P w K mg base true 18 "_law_imaged_so" ["_law_desk","_law_name","_law_s"] (o9 K ad.Desk):=by
 refine T.Qp.calN Fx (λ _ _ _ _ _ _=>Gb λ _ _ _=>rfl) (λ vs H Q E G=>?_) (λ f f4 A outer s H vs Q E h G=>?_)
 ·obtain ⟨_,_,_,_,_,_,_,_,_,_,rfl,_⟩:=G;rfl
 obtain ⟨o,I,d,q,x,f5,n,ps,v,y,rfl,J,nx,sx,b7,hv,g,k⟩:=G;have g0:=nx.len;have g1:(Y1 "table ").length=6:=by decide+kernel
 have g2:(Y1 "image ").length=6:=by decide+kernel
 have g3:(Y1 " ").length=1:=by decide+kernel
 have tb:=HS (J.ok sx);have j:=b7.tb;have N:∀{b5:Rat},Bd 12 b5->Bd 1900 b5:=λ G=>G.mono (by decide)
 have g4:=JT (N g);refine ⟨_,(Ae (Ey (Ah (Kd T) h.m Ag (BL (Bb (k:=16) (pv 0) h.m (Bf (Ak CN BJ (pv 1)) Aa)) Aa)) (Ii (n:=4) rfl (Cy (Bc (i:=3) Fx.nd) (Cy (Bc (i:=4) Fx.nd) (Cy (Bc (i:=5) Fx.nd) (Cy (Bc (i:=6) Fx.nd) Gf)))))) (Ae (Ar (i:=7) Fx.nd (Ah (M5 T) h.m Ag (BL (Ah (gD T) h.m Ag (Ac (pv 5) (Ac (pv 2) Aa))) (Ac (pv 6) Aa)))) (Ae (Ar (i:=8) Fx.nd BJ) (Ae (Aw (Az (Gy h.units) (pv 7) (Bk (BP Ab (BP Ab Aa)))) (Ae (Ar (i:=9) Fx.nd (Ah (uV T) h.m Ag (BL (Ah (Q8 T) h.m Ag (Do (Bk (BP Ab (BP Ab Aa))) (BL (Ah (M5 T) h.m Ag (BL (Ah (gD T) h.m Ag (Ac (pv 3) (Ac (pv 2) Aa))) (Ac (pv 4) Aa))) Aa))) (Ac (pv 7) Aa)))) (Af (Ar (i:=8) Fx.nd (Ah (aQ T) h.m Ag (Mf (Bu (Ac (pv 9) (BL (Ah (uV T) h.m Ag (Do (Bk (BP Ab (BP Ab Aa))) (Ac (pv 7) Aa))) Aa))) Aa))))) Ax) (Af (Am (Dq Bp (Bb (k:=16) (pv 0) h.m (Bf (Ak CN (Ak CN (Ak CN BJ (pv 1)) BJ) (Ah (Rc T) h.m Ag (Ac (pv 2) Aa))) Aa)) (pv 8)))))))),?_⟩
 refine ⟨_,rfl,o,_,I,_,_,_,rfl,J.o,rfl,G4 T b6,_,rfl,_,_,rfl,rfl,Br (by omega),?_⟩
 rw [HJ (u:=Y1 "table") (by decide+kernel)]
 refine ⟨o,I,d,q,x,f5,n,ps,[],_,rfl,J,nx,sx,rfl,(λ _ G=>nomatch G),(λ e=>absurd e (by decide+kernel)),rfl,λ g5 e4=>?_⟩
 refine ⟨[(tabOf ps).a,(tabOf ps).b,(tabOf ps).c,(tabOf ps).d],rfl,by simp,by show 4<=5;decide,(λ q e5=>(tb q e5).mono (by decide)),λ lt g6 g7 e6 b8 O=>?_⟩
 obtain ⟨t1,t2,t3,t4,rfl,b9,c0,c1,c2⟩:=KD O;generalize ht:tabOf ps=t at b9 c0 c1 c2 j tb O ⊢;refine ⟨lt,_,rfl,SqL.of b8,rfl,_,_,rfl,_,_,rfl,_,_,rfl,_,_,rfl,rfl,?_⟩;have p:=e4.trans e6;have sm:∀{b5:Rat} {m:Nat},Bd m b5->m<=1000->Sm b5:=λ G e7=>G.sm (U1 e7 (by decide))
 have bl:Bd 473 (t.c * y+t.d):=((j.c.mul g).add j.d).mono (by decide)
 have c3:Bd 473 (t.a * y+t.b):=((j.a.mul g).add j.b).mono (by decide)
 refine ⟨_,rfl,_,rfl,_,_,.cons c1 (.cons (hv.keep p) .nil),⟨t.c,y,rfl,sm j.c (by decide),sm g (by decide),rfl⟩,λ g8 g9 c4 c5=>?_⟩
 refine ⟨_,rfl,_,_,.cons c5 (.cons (c2.keep c4) .nil),⟨t.c * y,t.d,rfl,sm (j.c.mul g) (by decide),sm j.d (by decide),rfl⟩,λ c6 a4 e8 r=>?_⟩
 have R:=c4.trans e8;have S:=p.trans R;dsimp only
 refine Hw (λ z a5=>a5=a4/\z=[some (.ref o),some (.str x),some v,some t1,some t2,some t3,some t4,some c6,some (.str (Y1 "none")),none]) (λ c7 L=>L _ _ ⟨rfl,rfl⟩) ?_
 rintro _ f6 ⟨e9,rfl⟩
 rw [e9];refine Hw (λ z a5=>∃c8,z=[some (.ref o),some (.str x),some v,some t1,some t2,some t3,some t4,some c6,some (.str (Ge t y)),c8]/\Same H a5) (λ c7 L=>?_) ?_
 ·refine ⟨_,rfl,(by show 2<=Y7;decide),λ a6 c9=>?_⟩
  have B:=Aj c9 (.tup [.int 0,.int 1]);have d0:DV K (upd a4 a6 (.tup [.int 0,.int 1])) (.ref a6) (Ai 0):=Qx 0;generalize upd a4 a6 (.tup [.int 0,.int 1])=a7 at B d0 ⊢;refine bj (r.keep B) d0 ⟨_,rfl,?_⟩;by_cases e:t.c * y+t.d=0
  ·refine BR (by rw [decide_eq_true e];rfl) (L _ _ ⟨none,?_,S.trans B⟩)
   rw [zU e]
  ·refine Bg (by rw [decide_eq_false e];rfl) ?_
   have d1:=R.trans B;refine ⟨(by show 2<=Y7;decide),λ a8 d2=>?_⟩
   have a9:=Aj d2 (.tup [.int 0,.int 1]);have d3:DV K (upd a7 a8 (.tup [.int 0,.int 1])) (.ref a8) (Ai 0):=Qx 0;generalize upd a7 a8 (.tup [.int 0,.int 1])=d4 at a9 d3 ⊢;have C:=d1.trans a9;refine ⟨_,rfl,_,rfl,_,_,.cons (b9.keep C) (.cons (hv.keep (p.trans C)) .nil),⟨t.a,y,rfl,sm j.a (by decide),sm g (by decide),rfl⟩,λ h0 h1 d5 d6=>?_⟩
   refine ⟨_,rfl,_,_,.cons d6 (.cons (c0.keep (C.trans d5)) .nil),⟨t.a * y,t.b,rfl,sm (j.a.mul g) (by decide),sm j.b (by decide),rfl⟩,λ h2 h3 f0 d7=>?_⟩
   have U:=d5.trans f0;refine ⟨_,_,.cons (d3.keep U) (.cons d7 .nil),⟨0,t.a * y+t.b,rfl,Sm.zero,sm c3 (by decide),rfl⟩,λ h4 h5 f1 d8=>?_⟩
   have W:=B.trans (a9.trans (U.trans f1));have bn:Bd 475 (0 - (t.a * y+t.b)):=((GR 1 (by decide)).sub c3).mono (by decide)
   refine ⟨_,rfl,_,_,.cons d8 (.cons (r.keep W) .nil),⟨_,_,rfl,sm bn (by decide),sm bl (by decide),e,rfl⟩,λ M X d9 e0=>?_⟩
   refine ⟨_,rfl,(by show 2<=Y7;decide),λ b0 e1=>?_⟩
   have D:=Aj e1 (.tup [.int 1,.int 1]);have Y:DV K (upd X b0 (.tup [.int 1,.int 1])) (.ref b0) (Ai 1):=Qx 1;generalize upd X b0 (.tup [.int 1,.int 1])=f7 at D Y ⊢;have Z:=W.trans (d9.trans D);refine ⟨_,rfl,_,_,.cons Y (.cons (r.keep Z) .nil),⟨1,_,rfl,(G6 1 (by decide)).sm (by decide),sm bl (by decide),e,rfl⟩,λ b1 a0 F e2=>⟨(by show 2<=Y7;decide),λ b2 e3=>?_⟩⟩
   have l:=Aj e3 (.lst [M,b1]);have a1:=S.trans (Z.trans (F.trans l));have a2:DV K (upd a0 b2 (.lst [M,b1])) (.ref b2) (.list ([(0 - (t.a * y+t.b)) / (t.c * y+t.d),1 / (t.c * y+t.d)].map Ai)):=.lst (SqL.of Al) (.cons (e0.keep (D.trans (F.trans l))) (.cons (e2.keep l) .nil));generalize upd a0 b2 (.lst [M,b1])=f8 at l a1 a2 ⊢;refine ⟨_,_,rfl,.inl a2,all2 ((bn.div bl e).mono (by decide)) (((G6 1 (by decide)).div bl e).mono (by decide)),by show 2<=60;decide,λ f9 b3=>L _ _ ⟨some M,?_,a1.trans b3⟩⟩
   rw [AI7 e];rfl
 ·rintro _ a7 ⟨c8,rfl,b4⟩
  have a3:=J.keep b4;refine ⟨_,rfl,o,_,I,_,_,_,rfl,a3.o,rfl,AJ1 T b6,_,rfl,_,_,rfl,rfl,Br (by omega),_,_,rfl,rfl,Br (by rw [Ck];omega),?_⟩
  refine ⟨_,rfl,v,y,rfl,hv.keep b4,N g,?_⟩;refine ⟨_,_,rfl,rfl,Br (by rw [Ck,Ck];omega),?_⟩
  rw [<- mW y,Xu (u:=Y1 "image") (by decide+kernel)]
  refine ⟨o,I,d,q,x,f5,n,ps,[y],_,rfl,a3,nx,sx,rfl,(λ b5 f2=>by rw [U0.mp f2];exact Jy g (by decide)),(λ e=>absurd e (by decide+kernel)),⟨b7,y,rfl,g,rfl⟩,λ d4 f3=>?_⟩
  refine ⟨_,rfl,rfl,?_⟩;show Q (.bl (decide (V.str (Ge (tabOf ps) y)=V.str (Ge t y)))) d4;rw [ht,decide_eq_true rfl];exact k _ (b4.trans f3)
theorem YG (T:Txt K mg ad)(R:w.params=ad.pr):CalB P w K mg base true 18 "_law_apart_so" ["_law_desk","_law_name"] (vJ K ad.Desk):=by
 refine T.Tw.calN QK (λ _ _ _ _ _ _=>Ba λ _ _=>rfl) (λ vs H Q E D=>?_) (λ f c7 A outer s H vs Q E B D=>?_)
 ·obtain ⟨_,_,_,_,_,_,_,_,rfl,_⟩:=D;rfl
 obtain ⟨o,h,d,q,x,Z,n,ps,rfl,G,b4,c8,nx,b5,sx,k⟩:=D;have c9:=nx.len;have d0:(Y1 "apart ").length=6:=by decide+kernel
 have lt:(Y1 "table ").length=6:=by decide+kernel
 have lb:(Y1 "bench apart ").length=12:=by decide+kernel
 have ok:=G.ok sx;have big:=cz ok.tb (HW ps);have z:=qm (tabOf ps);have X:=AI9 (tabOf ps);have tt:=xN (HW ps);have b6:=vY X big.2;generalize a0:DK (tabOf ps)=qs at big z X tt b6;refine ⟨_,(Ae (Ar (i:=2) QK.nd (Bb (k:=16) (pv 0) B.m (Bf (Ak CN BJ (pv 1)) Aa))) (Ae (Ar (i:=3) QK.nd (CT ZU XI XZ Fe (uC (pv 2) (by decide+kernel)) (BP BJ Aa))) (Ae (Aw (PW.pt (pw_and (Az Dk (pv 2) BJ) (pw_and1 (Bt (Bj (Ah (Wz T) B.m Ag (Cm (Ej ["_law_word"] [none] rfl (DY (qP (pv 3) (CZ Ab) Dh (CZ Ab))) (λ _ _ _ _ _=>(Bc (i:=0) (show Uz [("_law_word":Str)] by decide))) (λ _ _ _ _ _=>Eb) (λ _ _ _ _ _=>(Ah (Z9 T) B.m Ag (Ac (pv 0) Aa))) (Ds (by decide) (by decide)) (by decide) rfl (by decide) rfl (Dt rfl)) Aa))))))) (Af (Am CQ)) Ax) (Ae (Aw (Az Dk (Bb (k:=16) (pv 0) B.m (Bf (Ak CN BJ (pv 2)) Aa)) BJ) (Af (Am CQ)) Ax) (Af (Am (Dq Bp (Bb (k:=16) (pv 0) B.m (BP BJ Aa)) (Bb (k:=16) (pv 0) B.m (Bf (Ak CN BJ (pv 1)) Aa))))))))),?_⟩
 refine ⟨_,rfl,o,_,h,_,_,_,rfl,G.o,rfl,AL1 T R,_,rfl,_,_,rfl,rfl,Br (by omega),?_⟩
 rw [HJ (u:=Y1 "apart") (by decide+kernel)]
 refine ⟨o,h,d,q,x,Z,n,ps,[],Bs qs,rfl,G,nx,sx,rfl,(λ _ D=>nomatch D),(λ e=>absurd e (by decide+kernel)),(by rw [<- a0];rfl),λ d1 b7=>?_⟩
 have C:(Y1 "").length=0:=by decide+kernel
 have a1:∀m:Nat,m<=20000->m<=Y7:=λ m D=>U1 D (by decide)
 dsimp only
 refine Hw (λ I g=>∃l,I=[some (.ref o),some (.str x),some (.str (Bs qs)),some (.ref l)]/\Same H g/\(qs≠[]->g l=some (.lst ((Du qs).map V.str)))) (λ a2 S=>?_) ?_
 ·refine ⟨_,rfl,_,rfl,(by rw [C];omega),rfl,_,_,rfl,rfl,rfl,?_,λ l j=>?_⟩
  ·refine a1 _ ?_;by_cases e:qs=[]
   ·rw [e,vQ,C];decide
   ·rw [aZ e];have:(ZE (Y1 " ") (Du qs)).length<=(Bs qs).length:=by
     show (cl (ZE (Y1 " ") (Du qs))).length<=(cl (Bs qs)).length;rw [<- VL qs e];exact QP _ _
    omega
  ·refine S _ _ ⟨l,rfl,b7.trans (Aj j _),λ e=>?_⟩
   rw [Al,aZ e,iQ e]
 rintro _ a3 ⟨l,rfl,a4,j⟩
 refine Hw (λ I g=>(I=[some (.ref o),some (.str x),some (.str (Bs qs)),some (.ref l)]/\Same H g/\∀p∈qs,DN p)) (λ a2 S=>?_) ?_
 ·refine ⟨_,rfl,rfl,_,rfl,?_⟩;by_cases e:qs=[]
  ·refine BR (by rw [e];decide+kernel) (iteF ?_)
   exact S _ _ ⟨rfl,a4,λ p r=>by rw [e] at r;cases r⟩
  ·have ne:Bs qs≠Y1 "":=λ a5=>e (wI qs a5)
   refine Bg (by rw [By,decide_eq_false ne];rfl) ?_
   have j:=j e;refine ⟨_,rfl,_,rfl,_,rfl,l,_,rfl,SqL.of j,by simp,λ J a6=>?_⟩
   rw [yN qs z X];have a7:=Aj a6 (.lst (qs.map λ p=>V.str (Aq p.part)))
   have Y:upd a3 J (.lst (qs.map λ p=>V.str (Aq p.part))) J=some (.lst (qs.map λ p=>V.str (Aq p.part))):=Al
   generalize upd a3 J (.lst (qs.map λ p=>V.str (Aq p.part)))=b8 at a7 Y ⊢
   refine ⟨J,rfl,⟨_,SqL.of Y⟩,?_⟩;refine HQ (K:=K) (a:=J) (xs:=qs.map λ p=>V.str (Aq p.part)) (λ i U t g=>(∃c0,U=[c0])/\Same b8 g/\DVs K g t (((qs.map Pc.part).take i).map Ai)) ⟨⟨_,rfl⟩,Same.refl _,.nil⟩ ?_ ?_ ?_
   ·rintro i U t g y ⟨⟨c0,rfl⟩,s',dv⟩
    have:=dv.len;rw [Y3,XE,Y3] at this;exact ⟨XP (small1000 (by omega)),SqL.of (s' _ _ Y)⟩
   ·rintro i a5 U t g y ⟨⟨c0,rfl⟩,s',dv⟩
    obtain ⟨p,r,rfl⟩:∃p,qs[i]?=some p/\a5=.str (Aq p.part):=by
     rw [Ya] at y;cases e:qs[i]? with
     | none=>rw [e] at y;cases y
     | some p=>rw [e] at y;cases y;exact ⟨p,rfl,rfl⟩
    have a8:=ZN r;refine ⟨_,rfl,p.part,rfl,jK (big.2 p a8) (z p a8),λ v b9 a9 hv=>L2.nx (CK y) ⟨⟨_,rfl⟩,s'.trans a9,?_⟩⟩
    have c1:(qs.map Pc.part)[i]?=some p.part:=by rw [Ya,r];rfl
    rw [XV,c1,ZH];exact (dv.keep a9).append (.cons hv .nil)
   ·rintro U t g p ⟨⟨c0,rfl⟩,s',dv⟩ r
    rw [Y3,UP (by rw [Y3];exact Zj _)] at dv
    have u:=Aj r (.lst t);have dl:DV K (upd g p (.lst t)) (.ref p) (.list ((qs.map Pc.part).map Ai)):=.lst (SqL.of Al) (dv.keep u);generalize upd g p (.lst t)=b9 at u dl ⊢;refine ⟨.ref p,qs.map Pc.part,rfl,dl,by rw [Y3];omega,λ b c2 L c3=>⟨_,rfl,?_⟩⟩
    have M:=a4.trans (a7.trans (s'.trans (u.trans L)));cases b with
    | false=>exact Bg rfl (k Z n _ (Lib.SD.ofSame M) (G.keep M) (by omega) λ _ _=>rfl)
    | true=>exact BR rfl (S _ _ ⟨rfl,M,AG1 z (c3.mp rfl)⟩)
 ·rintro _ c2 ⟨rfl,L,sh⟩
  have W:=G.keep L;have b0:OkB qs:=⟨by omega,sh⟩
  refine ⟨_,rfl,o,_,h,_,_,_,rfl,W.o,rfl,aD T R,_,rfl,_,_,rfl,rfl,a1 _ (by omega),?_⟩
  rw [yu];refine ⟨o,h,d,q,Y1 "apart",Z,n,qs,rfl,W,(λ a c4=>(b4 a c4).imp λ a5 C=>L _ _ C),by omega,JB _ (by decide+kernel),b0,λ d2 c5 N=>?_⟩
  refine ⟨rfl,_,rfl,BR (by decide+kernel) ?_⟩
  have sa:setB Z (Y1 "apart") qs (Y1 "apart")=some qs:=if_pos rfl;have b1:setB Z (Y1 "apart") qs x=some ps:=(if_neg b5).trans sx;refine ⟨_,rfl,o,_,h,_,_,_,rfl,N.o,rfl,G4 T R,?_⟩;rw [show Y1 "table apart"=Ew (Y1 "table") (Y1 "apart") [] by decide+kernel]
  refine ⟨o,h,d,q,Y1 "apart",_,_,qs,[],_,rfl,N,JB _ (by decide+kernel),sa,rfl,(λ _ D=>nomatch D),(λ e=>absurd e (by decide+kernel)),rfl,λ d3 b2=>?_⟩
  have O:=N.keep b2;refine ⟨_,rfl,o,_,h,_,_,_,rfl,O.o,rfl,G4 T R,_,rfl,_,_,rfl,rfl,Br (by omega),?_⟩
  rw [HJ (u:=Y1 "table") (by decide+kernel)]
  refine ⟨o,h,d,q,x,_,_,ps,[],_,rfl,O,nx,b1,rfl,(λ _ D=>nomatch D),(λ e=>absurd e (by decide+kernel)),rfl,λ c6 b3=>?_⟩
  refine ⟨rfl,?_⟩;show Q (.bl (decide (V.str (Vt (tabOf qs))=V.str (Vt (tabOf ps))))) c6;rw [tt,decide_eq_true rfl];exact k _ _ _ ((Lib.SD.ofSame L).trans (c5.trans (Lib.SD.ofSame (b2.trans b3)))) (O.keep b3) (Zj _) λ a5 C=>if_neg C
theorem uZ (x:Y2):Y1 "turn back "++x=G3 (Y1 "back") x:=by
 unfold G3
 apply ext
 simp only [BV,YA];rw [show cl (Y1 "turn back ")=cl (Y1 "turn ")++(cl (Y1 "back")++cl (Y1 " ")) by decide+kernel]
 simp only [YA]
theorem lH (x y:Y2):Y1 "join both "++x++Y1 " "++y=Gd (Y1 "both") x y:=by
 unfold Gd
 apply ext
 simp only [BV,YA];rw [show cl (Y1 "join both ")=cl (Y1 "join ")++(cl (Y1 "both")++cl (Y1 " ")) by decide+kernel]
 simp only [YA]
theorem oh (a b c d:Rat):Flat 2 (.list ([a,b,c,d].map Ai)):=JF (Qc GQ _)
theorem oO (T:Txt K mg ad)(p:w.params=ad.pr):CalB P w K mg base true 19 "_law_turned_so" ["_law_desk","_law_name","_law_s"] (AK1 K ad.Desk):=by
 refine T.Q0.calN Jw (λ _ _ _ _ _ _=>Gb λ _ _ _=>rfl) (λ vs H Q E z=>?_) (λ f d5 A outer s H vs Q E h z=>?_)
 ·obtain ⟨_,_,_,_,_,_,_,_,_,_,rfl,_⟩:=z;rfl
 obtain ⟨o,g,d,q,x,c0,n,ps,v,y,rfl,U,r,d8,nx,nm,sx,os,hv,a2,k⟩:=z;have d9:=nx.len;have lt:(Y1 "turn back ").length=10:=by decide+kernel
 have e0:(Y1 "table ").length=6:=by decide+kernel
 have e1:(Y1 "rounds ").length=7:=by decide+kernel
 have B:Nm (Y1 "back"):=JB _ (by decide+kernel)
 have C:=os.rev;have a3:=Xz ps;refine ⟨_,(Ae (Aw (PW.pt (pw_or (Az Dk (Bb (k:=16) (pv 0) h.m (Bf (Ak CN BJ (pv 1)) Aa)) BJ) (pw_or1 (Az Dk (Bb (k:=16) (pv 0) h.m (BP BJ Aa)) (Bb (k:=16) (pv 0) h.m (Bf (Ak CN BJ (pv 1)) Aa)))))) (Af (Am CQ)) Ax) (Ae (Ey (Ah (Kd T) h.m Ag (BL (Bb (k:=16) (pv 0) h.m (Bf (Ak CN BJ (pv 1)) Aa)) Aa)) (Ii (n:=4) rfl (Cy (Bc (i:=3) Jw.nd) (Cy (Bc (i:=4) Jw.nd) (Cy (Bc (i:=5) Jw.nd) (Cy (Bc (i:=6) Jw.nd) Gf)))))) (Ae (Aw (Az (Gy h.units) (Ah (Kd T) h.m Ag (BL (Bb (k:=16) (pv 0) h.m (BP BJ Aa)) Aa)) (Bu (Ac (pv 6) (Ac (pv 4) (Ac (pv 5) (Ac (pv 3) Aa)))))) (Af (Am CQ)) Ax) (Af (Am (Ib (Ah (cL T p) h.m Ag (Ac (pv 0) (BP BJ (Ac (pv 2) Aa)))) (Ik (Ah (YG T p) h.m Ag (Ac (pv 0) (BP BJ Aa)))))))))),?_⟩
 refine ⟨_,rfl,o,_,g,_,_,_,rfl,U.o,rfl,AI1 T p,_,rfl,_,_,rfl,rfl,Br (by omega),?_⟩
 rw [uZ];refine ⟨o,g,d,q,Y1 "back",x,c0,n,ps,rfl,U,r,by omega,B,nx,sx,λ a4 W b=>?_⟩
 refine ⟨rfl,_,rfl,BR (by decide+kernel) ?_⟩
 have c1:x≠Y1 "back":=λ e=>nm (by rw [e];decide+kernel)
 have e2:x≠Y1 "apart":=λ e=>nm (by rw [e];decide+kernel)
 have j:setB c0 (Y1 "back") ps.reverse (Y1 "back")=some ps.reverse:=if_pos rfl;have D:setB c0 (Y1 "back") ps.reverse x=some ps:=(if_neg c1).trans sx;have a5:DV K a4 v (Ai y):=by
  obtain ⟨a6,X,_,_⟩:=U.d;exact G9 (Ls X W) (by rfl) hv
 generalize a7:setB c0 (Y1 "back") ps.reverse=e3 at b j D;refine ⟨_,rfl,o,_,g,_,_,_,rfl,b.o,rfl,dU T p,?_⟩;rw [show Y1 "rounds back"=Ew (Y1 "rounds") (Y1 "back") [] by decide+kernel]
 refine ⟨o,g,d,q,Y1 "back",_,_,ps.reverse,[],_,rfl,b,B,j,rfl,(λ _ z=>nomatch z),(λ e=>absurd e (by decide+kernel)),⟨C,rfl⟩,λ e4 a8=>?_⟩
 have L:=b.keep a8;refine ⟨_,rfl,o,_,g,_,_,_,rfl,L.o,rfl,dU T p,_,rfl,_,_,rfl,rfl,Br (by omega),?_⟩
 rw [HJ (u:=Y1 "rounds") (by decide+kernel)]
 refine ⟨o,g,d,q,x,_,_,ps,[],_,rfl,L,nx,D,rfl,(λ _ z=>nomatch z),(λ e=>absurd e (by decide+kernel)),⟨os,rfl⟩,λ e5 c2=>?_⟩
 have M:=a8.trans c2;have N:=b.keep M;refine ⟨rfl,_,rfl,BR ?_ ?_⟩
 ·show (!decide (V.str (Ny (lst (tabOf ps.reverse) 6))=V.str (Ny (lst (tabOf ps) 6))))=false;rw [a3,qO,decide_eq_true rfl];rfl
 refine ⟨_,rfl,o,_,g,_,_,_,rfl,N.o,rfl,G4 T p,_,rfl,_,_,rfl,rfl,Br (by omega),?_⟩
 rw [HJ (u:=Y1 "table") (by decide+kernel)]
 refine ⟨o,g,d,q,x,_,_,ps,[],_,rfl,N,nx,D,rfl,(λ _ z=>nomatch z),(λ e=>absurd e (by decide+kernel)),rfl,λ e6 c3=>?_⟩
 have tb:=HS os.w;have a9:=HS C.w;refine ⟨[(tabOf ps).a,(tabOf ps).b,(tabOf ps).c,(tabOf ps).d],rfl,by simp,by show 4<=5;decide,(λ q r=>(tb q r).mono (by decide)),λ lt' e7 e8 c4 b0 b1=>?_⟩
 obtain ⟨t1,t2,t3,t4,rfl,c5,c6,c7,c8⟩:=KD b1;refine ⟨lt',_,rfl,SqL.of b0,rfl,_,_,rfl,_,_,rfl,_,_,rfl,_,_,rfl,rfl,?_⟩;have O:=M.trans (c3.trans c4);have R:=b.keep O;refine ⟨_,rfl,o,_,g,_,_,_,rfl,R.o,rfl,G4 T p,?_⟩;rw [show Y1 "table back"=Ew (Y1 "table") (Y1 "back") [] by decide+kernel]
 refine ⟨o,g,d,q,Y1 "back",_,_,ps.reverse,[],_,rfl,R,B,j,rfl,(λ _ z=>nomatch z),(λ e=>absurd e (by decide+kernel)),rfl,λ e9 c9=>?_⟩
 refine ⟨[(tabOf ps.reverse).a,(tabOf ps.reverse).b,(tabOf ps.reverse).c,(tabOf ps.reverse).d],rfl,by simp,by show 4<=5;decide,(λ q r=>(a9 q r).mono (by decide)),λ d0 us Y d1 b2 S=>?_⟩
 have b3:=c9.trans d1;refine ⟨_,rfl,_,rfl,_,rfl,_,rfl,(by show 4<=Y7;decide),λ I b4=>?_⟩
 have J:=Aj b4 (.lst [t4,t2,t3,t1]);have l:=b3.trans J;have b5:DV K (upd Y I (.lst [t4,t2,t3,t1])) (.ref d0) (.list ([(tabOf ps).d,(tabOf ps).b,(tabOf ps).c,(tabOf ps).a].map Ai)):=by
  rw [a3] at S;exact .lst (SqL.of (J _ _ b2)) (S.keep J)
 have b6:DV K (upd Y I (.lst [t4,t2,t3,t1])) (.ref I) (.list ([(tabOf ps).d,(tabOf ps).b,(tabOf ps).c,(tabOf ps).a].map Ai)):=.lst (SqL.of Al) (.cons (c8.keep l) (.cons (c6.keep l) (.cons (c7.keep l) (.cons (c5.keep l) .nil))));generalize upd Y I (.lst [t4,t2,t3,t1])=f0 at J l b5 b6 ⊢;refine Km b5 b6 (oh _ _ _ _) ⟨_,rfl,iteF ?_⟩;have F:=O.trans l;refine ⟨_,rfl,_,rfl,o,g,d,q,Y1 "back",_,_,ps.reverse,v,y,rfl,b.keep F,B,j,C.m,a5.keep F,a2,λ f1 d2=>?_⟩
 have G:=F.trans d2;refine ⟨_,rfl,iteT ?_⟩;have b7:∀a∈q,∃a1,a4 a=some a1:=λ a Z=>by
  obtain ⟨a1,t⟩:=r a Z;by_cases e:a=d
  ·subst e;obtain ⟨a6,X,_⟩:=b.d;exact ⟨_,X⟩
  ·exact ⟨a1,W _ _ e t⟩
 refine ⟨_,rfl,o,g,d,q,Y1 "back",_,_,ps.reverse,rfl,b.keep G,(λ a Z=>(b7 a Z).imp λ a1 t=>G _ _ t),by omega,B,by decide+kernel,j,λ d3 d4 d6 b8 a0 d7 b9=>?_⟩
 refine k d3 d4 _ (W.trans ((Lib.SD.ofSame G).trans b8)) a0 (by omega) ?_ λ a1 t=>?_
 ·rw [b9 _ (by decide+kernel)]
  exact j
 ·rw [b9 a1 (λ e=>t (by rw [e];decide+kernel)),<- a7]
  exact if_neg λ e=>t (by rw [e];decide+kernel)
theorem n6 (T:Txt K mg ad)(a0:w.params=ad.pr):CalB P w K mg base true 19 "_law_joined_so" ["_law_desk","_law_one","_law_other","_law_many","_law_ray"] (ux K ad.Desk):=by
 refine T.QT.calN Er (λ _ _ _ _ _ _=>wX λ _ _ _ _ _=>rfl) (λ vs H Q E b5=>?_) (λ f r0 A outer s H vs Q E z b5=>?_)
 ·obtain ⟨_,_,_,_,_,_,_,_,_,_,_,_,_,rfl,_⟩:=b5;rfl
 obtain ⟨o,D,d,q,x,y,n1,n,a,b,v,g,u,rfl,i9,j0,r6,nx,g1,mx,n2,sx,k1,k2,k3,hv,n3,n4,k⟩:=b5;have r7:=nx.len;have r1:=g1.len;have r8:(Y1 "join both ").length=10:=by decide+kernel
 have r9:(Y1 " ").length=1:=by decide+kernel
 have s0:(Y1 "table ").length=6:=by decide+kernel
 have d9:Nm (Y1 "both"):=JB _ (by decide+kernel)
 have c1:=Jy n3 (by decide)
 have c2:=Jy n4 (by decide)
 have k4:=k2.two k3;refine ⟨_,(Ae (Aw (Az Dk (Bb (k:=16) (pv 0) z.m (Bf (Ak CN (Ak CN (Ak CN BJ (pv 1)) BJ) (pv 2)) Aa)) BJ) (Af (Am CQ)) Ax) (Ae (Ey (Ah (g8 T a0) z.m Ag (Ac (pv 0) (Ac (pv 1) (Ac (pv 4) Aa)))) (Ii (n:=2) rfl (Cy (Bc (i:=5) Er.nd) (Cy (Bc (i:=6) Er.nd) Gf)))) (Ae (Aw (PW.pt (pw_and (Az Ig (pv 5) DX) (pw_and1 (Bj (Ah (Wz T) z.m Ag (Ac (pv 6) Aa)))))) (Ae (Ey (Ah (g8 T a0) z.m Ag (Ac (pv 0) (Ac (pv 2) (Ac (pv 6) Aa)))) (Ii (n:=2) rfl (Cy (Bc (i:=5) Er.nd) (Cy (Bc (i:=6) Er.nd) Gf)))) (Ae (Aw (Az Lw (pv 5) DX) (Af (Ar (i:=5) Er.nd (Ak CJ (pv 5) (pv 3)))) Ax) (Af (Aw (Az (Gy z.units) (Ah (g8 T a0) z.m Ag (Ac (pv 0) (BP BJ (Ac (pv 4) Aa)))) (Bu (Ac (pv 5) (Ac (pv 6) Aa)))) (Af (Am CQ)) Ax)))) (Af (Aw (PW.pt (pw_and (Az Lw (pv 5) DX) (pw_and1 (Az (Gy z.units) (Ah (g8 T a0) z.m Ag (Ac (pv 0) (BP BJ (Ac (pv 4) Aa)))) (Bu (Ac (pv 5) (BP DX Aa))))))) (Af (Am CQ)) Ax))) (Ae (Ar (i:=7) Er.nd (Ah (Kd T) z.m Ag (BL (Bb (k:=16) (pv 0) z.m (Bf (Ak CN BJ (pv 1)) Aa)) Aa))) (Ae (Ar (i:=8) Er.nd (Ah (Kd T) z.m Ag (BL (Bb (k:=16) (pv 0) z.m (Bf (Ak CN BJ (pv 2)) Aa)) Aa))) (Ae (Ar (i:=9) Er.nd (Bu Aa)) (Ae (Dm Xs rfl (DY (Bu (Ao (DP Fg (pv 8) Dh (CZ Ab)) (Ao (DP Fg (pv 8) (CZ Ab) Dh) Aa)))) (Bc (i:=10) Er.nd) (Af (Dm Xs rfl (IW rfl T.range (BP Ab Aa)) (Bc (i:=11) Er.nd) (Af (Cw (CT WB WH WI Ga (pv 9) (BL (Ah (cg T) z.m Ag (Ac (pv 10) (Do (Bk (Ao (Ad ix_list (pv 7) (pv 11)) (Ao (Ad ix_list (pv 7) (Ak CJ Ab (pv 11))) Aa))) Aa))) Aa))))))) (Af (Am (Dq (Gn z.units) (Ah (Kd T) z.m Ag (BL (Bb (k:=16) (pv 0) z.m (BP BJ Aa)) Aa)) (pv 9))))))))))),?_⟩
 refine ⟨_,rfl,o,_,D,_,_,_,rfl,i9.o,rfl,jY T a0,_,rfl,_,_,rfl,rfl,Br (by omega),_,_,rfl,rfl,Br (by rw [Ck];omega),_,rfl,_,_,rfl,rfl,Br (by rw [Ck,Ck];omega),?_⟩
 rw [lH];refine ⟨o,D,d,q,Y1 "both",x,y,n1,n,a,b,rfl,i9,j0,by omega,d9,nx,g1,sx,k1,k4.w,λ g2 k5 C=>?_⟩
 refine ⟨rfl,_,rfl,BR (by decide+kernel) ?_⟩
 have c3:setB n1 (Y1 "both") (a++b) (Y1 "both")=some (a++b):=if_pos rfl;have h3:setB n1 (Y1 "both") (a++b) x=some a:=(if_neg λ e=>mx (by rw [e];decide+kernel)).trans sx
 have h4:setB n1 (Y1 "both") (a++b) y=some b:=(if_neg λ e=>n2 (by rw [e];decide+kernel)).trans k1
 have c4:DV K g2 v (.list ([g,u].map Ai)):=by
  obtain ⟨r2,n5,_,_⟩:=i9.d;exact zH hv n5 k5
 unfold tNext;dsimp only
 refine Hw (λ a1 r=>∃d4 a2,a1=[some (.ref o),some (.str x),some (.str y),some (.int (a.length:Int)),some v,some d4,some a2,none,none,none,none,none]/\Same g2 r/\(((walk a (g,u)).2=none/\d4=.non/\DV K r a2 (.list ([(BW a (g,u)).1,(BW a (g,u)).2].map Ai)))\/∃m:Nat,(walk a (g,u)).2=some m/\d4=.int (m:Int)/\a2=.non)) (λ k6 b6=>?_) ?_
 ·refine ⟨_,rfl,_,rfl,_,rfl,o,D,d,q,x,_,_,a,v,g,u,rfl,C,nx,h3,c4,c1,c2,λ l xs n7 a3 hl c5=>?_⟩
  cases e:(walk a (g,u)).2 with
  | none=>
   rw [Hh e] at c5;obtain ⟨d4,a2,rfl,S,U⟩:=c5.two;obtain rfl:=DV.non_of S;exact ⟨l,_,rfl,SqL.of hl,rfl,_,_,rfl,_,_,rfl,rfl,b6 _ _ ⟨_,_,rfl,a3,.inl ⟨e,rfl,U⟩⟩⟩
  | some m=>
   rw [Gi e] at c5;obtain ⟨d4,a2,rfl,S,U⟩:=c5.two;obtain rfl:=DV.int_of S;obtain rfl:=DV.non_of U;exact ⟨l,_,rfl,SqL.of hl,rfl,_,_,rfl,_,_,rfl,rfl,b6 _ _ ⟨_,_,rfl,a3,.inr ⟨m,e,rfl,rfl⟩⟩⟩
 rintro _ n7 ⟨d4,a2,rfl,a3,n8⟩
 have r3:=C.keep a3;refine Hw (λ a1 r=>∃g3 g4,a1=[some (.ref o),some (.str x),some (.str y),some (.int (a.length:Int)),some v,g3,g4,none,none,none,none,none]/\Same g2 r) (λ k6 b6=>?_) ?_
 ·rcases n8 with ⟨e,rfl,h5⟩ | ⟨m,e,rfl,rfl⟩
  ·refine ⟨_,rfl,rfl,_,rfl,Bg (by simp) ?_⟩
   refine ⟨_,rfl,a2,_,rfl,h5,by show 2<=60;decide,λ n9 o0 e0 o1=>⟨_,rfl,?_⟩⟩
   have c6:=a3.trans e0;cases n9 with
   | false=>exact BR rfl ⟨_,rfl,rfl,_,rfl,BR (by simp) (iteF (b6 _ _ ⟨_,_,rfl,c6⟩))⟩
   | true=>
    refine Bg rfl ?_;have sh:=(o1.mp rfl).short;refine Hw (λ a1 r=>∃d5 b7,a1=[some (.ref o),some (.str x),some (.str y),some (.int (a.length:Int)),some v,some d5,some b7,none,none,none,none,none]/\Same g2 r/\(((walk b (BW a (g,u))).2=none/\d5=.non/\DV K r b7 (.list ([(BW b (BW a (g,u))).1,(BW b (BW a (g,u))).2].map Ai)))\/∃j:Nat,(walk b (BW a (g,u))).2=some j/\d5=.int (j:Int)/\b7=.non)) (λ r4 h6=>?_) ?_
    ·refine ⟨_,rfl,_,rfl,_,rfl,o,D,d,q,y,_,_,b,a2,_,_,rfl,C.keep c6,g1,h4,h5.keep e0,sh _ ZD,sh (BW a (g,u)).2 (by simp),λ k7 j1 k8 M h7 h=>?_⟩
     cases e2:(walk b (BW a (g,u))).2 with
     | none=>
      rw [Hh (show (walk b ((BW a (g,u)).1,(BW a (g,u)).2)).2=none from e2)] at h
      obtain ⟨d5,b7,rfl,S,U⟩:=h.two;obtain rfl:=DV.non_of S;exact ⟨k7,_,rfl,SqL.of h7,rfl,_,_,rfl,_,_,rfl,rfl,h6 _ _ ⟨_,_,rfl,c6.trans M,.inl ⟨e2,rfl,U⟩⟩⟩
     | some j=>
      rw [Gi (show (walk b ((BW a (g,u)).1,(BW a (g,u)).2)).2=some j from e2)] at h
      obtain ⟨d5,b7,rfl,S,U⟩:=h.two;obtain rfl:=DV.int_of S;obtain rfl:=DV.non_of U;exact ⟨k7,_,rfl,SqL.of h7,rfl,_,_,rfl,_,_,rfl,rfl,h6 _ _ ⟨_,_,rfl,c6.trans M,.inr ⟨j,e2,rfl,rfl⟩⟩⟩
    ·rintro _ k8 ⟨d5,b7,rfl,M,e3⟩
     rcases e3 with ⟨e2,rfl,e3⟩ | ⟨j,e2,rfl,rfl⟩
     ·refine ⟨_,rfl,rfl,_,rfl,BR (by simp) ?_⟩
      refine ⟨_,rfl,_,rfl,o,D,d,q,Y1 "both",_,_,a++b,v,g,u,rfl,C.keep M,d9,c3,c4.keep M,c1,c2,λ j2 j1 d6 a4 B h=>?_⟩
      refine ⟨_,rfl,_,rfl,(by show 2<=Y7;decide),λ p e4=>?_⟩
      have I:=Aj e4 (.lst [.non,b7]);obtain ⟨J,d7⟩:=AK3 (b:=b) e e2;have W:=Ov (a++b) (g,u);rw [Hh J,d7] at h;rw [Hh J,d7] at W;exact Km (.lst (SqL.of (I _ _ B)) (h.keep I)) (.lst (SqL.of Al) (.cons .non (.cons (e3.keep (a4.trans I)) .nil))) W ⟨_,rfl,iteF (b6 _ _ ⟨_,_,rfl,M.trans (a4.trans I)⟩)⟩
     ·refine ⟨_,rfl,rfl,_,rfl,Bg (by simp) ?_⟩
      refine ⟨_,rfl,_,rfl,_,_,rfl,rfl,?_⟩;refine ⟨_,rfl,_,rfl,o,D,d,q,Y1 "both",_,_,a++b,v,g,u,rfl,C.keep M,d9,c3,c4.keep M,c1,c2,λ j2 j1 d6 a4 B h=>?_⟩
      refine ⟨_,rfl,_,rfl,(by show 2<=Y7;decide),λ p e4=>?_⟩
      have I:=Aj e4 (.lst [.int ((j:Int)+(a.length:Int)),.non]);have J:=iU (b:=b) e e2;have W:=Ov (a++b) (g,u);rw [Gi J] at h;rw [Gi J] at W;have o2:((j+a.length:Nat):Int)=(j:Int)+(a.length:Int):=by omega
      rw [o2] at h W;exact Km (.lst (SqL.of (I _ _ B)) (h.keep I)) (.lst (SqL.of Al) (.cons (.int _) (.cons .non .nil))) W ⟨_,rfl,iteF (b6 _ _ ⟨_,_,rfl,M.trans (a4.trans I)⟩)⟩
  ·refine ⟨_,rfl,rfl,_,rfl,BR (by simp) ?_⟩
   refine ⟨_,rfl,rfl,_,rfl,Bg (by simp) ?_⟩
   refine ⟨_,rfl,_,rfl,o,D,d,q,Y1 "both",_,_,a++b,v,g,u,rfl,C.keep a3,d9,c3,c4.keep a3,c1,c2,λ j2 j1 d6 a4 B h=>?_⟩
   refine ⟨_,rfl,(by show 2<=Y7;decide),λ p e4=>?_⟩
   have I:=Aj e4 (.lst [.int (m:Int),.non]);have J:=jj (b:=b) e;have W:=Ov (a++b) (g,u);rw [Gi J] at h;rw [Gi J] at W;exact Km (.lst (SqL.of (I _ _ B)) (h.keep I)) (.lst (SqL.of Al) (.cons (.int _) (.cons .non .nil))) W ⟨_,rfl,iteF (b6 _ _ ⟨_,_,rfl,a3.trans (a4.trans I)⟩)⟩
 rintro _ o0 ⟨g3,g4,rfl,e0⟩
 have h8:=C.keep e0;have e5:=HS k2.w;have tb:=HS k3.w;have o3:=HS k4.w;have e6:∀{l:List Rat},(∀q∈l,Bd 614 q)->∀q∈l,Bd 1900 q:=λ b5 q j0=>(b5 q j0).mono (by decide)
 have g5:∀{j3:Rat},Bd 614 j3->Bd 700 j3:=λ b5=>b5.mono (by decide)
 refine ⟨_,rfl,o,_,D,_,_,_,rfl,h8.o,rfl,G4 T a0,_,rfl,_,_,rfl,rfl,Br (by omega),?_⟩
 rw [HJ (u:=Y1 "table") (by decide+kernel)]
 refine ⟨o,D,d,q,x,_,_,a,[],_,rfl,h8,nx,h3,rfl,(λ _ b5=>nomatch b5),(λ e=>absurd e (by decide+kernel)),rfl,λ k8 M=>?_⟩
 refine ⟨[(tabOf a).a,(tabOf a).b,(tabOf a).c,(tabOf a).d],rfl,by simp,by show 4<=5;decide,e6 e5,λ e7 fs d6 a4 h9 k9=>?_⟩
 obtain ⟨J,d7,j4,j5,rfl,o4,o5,o6,o7⟩:=KD k9;have i0:=e0.trans (M.trans a4);have i1:=C.keep i0;refine ⟨_,rfl,o,_,D,_,_,_,rfl,i1.o,rfl,G4 T a0,_,rfl,_,_,rfl,rfl,Br (by omega),?_⟩
 rw [HJ (u:=Y1 "table") (by decide+kernel)]
 refine ⟨o,D,d,q,y,_,_,b,[],_,rfl,i1,g1,h4,rfl,(λ _ b5=>nomatch b5),(λ e=>absurd e (by decide+kernel)),rfl,λ s1 o8=>?_⟩
 refine ⟨[(tabOf b).a,(tabOf b).b,(tabOf b).c,(tabOf b).d],rfl,by simp,by show 4<=5;decide,e6 tb,λ g6 s2 b8 o9 i2 l0=>?_⟩
 obtain ⟨a5,a6,a7,a8,rfl,e1,e2,p0,p1⟩:=KD l0;have c7:=o8.trans o9;have l1:=i0.trans c7;refine ⟨(by show 0<=Y7;decide),λ ld c8=>?_⟩
 have g7:=Aj c8 (.lst ([]:List V));have e8:upd b8 ld (.lst ([]:List V)) ld=some (.lst []):=Al;generalize upd b8 ld (.lst ([]:List V))=l2 at g7 e8 ⊢;refine ⟨_,rfl,_,rfl,g6,_,rfl,SqL.of (g7 _ _ i2),λ N e9=>?_⟩
 have f0:=Aj e9 (.lst (cutV [a5,a6,a7,a8] none (some 2)));have l3:upd l2 N (.lst (cutV [a5,a6,a7,a8] none (some 2))) N=some (.lst [a5,a6]):=Al;have p2:N≠ld:=λ e=>by rw [e,e8] at e9;cases e9
 generalize upd l2 N (.lst (cutV [a5,a6,a7,a8] none (some 2)))=l4 at f0 l3 ⊢;refine ⟨_,rfl,_,rfl,g6,_,rfl,SqL.of ((g7.trans f0) _ _ i2),λ O f1=>?_⟩
 have f2:=Aj f1 (.lst (cutV [a5,a6,a7,a8] (some 2) none));have i3:upd l4 O (.lst (cutV [a5,a6,a7,a8] (some 2) none)) O=some (.lst [a7,a8]):=Al;have p3:O≠ld:=λ e=>by rw [e,f0 _ _ e8] at f1;cases f1
 generalize upd l4 O (.lst (cutV [a5,a6,a7,a8] (some 2) none))=i4 at f2 i3 ⊢;refine ⟨(by show 2<=Y7;decide),λ d8 f3=>?_⟩
 have f4:=Aj f3 (.lst [.ref N,.ref O]);have f5:upd i4 d8 (.lst [.ref N,.ref O]) d8=some (.lst [.ref N,.ref O]):=Al;have p4:d8≠ld:=λ e=>by rw [e,f2 _ _ (f0 _ _ e8)] at f3;cases f3
 generalize upd i4 d8 (.lst [.ref N,.ref O])=f6 at f4 f5 ⊢;have i5:=f2.trans f4;have l5:=f0.trans i5;have p5:=g7.trans l5;have l6:=l5 _ _ e8;have l7:=i5 _ _ l3;have j6:=f4 _ _ i3;have dl:tabOf (a++b)=(tabOf a).then (tabOf b):=Hj a b;generalize f7:[(tabOf b).a * (tabOf a).a+(tabOf b).b * (tabOf a).c,(tabOf b).a * (tabOf a).b+(tabOf b).b * (tabOf a).d,(tabOf b).c * (tabOf a).a+(tabOf b).d * (tabOf a).c,(tabOf b).c * (tabOf a).b+(tabOf b).d * (tabOf a).d]=i6;have s3:e7≠ld:=λ e=>by rw [<- e,c7 _ _ h9] at c8;cases c8
 have dvs:∀{j3:V} {q:Rat} {r:Hp},Same b8 r->DV K d6 j3 (Ai q)->DV K r j3 (Ai q):=λ s' b5=>(b5.keep c7).keep s'
 refine ⟨d8,rfl,⟨_,SqL.of f5⟩,?_⟩;refine Gr (K:=K) (a:=d8) (xs:=[.ref N,.ref O]) (λ i a9 r=>∃c9 R ds,a9=[some (.ref o),some (.str x),some (.str y),some (.int (a.length:Int)),some v,g3,g4,some (.ref e7),some (.ref g6),some (.ref ld),c9,R]/\Same b8 r/\SD ld f6 r/\r ld=some (.lst ds)/\DVs K r ds ((i6.take (2 * i)).map Ai)) ⟨_,_,[],rfl,p5,SD.refl _ _,l6,.nil⟩ ?_ ?_ ?_
 ·rintro i a9 r g9 ⟨c9,R,ds,rfl,s',d0,X,b0⟩
  exact SqL.of (d0 _ _ p4 f5)
 ·rintro i j3 a9 r g9 ⟨c9,R,ds,rfl,s',d0,X,b0⟩
  obtain ⟨pr,b9,c0,j7,j8,rfl,l8,l9,m0,m1,m2,m3,m4⟩:∃(pr:Addr) (b9 c0:Rat) (j7 j8:V),j3=.ref pr/\pr≠ld/\f6 pr=some (.lst [j7,j8])/\DV K b8 j7 (Ai b9)/\DV K b8 j8 (Ai c0)/\Bd 614 b9/\Bd 614 c0/\i6[2 * i]?=some (b9 * (tabOf a).a+c0 * (tabOf a).c)/\i6[2 * i+1]?=some (b9 * (tabOf a).b+c0 * (tabOf a).d):=by
   have p6:i=0\/i=1:=by have:=CK g9;simp only [X4,YR] at this;omega
   rcases p6 with rfl | rfl
   ·cases g9
    exact ⟨N,_,_,a5,a6,rfl,p2,l7,e1,e2,tb _ (by simp),tb _ (by simp),by rw [<- f7];exact ⟨rfl,rfl⟩⟩
   ·cases g9
    exact ⟨O,_,_,a7,a8,rfl,p3,j6,p0,p1,tb _ (by simp),tb _ (by simp),by rw [<- f7];exact ⟨rfl,rfl⟩⟩
  refine ⟨2,rfl,by decide,by decide,?_⟩
  refine IK (lo:=0) (n:=2) (λ j a9 G=>∃R ds,a9=[some (.ref o),some (.str x),some (.str y),some (.int (a.length:Int)),some v,g3,g4,some (.ref e7),some (.ref g6),some (.ref ld),some (.ref pr),R]/\Same b8 G/\SD ld f6 G/\G ld=some (.lst ds)/\DVs K G ds ((i6.take (2 * i+j)).map Ai)) ⟨_,ds,rfl,s',d0,X,b0⟩ ?_ ?_
  ·rintro j a9 G s4 ⟨j9,b1,rfl,b2,Y,L,Z⟩
   obtain ⟨f8,f9,b3,b4,p7,p8,S,U,m5,m6,p9⟩:∃(f8 f9:Rat) (b3 b4:V),atI [J,d7,j4,j5] (0+(j:Int))=some b3/\atI [J,d7,j4,j5] (2+(0+(j:Int)))=some b4/\DV K d6 b3 (Ai f8)/\DV K d6 b4 (Ai f9)/\Bd 614 f8/\Bd 614 f9/\i6[2 * i+j]?=some (b9 * f8+c0 * f9):=by
    have q0:j=0\/j=1:=by omega
    rcases q0 with rfl | rfl
    ·exact ⟨_,_,J,j4,rfl,rfl,o4,o6,e5 _ (by simp),e5 _ (by simp),m4.1⟩
    ·exact ⟨_,_,d7,j5,rfl,rfl,o5,o7,e5 _ (by simp),e5 _ (by simp),m4.2⟩
   have d1:=b2 _ _ (c7 _ _ h9);refine ⟨_,rfl,.inl ⟨rfl,_,SqL.of L⟩,_,rfl,_,rfl,_,rfl,e7,_,_,b3,rfl,rfl,SqL.of d1,p7,_,rfl,_,rfl,_,_,rfl,rfl,e7,_,_,b4,rfl,rfl,SqL.of d1,p8,(by show 2<=Y7;decide),λ h0 m7=>?_⟩
   have h1:=Aj m7 (.tup [b3,b4]);have m8:upd G h0 (.tup [b3,b4]) h0=some (.tup [b3,b4]):=Al;generalize upd G h0 (.tup [b3,b4])=q1 at h1 m8 ⊢;have t1:=b2.trans h1;have kp:=h1 _ _ (Y _ _ l8 l9);refine ⟨.ref pr,.ref h0,b9,c0,f8,f9,rfl,.lst (SqL.of kp) (.cons (m0.keep t1) (.cons (m1.keep t1) .nil)),.inr (.tup (SqT.of m8) (.cons (dvs t1 S) (.cons (dvs t1 U) .nil))),⟨g5 m2,g5 m3,g5 m5,g5 m6⟩,λ m9 k0 q2 q3=>?_⟩
   have d2:=h1.trans q2;have B:=d2 _ _ L;have r5:b1.length<=4:=by
    have:=Z.len;rw [Y3,XE] at this;rw [<- f7] at this;simp only [X4,YR] at this;omega
   refine ⟨ld,_,_,rfl,rfl,B,small1000 (by omega),?_⟩
   have q4:SD ld k0 (upd k0 ld (.lst (b1++[m9]))):=N5;have st:=q4.t B;refine ⟨_,b1++[m9],rfl,λ q5 q6 h2=>?_,λ q5 q6 i7 h2=>?_,Al,?_⟩
   ·rw [BK (Bq h2 c8)];exact (b2.trans d2) _ _ h2
   ·rw [BK i7];exact d2 _ _ (Y _ _ i7 h2)
   ·have q7:2 * i+(j+1)=(2 * i+j)+1:=by omega
    rw [q7,XV,p9,ZH];exact DVs.append (Eg st (Eu Rk _) (Z.keep d2)) (.cons (G9 st (Rk _) q3) .nil)
  ·rintro a9 G ⟨j9,b1,rfl,b2,Y,L,Z⟩
   exact ⟨_,_,b1,rfl,b2,Y,L,Z⟩
 ·rintro a9 r ⟨c9,R,ds,rfl,s',d0,X,b0⟩
  have n0:=l1.trans s';have g0:=C.keep n0;refine ⟨_,rfl,o,_,D,_,_,_,rfl,g0.o,rfl,G4 T a0,?_⟩;rw [show Y1 "table both"=Ew (Y1 "table") (Y1 "both") [] by decide+kernel]
  refine ⟨o,D,d,q,Y1 "both",_,_,a++b,[],_,rfl,g0,d9,c3,rfl,(λ _ b5=>nomatch b5),(λ e=>absurd e (by decide+kernel)),rfl,λ q1 t1=>?_⟩
  refine ⟨[(tabOf (a++b)).a,(tabOf (a++b)).b,(tabOf (a++b)).c,(tabOf (a++b)).d],rfl,by simp,by show 4<=5;decide,e6 o3,λ j2 us k0 t2 B i8=>?_⟩
  have d3:=t1.trans t2;refine ⟨_,rfl,?_⟩;have q8:[(tabOf (a++b)).a,(tabOf (a++b)).b,(tabOf (a++b)).c,(tabOf (a++b)).d]=i6:=by rw [dl,<- f7];rfl
  rw [q8] at i8;have q9:i6.take (2 * [V.ref N,V.ref O].length)=i6:=by rw [<- f7];rfl
  rw [q9] at b0;refine az (.lst (SqL.of B) i8) (.lst (SqL.of (d3 _ _ X)) (b0.keep d3)) (JF (Qc GQ _)) ?_;exact k _ (k5.trans (Lib.SD.ofSame (n0.trans d3))) (g0.keep d3)
theorem Yi {bs:List Addr}(m:Int)(d:(0:Int) < (((bs.map V.ref).length:Nat):Int)):∃j:Nat,m % (((bs.map V.ref).length:Nat):Int)=(j:Int)/\j < bs.length:=by
 have a:=UF m (Int.ne_of_gt d);have b:=WZ m d;refine ⟨(m % (((bs.map V.ref).length:Nat):Int)).toNat,by omega,?_⟩
 rw [Y3] at a b ⊢;omega
theorem Hq {H a:Hp}{d l:Addr}{xs:List V}{j:CP}{n:Nat}{q:List Addr}{C o b:Addr}(f:DkA K H q C o b d j n)(g:H l=some (.lst xs))(s:SD d H a):a l=some (.lst xs):=by
 obtain ⟨i,h,_,_⟩:=f.d;exact s _ _ (λ e=>by rw [e,h] at g;cases g) g
theorem Jv {H a:Hp}{d:Addr}{v:V}{r:Rat}{h:CP}{n:Nat}{q:List Addr}{C o b:Addr}(e:DkA K H q C o b d h n)(i:DV K H v (Ai r))(s:SD d H a):DV K a v (Ai r):=by
 obtain ⟨g,f,_,_⟩:=e.d;exact G9 (Ls f s) (by rfl) i
theorem j7 (T:Txt K mg ad)(M:w.params=ad.pr){h7:Addr}{fd:UE}(m3:Fun K "law" "law" KN h7 fd):FnB P w K mg base true 20 h7 fd ["_law_script"] (spLaw K):=by
 refine m3.okB El (λ vs H Q E f4=>?_) (λ l5 A outer s H vs Q E u f4=>?_)
 ·obtain ⟨a,ns,rfl,_⟩:=f4;rfl
 obtain ⟨a,ns,rfl,f5,l6,k⟩:=f4;refine ⟨_,(Ae (Ar (i:=1) El.nd (Ah (lD T) u.m Ag (Ac (pv 0) (BP Ab Aa)))) (Ae (Ar (i:=2) El.nd (Ak DR (Ah (zT T) u.m Ag (Ac (pv 0) (BP Ab Aa))) Ab)) (Ae (Ey (Ah (uX T M) u.m Ag (Ac (pv 1) (Ac (pv 2) (BP Ab Aa)))) (Ii (n:=3) rfl (Cy (Bc (i:=3) El.nd) (Cy (Bc (i:=4) El.nd) (Cy (Bc (i:=5) El.nd) Gf))))) (Ae (Aw (Az Ig (pv 3) DX) (Af (Am CQ)) Ax) (Ae (Dm Xs rfl (DY (Ak G5 (DP Fg (pv 0) (CZ Ab) (CZ Ab)) (Bu (BL (Be Cp rfl T.len Ce (Ac (pv 0) Aa)) Aa)))) (Bc (i:=6) El.nd) (Ae (Ar (i:=2) El.nd (Ak Gm (Ak DR (Ak Ea (pv 6) Ab) Ab) Ab)) (Ae (Ar (i:=7) El.nd (Bu (BL (Ah (iG T) u.m Ag (Ac (pv 1) (BP CQ Aa))) (BL (Ah (iG T) u.m Ag (Ac (pv 1) (BP CQ Aa))) Aa)))) (Ae (Ar (i:=8) El.nd (Ak DR (pv 2) (Be Cp rfl T.len Ce (Ac (pv 5) Aa)))) (Ae (Ar (i:=9) El.nd (Ak DR (Ak Gm (pv 2) Ab) (Be Cp rfl T.len Ce (Ac (pv 5) Aa)))) (Ae (Aw (PW.pt (pw_or (Bt (Bj (Ah (oO T M) u.m Ag (Ac (pv 3) (Ao (Ad ix_list (pv 4) (pv 8)) (Ao (Ad ix_list (pv 7) Ab) Aa)))))) (pw_or1 (Bt (Bj (Ah (yc T M) u.m Ag (Ac (pv 3) (Ao (Ad ix_list (pv 4) (pv 8)) (Ac (pv 7) Aa))))))))) (Af (Am CQ)) Ax) (Ae (Aw (Bt (Bj (Ah (YG T M) u.m Ag (Ac (pv 3) (Ao (Ad ix_list (pv 4) (pv 8)) Aa))))) (Af (Am CQ)) Ax) (Ae (Ar (i:=10) El.nd (Be Cp rfl T.len Ce (Ao (Ad ix_list (pv 5) (pv 8)) Aa))) (Ae (Aw (Bt (Bj (Ah (n6 T M) u.m Ag (Ac (pv 3) (Ao (Ad ix_list (pv 4) (pv 8)) (Ao (Ad ix_list (pv 4) (pv 9)) (Ac (pv 10) (Ac (pv 7) Aa)))))))) (Af (Am CQ)) Ax) (Af (Aw (PW.pt (pw_or (Bt (Bj (Ah (cL T M) u.m Ag (Ac (pv 3) (BP BJ (Ao (Ad ix_list (pv 7) Ab) Aa)))))) (pw_or1 (Bt (Bj (Ah (YG T M) u.m Ag (Ac (pv 3) (BP BJ Aa)))))))) (Af (Am CQ)) Ax))))))))))) (Af (Am CQ))))))),?_⟩
 refine ⟨_,rfl,a,ns,109,rfl,f5,by decide,by decide,λ q c m4 f6 k6 nc d6=>?_⟩
 have d7:=f5.keep f6;refine ⟨_,rfl,a,ns,0,rfl,d7,by decide,λ z=>⟨_,_,rfl,rfl,(by show (0:Int) < 2147483647;decide),?_⟩⟩
 have d8:=UF z (show (2147483647:Int)≠0 by decide)
 have d9:=WZ z (show (0:Int) < 2147483647 by decide)
 dsimp only
 generalize z % 2147483647=z at d8 d9 ⊢;refine ⟨_,rfl,_,rfl,q,c,10000,z,rfl,d6.le (by decide),d8,d9,λ r o N d O lb f7 n bs h8 c5 a6 e0 f8 p=>?_⟩
 refine ⟨r,_,rfl,SqL.of e0,rfl,_,_,rfl,_,_,rfl,_,_,rfl,rfl,?_⟩;have e3:Same H c5:=λ b o e=>a6 b o (Bq e k6) (Bq e nc) (f6 b o e)
 have b0:=f5.keep e3;clear a6 e0 d7 f6 d6 e3;refine ⟨_,rfl,rfl,_,rfl,BR rfl ?_⟩;refine ⟨_,rfl,_,rfl,_,rfl,a,_,rfl,b0,λ f9 e4=>?_⟩
 have b3:=Aj e4 (.lst (cutV (ns.map V.int) (some 1) (some 7)));have g0:=pZ (ns.map V.int) 1 7
 change (cutV (ns.map V.int) (some 1) (some 7)).length<=_ at g0
 have g1:=oF ns (some 1) (some 7);generalize cutV (ns.map V.int) (some 1) (some 7)=D at b3 g0 g1 ⊢;refine ⟨_,rfl,a,_,rfl,.inl (b0.keep b3),(by show 1<=Y7;decide),λ g2 e5=>?_⟩
 generalize m5:(((ns.map V.int).length:Nat):Int)=nn;have c6:=Aj e5 (.lst [.int nn]);refine ⟨f9,g2,_,_,rfl,rfl,c6 _ _ Al,Al,XP (small1000 (by simp only [X4,YR];omega)),λ F Y=>⟨F,rfl,⟨_,SqL.of Al⟩,?_⟩⟩
 have h9:=Aj Y (.lst (D++[.int nn]));have t3:=b3.trans (c6.trans h9);have b4:=p.keep (b3.trans c6);have i0:F≠q:=b4.dr.nd Y;have i1:F≠c:=b4.dr.nc Y;have i2:∀x∈D++[V.int nn],∃z:Int,x=.int z:=λ x k7=>by
  rcases XO.mp k7 with f4 | f4
  ·exact g1 x f4
  ·exact ⟨nn,U0.mp f4⟩
 have i3:(D++[V.int nn]).length<=7:=by rw [X9];simp only [X4,YR];omega
 have R:upd (upd (upd c5 f9 (.lst D)) g2 (.lst [.int nn])) F (.lst (D++[.int nn])) F=some (.lst (D++[.int nn])):=Al;have p:=p.keep t3;generalize upd (upd (upd c5 f9 (.lst D)) g2 (.lst [.int nn])) F (.lst (D++[.int nn]))=g3 at R p ⊢;generalize D++[V.int nn]=i4 at i2 R i3 ⊢;clear b3 c6 h9 t3 b4 e4 e5 Y b0 g1 g0;refine Gr (K:=K) (a:=F) (xs:=i4) (λ i c7 b5=>∃c8 c9 d0 d1 d2 Z f7 n,c7=[some (.ref a),some (.ref q),c8,some (.ref o),some (.ref O),some (.ref lb),c9,d0,d1,d2,Z]/\Lw73 K b5 ad.Desk o N d O lb q c (10000 - 14 * i) f7 n z bs h8/\n<=3+5 * i/\b5 F=some (.lst i4)) ⟨_,_,_,_,_,_,f7,n,rfl,p,by omega,R⟩ ?_ ?_ ?_
 ·rintro i c7 b5 g4 ⟨c8,c9,d0,d1,d2,Z,f7,n,rfl,p,f8,G⟩
  exact SqL.of G
 ·rintro i v c7 b5 g4 ⟨c8,c9,d0,d1,d2,Z,f7,n,rfl,p,f8,G⟩
  have l7:=CK g4;obtain ⟨y,rfl⟩:=i2 v (ZN g4);have m6:=p.m.2;have a0:(0:Int) < (((bs.map V.ref).length:Nat):Int):=by rw [Y3];have:=p.m.1;omega
  refine ⟨_,rfl,_,_,rfl,rfl,.inr ⟨by decide,by decide⟩,_,_,rfl,rfl,(by show (0:Int) < 2147483647;decide),_,_,rfl,rfl,⟨by decide,by decide⟩,?_⟩
  dsimp only
  generalize y * 16807 % 2147483647 / 8=i5;have e6:DrG b5 q c (10000 - 14 * (i+1)+7+7):=p.dr.le (by omega)
  refine ⟨_,rfl,q,c,_,false,rfl,e6,λ a7 c5 g5 b6 a6 i6 b1=>?_⟩
  refine ⟨_,rfl,q,c,_,false,rfl,b6,λ a8 g3 g6 e7 d3 i7 b2=>?_⟩
  refine ⟨(by show 2<=Y7;decide),λ S i8=>?_⟩
  have a9:=Aj i8 (.lst [a7,a8]);have d4:upd g3 S (.lst [a7,a8]) S=some (.lst [a7,a8]):=Al;have a1:=(G9 (b6.t d3) rfl i6).keep a9;have b7:=i7.keep a9;have f:=p.draw (e7.keep a9) (a6.trans (d3.trans (a9.se q c)));have U:=(a6.trans (d3.trans (a9.se q c))) _ _ i0 i1 G;generalize upd g3 S (.lst [a7,a8])=m7 at d4 a1 b7 f U ⊢;clear a9 e7 b6 a6 d3 i6 i7 i8 G p e6;refine ⟨_,rfl,_,rfl,lb,_,rfl,.inl (SqL.of f.hl),_,_,rfl,rfl,a0,?_⟩;dsimp only
  obtain ⟨j,k8,g⟩:=Yi i5 a0;rw [k8];refine ⟨_,rfl,_,_,rfl,rfl,⟨by decide,by decide⟩,_,rfl,lb,_,rfl,.inl (SqL.of f.hl),_,_,rfl,rfl,a0,?_⟩
  dsimp only
  obtain ⟨k9,i9,a2⟩:=Yi (i5 / 4) a0;rw [i9];have e1:∀{j:Nat},j < bs.length->((WC 4).map λ k=>V.str (called z (k:Nat)))[j]?=some (.str (called z j)):=λ {j} g=>by
   rw [Ya,List.getElem?_range (by omega)]
   rfl
  have e2:∀{j:Nat} {b:Addr},bs[j]?=some b->(bs.map V.ref)[j]?=some (.ref b):=λ {j b} e=>by rw [Ya,e];rfl
  have nm:∀{j:Nat},j < bs.length->Nm (called z j):=λ {j} g=>Xr z (by omega) (by omega)
  have B:∀{j:Nat},j < bs.length->called z j∉Es:=λ {j} g m=>YX z (show j < 4 by omega) m rfl
  have j0:called z j≠Y1 "apart":=λ e=>B g (by rw [e];decide+kernel)
  obtain ⟨b,ps,g7,l0,ok,sx⟩:=f.ps g;refine ⟨_,rfl,_,rfl,_,rfl,O,_,_,_,rfl,rfl,SqL.of f.nm,Bm (e1 g),_,rfl,S,_,_,a7,rfl,rfl,SqL.of d4,rfl,?_⟩;refine ⟨o,N,d,[q,c],called z j,f7,n,ps,a7,g5,rfl,f.ds,f.there,by omega,nm g,B g,sx,ok,a1,b1,λ d5 j1 m8 I j2 l8 j3 e8=>⟨_,rfl,iteF ?_⟩⟩
  have g8:=Hq f.ds d4 I;have b8:=Hq f.ds U I;have W:=Jv f.ds a1 I;have X:=Jv f.ds b7 I;have a3:=f.made I j2 e8;have b9:d5 (called z j)=some ps:=(e8 _ (B g)).trans sx;refine ⟨_,rfl,_,rfl,_,rfl,O,_,_,_,rfl,rfl,SqL.of a3.nm,Bm (e1 g),_,rfl,?_⟩;refine ⟨o,N,d,[q,c],called z j,d5,j1,ps,.ref S,g5,g6,rfl,a3.ds,nm g,b9,j3,.lst (SqL.of g8) (.cons W (.cons X .nil)),b1,b2,λ m9 c0=>⟨_,rfl,iteF ?_⟩⟩
  have l:=a3.keep c0;refine ⟨_,rfl,_,rfl,_,rfl,O,_,_,_,rfl,rfl,SqL.of l.nm,Bm (e1 g),?_⟩;refine ⟨o,N,d,[q,c],called z j,d5,j1,ps,rfl,l.ds,l.there,by omega,nm g,j0,b9,λ g9 l1 n0 J j4 l9 j5=>⟨_,rfl,iteF ?_⟩⟩
  have j6:=Hq l.ds (c0 _ _ g8) J;have h0:=Hq l.ds (c0 _ _ b8) J;have h1:=Jv l.ds (W.keep c0) J;have c1:=Jv l.ds (X.keep c0) J;have c2:∀y,y∉Es->g9 y=d5 y:=λ y c3=>j5 y λ e=>c3 (by rw [e];decide+kernel)
  have h:=l.made J j4 c2;clear a3 l W X g8 b8 a1 b7 d4 U l0 g7;obtain ⟨b,C,g7,⟨xs,j8,_,j9⟩,e9,f0⟩:=h.ps g;obtain rfl:C=ps:=by
   have:=(c2 _ (B g)).trans b9;rw [f0] at this;exact XY this
  obtain ⟨m0,L,m1,_,f1,k0⟩:=h.ps a2;refine ⟨_,rfl,_,rfl,lb,_,_,_,rfl,rfl,SqL.of h.hl,Bm (e2 g7),b,_,rfl,.inl (SqL.of j8),?_⟩;show tSeq _ _ _ _ _;rw [j9];refine ⟨_,rfl,_,rfl,_,rfl,O,_,_,_,rfl,rfl,SqL.of h.nm,Bm (e1 g),_,rfl,_,rfl,O,_,_,_,rfl,rfl,SqL.of h.nm,Bm (e1 a2),_,rfl,_,rfl,?_⟩;refine ⟨o,N,d,[q,c],called z j,called z k9,g9,l1,C,L,.ref S,g5,g6,rfl,h.ds,h.there,by omega,nm g,nm a2,B g,B a2,f0,k0,e9,f1,.lst (SqL.of j6) (.cons h1 (.cons c1 .nil)),b1,b2,λ n1 a4 k1=>⟨_,rfl,iteF ?_⟩⟩
  have l2:=Hq h.ds j6 a4;have h2:=Hq h.ds h0 a4;have h3:=Jv h.ds c1 a4;have f2:setB g9 (Y1 "both") (C++L) (Y1 "both")=some (C++L):=if_pos rfl;have f3:=h.made a4 k1 λ y c3=>if_neg λ e=>c3 (by rw [e];decide+kernel)
  have k2:Nm (Y1 "both"):=JB _ (by decide+kernel)
  refine ⟨_,rfl,_,rfl,S,_,_,a8,rfl,rfl,SqL.of l2,rfl,?_⟩;refine ⟨o,N,d,[q,c],Y1 "both",_,_,C++L,a8,g6,rfl,f3.ds,k2,f2,e9.two f1,h3,b2,λ n2 k3=>⟨_,rfl,iteF ?_⟩⟩
  have a5:=f3.keep k3;refine ⟨_,rfl,o,N,d,[q,c],Y1 "both",_,_,C++L,rfl,a5.ds,a5.there,by omega,k2,by decide+kernel,f2,λ k4 k5 m2 c4 h4 l3 h5=>⟨_,rfl,iteF ?_⟩⟩
  have h6:=a5.made c4 h4 λ y c3=>h5 y λ e=>c3 (by rw [e];decide+kernel)
  exact ⟨_,_,_,_,_,_,k4,k5,rfl,h6,by omega,Hq a5.ds (k3 _ _ h2) c4⟩
 ·rintro c7 l4 ⟨c8,c9,d0,d1,d2,Z,f7,n,rfl,p,f8,G⟩
  exact k l4
theorem AG6 {a:Addr}(d:TopFn K mg "law" KN)(b:mg "law"=some (.ref a)):∃fd,Fun K "law" "law" KN a fd/\(∀(s:X2) (u:Value),NR s fd ⟨[u],[]⟩ [("_law_script",u)])/\fd.scope.names.lookup ("_law_script":Y2)=some QN.local:=by
 obtain ⟨f,fd,d,e⟩:=d.ex;cases b.symm.trans e
 obtain ⟨j,k,kV,g,m,n,h,ct,i,rfl,l,c⟩:=id d.ex;exact ⟨_,d,λ s u=>.of_eq rfl,rfl⟩
end
end K73
namespace K73
open PySem L2 Lib
theorem walk {l:PySem.W.OpenLaw}{q:ZY}{b:List Str}{i:(Str->Option Value)->Heap->Prop}{c:World->Heap->Prop}{d:DefRec}{K:GU->FrG}(j:l.most=some 63)(e:d.params.defaults=[])
  (m:∀(w:World) (g:Heap),c w g->(K w.params).In g)
  (p:∀(w:World) (mg:Str->Option Value) (h:Addr) (g:Heap),(K w.params).In g->g.Ns Zi mg->mg d.name=some (.ref h)->
   ∃fd:UE,((∀(s:X2) (u:Value),NR s fd ⟨[u],[]⟩ [("_law_script",u)])/\fd.scope.names.lookup ("_law_script":Y2)=some QN.local)/\∀base:Heap,(K w.params).In base->base.Ns Zi mg->FnOk l.prog w (K w.params) mg base (GD l.prog w) 20 h fd ["_law_script"] (spLaw (K w.params))):
  PySem.W.WalkO q b i c l.row.toRowW d [] (λ f vs=>PySem.call f vs):=
 L2.walk_of (n:=63) (k:=20) (x:="_law_script") (CX:=λ w=>GD l.prog w) (sp:=λ w=>spLaw (K w.params)) j (by decide) e ⟨rfl,by decide,by decide⟩ m p (λ _ _ a ns hl _ o=>⟨a,ns,rfl,o,hl,λ _=>rfl⟩) λ _ _ _ _ _ r=>by
  obtain ⟨_,_,_,_,_,_,_,_,_,_,_,_,q⟩:=r;exact q
end K73
end
namespace PySem.W.Fast
def tw139148684841592701:=()
def tw17002405526765189101:=()
def tw8844723003855388325:=()
def tw5366986224034566159:=()
def tw10162641828552846281:=()
def tw493116036101261543:=()
def tw12193210363188691588:=()
def tw3340756693554533004:=()
def tw3035035765117810279:=()
def tw4069315374328034308:=()
def tw10154660033081105774:=()
def tw13722078195129781378:=()
def tw258680367297447165:=()
def tw15928745028271316988:=()
def tw781332757137085857:=()
def tw8931361756682529982:=()
def tw2960079166904479232:=()
def tw15863016327522030601:=()
def tw5913754758248522366:=()
def tw18021337132393627386:=()
def tw18303806182798050018:=()
def tw14744731957452181633:=()
def tw5366728490437570482:=()
def tw17644163471637374151:=()
def tw11708526026180684052:=()
def tw12734686741755096956:=()
def tw5601052825622650869:=()
def tw10437753877652462429:=()
def tw2935029442574395002:=()
def tw6672048050093098055:=()
def tw6076933950175616538:=()
def tw18282864424725077358:=()
def tw14089172998249578942:=()
def tw9402265787656464123:=()
def tw14098315861441486405:=()
def tw8841177632554154104:=()
def tw170307428942390715:=()
def tw2240393364720875810:=()
def tw1752245718714636792:=()
def tw12405549342364144279:=()
def tw2908053897640784279:=()
def tw3811461509444718579:=()
def tw18443734810299954675:=()
def tw14818793868974737178:=()
def tw14252486126657839455:=()
def tw6106516168621912197:=()
def tw13616021105148917771:=()
def tw7361251387135634201:=()
def tw8532965392279147398:=()
def tw5239247489881590209:=()
def tw17489195597066590659:=()
def tw14879657050101275438:=()
def tw226678652746588963:=()
def tw16627599982329320908:=()
def tw18356863690098678623:=()
def tw15021467729026586122:=()
def tw6542077439209822043:=()
def tw15954670243019479280:=()
def tw10685821208428070754:=()
def tw11505451555538473453:=()
def tw6425847224805074355:=()
def tw16012225628024615850:=()
def tw15586359063824706528:=()
def tw6029557910819666515:=()
def tw28603076470541766:=()
def tw1868676429167746221:=()
def tw10822667765362814378:=()
def tw8020935275609379190:=()
def tw3960045131650084923:=()
def tw16447474388010856228:=()
def tw16910617358012430099:=()
def tw2503741960080640319:=()
def tw4448121444364214892:=()
def tw9018881953783397081:=()
def tw4969125939391847715:=()
def tw2707271876536506321:=()
def tw12752805138321164126:=()
def tw4374018664863449972:=()
def tw845095300012409261:=()
def tw11642033719133170883:=()
def tw15659662034456528485:=()
def tw1887520599012739050:=()
def tw2224622237748096524:=()
def tw7501205353439783426:=()
def tw10235895466239956604:=()
def tw18020808362080719402:=()
def tw18182244351190476291:=()
def tw1098614600239454972:=()
def tw13335048886517270032:=()
def tw14032341165051807678:=()
def tw16284615773739961127:=()
def tw17212699678786928810:=()
def tw12469572148357112214:=()
def tw8048297287010816830:=()
def tw8462543310134122193:=()
def tw5088067296129106015:=()
def tw12197195043451148189:=()
def tw10915852475782483484:=()
def tw10170001898748360363:=()
def tw4473871212760683633:=()
def tw16965515114733509576:=()
def tw369651558314566806:=()
def tw8920859217457029005:=()
def tw14299238306445572208:=()
def tw10076028308071647003:=()
def tw12362119396550734004:=()
def tw12512798045809094818:=()
def tw11070934934049252230:=()
def tw1930999050765810267:=()
def tw16852877348319254472:=()
def tw12592547397438358273:=()
def tw2543946559913877792:=()
def tw966585345965024159:=()
def tw7162640165084638475:=()
def tw13445979909455313063:=()
def tw560645474057395665:=()
def tw7876409670998227898:=()
def tw11709661618274708574:=()
def tw17851850283039754770:=()
def tw1356219215823958913:=()
def tw15854317602946732233:=()
def tw7086971590047816708:=()
def tw370460081206623985:=()
def tw1190560861587348643:=()
def tw4099262075800670908:=()
def tw2523907636454589138:=()
def tw11212654340636465492:=()
def tw6051363458542679201:=()
def tw12906885939867648282:=()
def tw7419302964025036622:=()
def tw3844344074196166333:=()
def tw15905816082527987312:=()
def tw7594504589602761686:=()
def tw9436058041178700944:=()
def tw4841699371207116081:=()
def tw1310462027513943248:=()
def tw9761107724429617286:=()
def tw18204339803228079651:=()
def tw8906682042609877419:=()
def tw10009278062027901453:=()
def tw3031757419461804338:=()
def tw6895214414979394951:=()
def tw2505788406262049935:=()
def tw6316008391355529503:=()
def tw17398201123116108036:=()
def tw8684210857559581266:=()
def tw16724350421682505442:=()
def tw1609809102549062345:=()
def tw15202217163900028118:=()
def tw8174213273909433203:=()
def tw14104283670694042978:=()
def tw852166637041925105:=()
def tw17873899046268667253:=()
def tw9604870642210038815:=()
def tw1477313697320294917:=()
def tw17299109873877851637:=()
def tw2927977023262471733:=()
def tw5308312714264396867:=()
def tw7671879965670663469:=()
def tw10838332676904567129:=()
def tw11707138600212788523:=()
def tw8427166427216134595:=()
def tw14481037375003661908:=()
def tw12866901190226217995:=()
def tw16404097797241315995:=()
def tw1712792285069482247:=()
def tw8286927407183384047:=()
def tw18318865169955348329:=()
def tw6520111408432594839:=()
def tw6548002429258019084:=()
def tw17046138232840658073:=()
def tw15575625225858341218:=()
def tw238713627862675056:=()
def tw4433745187522862256:=()
def tw15599210652375739227:=()
def tw10502661448706182272:=()
def tw11941681689863404690:=()
def tw17134677580444710837:=()
def tw13926758380052999388:=()
def tw11636540516380096631:=()
def tw8014046642095096351:=()
def tw12825496660389010632:=()
def tw10744140003110412732:=()
def tw17852148266735930545:=()
def tw16715464352264143239:=()
def tw16077279917479382065:=()
def tw1056449946658577384:=()
def tw6425511630059495104:=()
def tw6566906203978186785:=()
def tw8700021204853253649:=()
def tw3810971371559009020:=()
def tw731077369895024841:=()
def tw18135962903156236756:=()
def tw4231572415633584265:=()
def tw11363443919531321683:=()
def tw8755567785885225748:=()
def tw14080428867049436362:=()
def tw4785847689585525252:=()
def tw897295741555299121:=()
def tw7032635920237759973:=()
def tw3939225504440955542:=()
def tw2000299945633385791:=()
def tw8980730203507661042:=()
def tw4045939549529984055:=()
def tw6624109214897155817:=()
def tw8775237950061266241:=()
def tw17710954655696831655:=()
def tw4948957727193734731:=()
def tw2503137405019002981:=()
def tw4434438940461528149:=()
def tw3272849416551594307:=()
def tw4514979719958288367:=()
def tw1969378655166328759:=()
def tw10932804217379573176:=()
def tw74103393656659009:=()
def tw6566764966314565392:=()
def tw1353761557165367865:=()
def tw9714457148176599842:=()
def tw12017039225439909382:=()
def tw1136567678996623636:=()
def tw6325528400188238334:=()
def tw6004346778274287665:=()
def tw7592662778495488791:=()
def tw1167217559412758016:=()
def tw6819060492475205709:=()
def tw9803337039016846379:=()
def tw2427289374313767000:=()
def tw13035135806103842:=()
def tw1131980004725990534:=()
def tw5963621198725122701:=()
def tw10870245881065221886:=()
def tw9665275024556030776:=()
def tw17609717186137123414:=()
def tw8874113363314102100:=()
def tw12492429989983386310:=()
def tw10303012781008085381:=()
def tw16003122171401769239:=()
def tw16010139897321177983:=()
def tw4445748478128202649:=()
def tw17853871981033277641:=()
def tw15966097045059517410:=()
def tw16937429837490979728:=()
def tw482393947782596922:=()
def tw4103019896351907962:=()
def tw12823253249602568507:=()
def tw14644936604150514518:=()
def tw17313103945562267914:=()
def tw16653334969446055740:=()
def tw11291741503540124271:=()
def tw8742727257623676200:=()
def tw6495218547942476503:=()
def tw17779933400802200513:=()
def tw6010078423891734311:=()
def tw12395615896962533360:=()
def tw4337417833808298271:=()
def tw10792893145792168362:=()
def tw2159683315412266995:=()
def tw16384295369013438691:=()
def tw18372688862250500632:=()
def tw11923197337543134718:=()
def tw15858732064880502511:=()
def tw1032002287855501142:=()
def tw16853125885458393537:=()
def tw11814802759724723550:=()
def tw13598704491541824544:=()
def tw9416103440575229251:=()
def tw13326075496731641964:=()
def tw5616590331788835317:=()
def tw16304924656371754002:=()
def tw15301757312085643172:=()
def tw17111332476771381686:=()
def tw9507013735687401152:=()
def tw3016562501281656875:=()
def tw1713382591140910646:=()
def tw12635708910645631197:=()
def tw2261532229748201136:=()
def tw13963945789786602909:=()
def tw4195052104176477773:=()
def tw16172985840539959439:=()
def tw3973330610266855481:=()
def tw10340052217301219700:=()
def tw2759758406919817783:=()
def tw9795394582174954391:=()
def tw11137898709831084364:=()
def tw10435706606960851595:=()
def tw14047859781998795304:=()
def tw14775616927187866027:=()
def tw823293638316260109:=()
def tw15528418162091420463:=()
def tw370551658023581705:=()
def tw8808791807310920117:=()
def tw6315521976104136345:=()
def tw10088590723797751141:=()
def tw18063610067187370237:=()
def tw1245433006429178816:=()
def tw3377015161358096904:=()
def tw7195998652756604303:=()
def tw585826525887045300:=()
def tw2977480357480611410:=()
def tw17976349776171351551:=()
def tw2797173250964454807:=()
def tw17076722383580082989:=()
def tw9146872788951744211:=()
def tw15788561413432030144:=()
def tw15970743218976592668:=()
def tw7628760049179203371:=()
def tw15130217309336645122:=()
def tw4301812551445910973:=()
def tw12160154812634919944:=()
def tw7829296572250465010:=()
def tw4943215851265946518:=()
def tw9030508613997506304:=()
def tw1274679307870102686:=()
def tw5237651884609299062:=()
def tw8653792997241370497:=()
def tw5104378824155419936:=()
def tw13723044921279949427:=()
def tw2183638822799545036:=()
def tw17894371956142852725:=()
def tw15831961803776407161:=()
def tw6843727807736161437:=()
def tw3980599051726215504:=()
def tw3519914488846989185:=()
def tw1983041344395659134:=()
def tw16527209725733440534:=()
def tw6951359564291714353:=()
def tw16107221129976712294:=()
def tw2520342019042104171:=()
def tw10736230282351169985:=()
def tw16088844427198074047:=()
def tw3413576807995056110:=()
def tw11310735917198535757:=()
def tw17339091184542322512:=()
def tw8239173502803574584:=()
def tw13163559280617866278:=()
def tw8289218362933312401:=()
def tw14151365243989029551:=()
def tw11721945463555789355:=()
def tw1735280714681250134:=()
def tw17564815926179531266:=()
def tw14600677095506831202:=()
def tw10565411886685452053:=()
def tw12038243325059330842:=()
def tw4775359738547093074:=()
def tw17456558860897559782:=()
def tw14903580348694140908:=()
def tw4453430722916441962:=()
def tw10226647401840747012:=()
def tw8217249290615187046:=()
def tw18136361482167016308:=()
def tw10557172562461140494:=()
def tw3456711269930867230:=()
def tw4957853195579269134:=()
def tw5062070558555692951:=()
def tw9263206521855570507:=()
def tw17805275643914716183:=()
def tw12451712137111903110:=()
def tw1389742779754908070:=()
def tw6212442092581706642:=()
def tw5548561973394063982:=()
def tw3566585518942728625:=()
def tw17917328637168356977:=()
def tw13372962708139200942:=()
def tw10993276368092521527:=()
def tw5837175018562677355:=()
def tw11800070957228066234:=()
def tw8822541292628956543:=()
def tw14230892583200840349:=()
def tw330932976500563633:=()
def tw8971023180160684118:=()
def tw12948082388460311692:=()
def tw17234655510360789521:=()
def tw10678316939554498883:=()
def tw3131049820242912819:=()
def tw6136291260497312334:=()
def tw13132205657197456583:=()
def tw15095191003357606939:=()
def tw8239073780814356402:=()
def tw6877463578623862601:=()
def tw16723379369066046721:=()
def tw1476288705072216174:=()
def tw14472395195445276455:=()
def tw16189727162940585085:=()
def tw15333569713671384439:=()
def tw14599822817807932215:=()
def tw8618441237036858844:=()
def tw5271168830440315448:=()
def tw8387888004338872567:=()
def tw9612047580700599804:=()
def tw17116613497075410746:=()
def tw301637375247932289:=()
def tw11709174464214584171:=()
def tw13760094614219417957:=()
def tw11870087990785746943:=()
def tw4158803548593979057:=()
def tw14915395188109273205:=()
def tw13674629815618385239:=()
def tw17452336163062581511:=()
def tw5764894524749296842:=()
def tw6985428358880656066:=()
def tw10850229667942923441:=()
def tw14869989348004637165:=()
def tw8476967348286494360:=()
def tw5838497277008368180:=()
def tw14948569428339776624:=()
def tw13011771695593771798:=()
def tw11548754630975319314:=()
def tw4623187384016474924:=()
def tw8605849382298527205:=()
def tw2475756409058495188:=()
def tw8970664566437887038:=()
def tw201838041902774007:=()
def tw15107960290178066402:=()
def tw14191714922237850949:=()
def tw3514579801172957268:=()
def tw17352834907414493841:=()
def tw17866865706551758199:=()
def tw12417994931837105198:=()
def tw5613344456374447486:=()
def tw14524062010869545150:=()
def tw11665939673722524656:=()
def tw14397238357884425384:=()
def tw8028700838727278285:=()
def tw17860630377259966400:=()
def tw16603293891572478507:=()
def tw9339059616948622844:=()
def tw1771174994110361362:=()
def tw15881196028627036008:=()
def tw14441937469342622661:=()
def tw8884036618272047502:=()
def tw15399006026533864489:=()
def tw10896878998122544478:=()
def tw15233719760110504461:=()
def tw10417169994707950106:=()
def tw3208435073019740519:=()
def tw838762733411588874:=()
def tw3975412263176016921:=()
def tw15732056279600740372:=()
def tw14010776223464869107:=()
def tw13625686616670018228:=()
def tw15848071585369660034:=()
def tw1100135835624408277:=()
def tw17013837793723280130:=()
def tw12335520887112747082:=()
def tw9209689599966137809:=()
def tw1544319839339121094:=()
def tw10908778224505297637:=()
def tw5290910504619744262:=()
def tw4653019500567763664:=()
def tw3888416598648894280:=()
def tw18150149237284507501:=()
def tw17477321632820346321:=()
def tw17199822680812468019:=()
def tw15987967351756405807:=()
def tw15426165362346310111:=()
def tw16137263207524510773:=()
def tw7316000946525255063:=()
def tw4945267650200322327:=()
def tw2085748278092150673:=()
def tw17394362599834566248:=()
def tw15818517472803773871:=()
def tw14943024231394090250:=()
def tw14367261070357972604:=()
def tw13322435879622364343:=()
def tw13233543040106319339:=()
def tw12819948655918511042:=()
def tw12696954179880334497:=()
def tw9113812707336363557:=()
def tw5983760851315753532:=()
def tw16615078185185496185:=()
def tw11448641795320078858:=()
def tw8522739412443536214:=()
def tw4774646477806190648:=()
def tw4469304050292323045:=()
def tw4074305647811683654:=()
def tw3376212467175422132:=()
def tw3059016206923633973:=()
def tw1026999510271333010:=()
def tw8496462339050988466:=()
def tw8157268050903762764:=()
def tw3913333836795068612:=()
def tw18364515424865391924:=()
def tw17051979521292161886:=()
def tw11421701465389726132:=()
def tw15147314127055766767:=()
def tw7579548731640237195:=()
def tw7410349014972162391:=()
def tw6331264432968366413:=()
def tw5127536803476858360:=()
def tw10885958346051074775:=()
def tw9226902638276243611:=()
def tw655023140542508585:=()
def tw5067469822625345565:=()
def tw4985102687872445748:=()
def tw4098367379692988621:=()
def tw3025906752629658395:=()
def tw17356281413616048934:=()
def tw16645605391286576156:=()
def tw13233198993472035997:=()
def tw11171805606111196539:=()
def tw9487189815741972929:=()
def tw9055723369222579077:=()
def tw7760929278345112405:=()
def tw4805770034996398318:=()
def tw3898437548338962920:=()
def tw1436592040456312701:=()
def tw14030235883000940873:=()
def tw10895889869582549003:=()
def tw10544861908499615059:=()
def tw2309287000917805022:=()
def tw11951306323704783916:=()
def tw512847617058937946:=()
def tw4481618396695737226:=()
def tw11525991321589766183:=()
def tw8239180150184499888:=()
def tw4089649913318028685:=()
def tw3975831082954463591:=()
def tw2304710945662636400:=()
def tw17643905449178164551:=()
def tw12610588688956593474:=()
def tw4027461010709911010:=()
def tw9019262961837491321:=()
def tw1318597635393070647:=()
def tw11969976002511261921:=()
def tw13556111705778679386:=()
def tw16133611521470318083:=()
def tw14925307671089606708:=()
def tw14439098651279084053:=()
def tw7037522190078959755:=()
def tw12648413542840783404:=()
def tw14570426981266262372:=()
def tw13767294265251438781:=()
def tw13190130009077603214:=()
def tw4653151673155987977:=()
def tw3279398736633790421:=()
def tw11207203525851983824:=()
def tw16973743957522539210:=()
def tw7440481541196527407:=()
def tw1276755642582833850:=()
def tw7518042110701074870:=()
def tw4349530782736625569:=()
def tw2321644466424871397:=()
def tw1478457412715054037:=()
def tw8834389765879948986:=()
def tw4413754103673504618:=()
def tw18226071562338052366:=()
def tw4996070971096539135:=()
def tw17877619877529142162:=()
def tw14145372289204497703:=()
def tw7946216081792086948:=()
def tw5913514083560960050:=()
def tw7937606209583325185:=()
def tw7063860948731861806:=()
def tw1466478613918389527:=()
def tw13177473678031477363:=()
def tw9430225550094446023:=()
def tw9012425434201028145:=()
def tw13253111966615697175:=()
def tw725011807611540171:=()
def tw2918297471511048465:=()
def tw817539126376905188:=()
def tw1531816036370031566:=()
def tw16076633107664097163:=()
def tw1541199167132954820:=()
def tw5031661508471856661:=()
def tw5587529580573167228:=()
def tw5152497563469558500:=()
def tw6704288882699473248:=()
def tw7634234477887792552:=()
def tw7196728676693926138:=()
def tw7285110727936916674:=()
def tw4765054464255895096:=()
def tw11824328567945981420:=()
def tw6986911487600829246:=()
def tw5015040921917421571:=()
def tw9112036035038330575:=()
def tw18281383565858658818:=()
def tw14530098205046172814:=()
def tw12284363115940163149:=()
def tw18335630179300772975:=()
def tw18097269783727764243:=()
def tw11789614042751608853:=()
def tw16954751082750873587:=()
def tw2927988259083579834:=()
def tw1403680305999595443:=()
def tw7952227624391318745:=()
def tw14661272189938622418:=()
def tw8887586299933601610:=()
def tw10955979585859365137:=()
def tw5135486962859705055:=()
def tw13492260771315382360:=()
def tw826648984248237737:=()
def tw16317801935134882753:=()
def tw10387204563705494881:=()
def tw8043358179017301741:=()
def tw50650882326490032:=()
def tw18340670162276970528:=()
def tw11768455523642194206:=()
def tw10639553313517801326:=()
def tw8633599437518849301:=()
def tw6489895561509234927:=()
def tw15639941623415061050:=()
def tw4374381080116734412:=()
def tw6060505088443576678:=()
def tw8816914573005553539:=()
def tw6810283832486822559:=()
def tw3784011069395921520:=()
def tw3760910158629583876:=()
def tw3441087047871903191:=()
def tw3415551524226080073:=()
def tw17916128579196917470:=()
def tw17286274420915234276:=()
def tw13018596806075134905:=()
def tw12968100527013742687:=()
def tw12632444088714878126:=()
def tw12034847647848898458:=()
def tw10457740592678522280:=()
def tw14552256509146792860:=()
def tw6512275755838166599:=()
def tw4695569568938636038:=()
def tw2409445103095181975:=()
def tw14718061104907393342:=()
def tw13788174523650471073:=()
def tw1165563669444546718:=()
def tw8677434903084844975:=()
def tw7968677647061071089:=()
def tw7625799310890727591:=()
def tw14179610922902038361:=()
def tw7618636988921840578:=()
def tw36037184563606515:=()
def tw13922013139228574918:=()
def tw10640750161326768008:=()
def tw18302035094752369721:=()
def tw925841046100224678:=()
def tw17572761426410358281:=()
def tw16803967274510606108:=()
def tw16062262010047267252:=()
def tw14961990627199867491:=()
def tw13923030533607457340:=()
def tw13844705663107682640:=()
def tw8771830116154109753:=()
def tw6980222535815519218:=()
def tw6404299798004718607:=()
def tw6001442306897535321:=()
def tw2085680579073258976:=()
def tw14511239759591047596:=()
def tw13231541413655620944:=()
def tw1194224712975295776:=()
def tw11597309337217396712:=()
def tw9996274197407728726:=()
def tw293267812747375807:=()
def tw10982828062405688572:=()
def tw8670621110331572839:=()
def tw12064917427516209137:=()
def tw14877479040247798402:=()
def tw16101055793302926072:=()
def tw2089055559452939330:=()
def tw14679102249314623736:=()
def tw1657093851798910930:=()
def tw6869992549453050921:=()
def tw5246956593223611528:=()
def tw15965575466729170967:=()
def tw15015919017440407474:=()
def tw75385314723927743:=()
def tw6978222563775064089:=()
def tw6714080931372108808:=()
def tw5165763806649395738:=()
def tw3779288751256556343:=()
def tw204412402961472699:=()
def tw14956793749967044839:=()
def tw1454559262714597750:=()
def tw10393442819875443456:=()
def tw10116969103926632718:=()
def tw10001671980690992179:=()
def tw8235659580771965602:=()
def tw16218908024885442848:=()
def tw2663701591018869255:=()
def tw16093230091959583425:=()
def tw8289380054530069860:=()
def tw9547362597433249117:=()
def tw8251956181252709508:=()
def tw7664993977854140430:=()
def tw527808299534806454:=()
def tw3802931503773780944:=()
def tw283808543076780284:=()
def tw2054685519633769094:=()
def tw15860101172029418486:=()
def tw14263859909403136220:=()
def tw1403081673141241843:=()
def tw13166632388018008491:=()
def tw12667483278892916950:=()
def tw10343342673238843197:=()
def tw10327916285173150279:=()
def tw8677668272333380854:=()
def tw6552603832735910922:=()
def tw4778864317814921873:=()
def tw4052840068438387519:=()
def tw18364590185426556854:=()
def tw18267200468445897391:=()
def tw16088633186634772885:=()
def tw1485139238015300416:=()
def tw14804819092130284279:=()
def tw14407951569037278210:=()
def tw14384597798249559664:=()
def tw11340568937383908328:=()
def tw11134618643094820424:=()
def tw10929051333888318049:=()
def tw8641180166856509242:=()
def tw8738439555496142355:=()
def tw16964445360025564291:=()
def tw16421943773611155853:=()
def tw864191763098032058:=()
def tw8312891685893724640:=()
def tw685162174296657632:=()
def tw2431714369578408853:=()
def tw15420509322920573997:=()
def tw1212965475967881645:=()
def tw10780608664593670466:=()
def tw9878965618341645383:=()
def tw15025181475085495968:=()
def tw3930028426695636368:=()
def tw9367686535959157209:=()
def tw896632323706509382:=()
def tw817909867475465121:=()
def tw3471685927947420895:=()
def tw2869014167987282735:=()
def tw2082576981444154586:=()
def tw15849355303597643317:=()
def tw15607240512402916375:=()
def tw12355580879114677110:=()
def tw11661886005287756483:=()
def tw914221270755112906:=()
def tw8602032716690068688:=()
def tw7743873272625393260:=()
def tw7020271096520531452:=()
def tw3071597225079943756:=()
def tw255212610333964725:=()
def tw2352544179623827868:=()
def tw18331306651591395549:=()
def tw17484442083428363669:=()
def tw17035057021497970631:=()
def tw13893199550624270366:=()
def tw13675593695989550271:=()
def tw11945474859116890558:=()
def tw11394958200207022910:=()
def tw9952976678432487351:=()
def tw9919203110092542070:=()
def tw9916506111171009929:=()
def tw9905120147188894636:=()
def tw9878391952948144859:=()
def tw9812572161095898230:=()
def tw9780776698201999161:=()
def tw9729780214861413065:=()
def tw9658869148270343901:=()
def tw9653986511704583525:=()
def tw9635968817812743394:=()
def tw9602287336056712918:=()
def tw9594696266202041485:=()
def tw9584982993806412865:=()
def tw953311020108988721:=()
def tw9470787385312151137:=()
def tw9431105125634784693:=()
def tw9418874675802350844:=()
def tw9385432858214388485:=()
def tw9333951727516024445:=()
def tw931330793123873928:=()
def tw9285703947200886252:=()
def tw9265863991919414746:=()
def tw9222016269288091468:=()
def tw9214134591416333884:=()
def tw9182908272602788123:=()
def tw9181606444332338478:=()
def tw9152124674094493335:=()
def tw908967367284289736:=()
def tw8940594341773198017:=()
def tw8873473509643601359:=()
def tw8863082146965555873:=()
def tw8838627047840183214:=()
def tw8823505442866793325:=()
def tw8767950961479255976:=()
def tw8717017968643780243:=()
def tw8694993493583342229:=()
def tw8612518685118700808:=()
def tw8584015882156350500:=()
def tw8548619692780311120:=()
def tw8460516354082291494:=()
def tw8393794483615494602:=()
def tw8364640550096613314:=()
def tw8344660394185428728:=()
def tw8239526259444047042:=()
def tw8239500046129959623:=()
def tw8219571581981173946:=()
def tw8176034503835724789:=()
def tw8108315035492865176:=()
def tw8057776415114693387:=()
def tw7870070851965229559:=()
def tw7819196624505035798:=()
def tw77388824419590132:=()
def tw7500554440731699616:=()
def tw7441540291241010825:=()
def tw7439849025885083017:=()
def tw7376281892326906031:=()
def tw7315909004384283996:=()
def tw7310132058410307128:=()
def tw7264016148874744316:=()
def tw7245150135929919983:=()
def tw7237177225286056346:=()
def tw7212053466539524787:=()
def tw7207213951675049980:=()
def tw705829965642194585:=()
def tw7015872040167998532:=()
def tw6964703322215005046:=()
def tw6931688720335306002:=()
def tw6868681964973334514:=()
def tw685960732746416947:=()
def tw6830590674729490117:=()
def tw6756973940736729522:=()
def tw6712436825737856800:=()
def tw6578235147953077843:=()
def tw6561857666716597697:=()
def tw6505448093721131065:=()
def tw6462617957105207286:=()
def tw6362669036832983218:=()
def tw6335377304963027221:=()
def tw630820605031002565:=()
def tw6271168854630552852:=()
def tw6224844370413808729:=()
def tw6204082309805689805:=()
def tw6096231038448514914:=()
def tw6092575417290124449:=()
def tw6051331469937042952:=()
def tw5901795594403726030:=()
def tw5878853881291219392:=()
def tw584157260100970632:=()
def tw5731645064790587605:=()
def tw5694758008921397846:=()
def tw5664906289819017585:=()
def tw5561508493897217028:=()
def tw5425591906332320476:=()
def tw5350499910249079010:=()
def tw5331729541416180774:=()
def tw5291277143547095335:=()
def tw5187427207585218133:=()
def tw517386683653728497:=()
def tw5113034247687879745:=()
def tw5073563648779333489:=()
def tw4911376533137224403:=()
def tw4816087215016003133:=()
def tw4803945904751621144:=()
def tw4797724056665460047:=()
def tw4749398990398241980:=()
def tw4730257441259818334:=()
def tw4677820170197978323:=()
def tw4452462023591081388:=()
def tw4447766867718311246:=()
def tw4414114650962362254:=()
def tw4380438525524429135:=()
def tw4340647706972058054:=()
def tw4305935008817522100:=()
def tw4243669261772272818:=()
def tw4212691178295199171:=()
def tw4032960258649232906:=()
def tw399316934595317878:=()
def tw3959159649727791398:=()
def tw3748350845946931061:=()
def tw3704467773815009075:=()
def tw3596031640482270553:=()
def tw3449471573703790504:=()
def tw3427695020474538078:=()
def tw3375590725189774971:=()
def tw3363127813122754708:=()
def tw3244884437096145762:=()
def tw3037236211160063424:=()
def tw2987228791188153400:=()
def tw285821170942429227:=()
def tw2840998010123911619:=()
def tw2839126075458557417:=()
def tw2797293612851214084:=()
def tw2758793527985334656:=()
def tw2728743717656857845:=()
def tw2639956972236108566:=()
def tw2601277487757379846:=()
def tw2442804548494358828:=()
def tw2326689623919355758:=()
def tw2248610951122091352:=()
def tw2189376341626195341:=()
def tw2140715748452006676:=()
def tw2095060451623586153:=()
def tw2052056096377303827:=()
def tw18418965524665116589:=()
def tw18406532095939942717:=()
def tw18324686965787388436:=()
def tw1830135743103896267:=()
def tw18298418957350914932:=()
def tw18279376249621604998:=()
def tw18245132401586357232:=()
def tw18165781568310021143:=()
def tw18114014025016001042:=()
def tw18061532471390706601:=()
def tw17979923157950582639:=()
def tw17931370182852563690:=()
def tw17877913400211906937:=()
def tw17826362214971704425:=()
def tw17756555903297920223:=()
def tw1765281913512373515:=()
def tw17600495632740960211:=()
def tw17536900173214173408:=()
def tw17468475721083337680:=()
def tw1735496233108549298:=()
def tw1732170264557732864:=()
def tw1711904206847994547:=()
def tw17107666264712343664:=()
def tw16958953095985648232:=()
def tw16956858293680546467:=()
def tw16905166089412914691:=()
def tw16872056705707078836:=()
def tw16775981966355462040:=()
def tw16518418783525299616:=()
def tw16452382415948700308:=()
def tw16376452221854721872:=()
def tw16363493570252075927:=()
def tw16353338164372427985:=()
def tw16296781147122275956:=()
def tw16236698293409674393:=()
def tw161793196349592207:=()
def tw16135628839422831341:=()
def tw16072410310372152428:=()
def tw1604649668359514666:=()
def tw16044878458011443951:=()
def tw16043568712645284342:=()
def tw16017485139068352266:=()
def tw15992303217885009472:=()
def tw15763710199918700411:=()
def tw15736352571782583990:=()
def tw1567680309964547847:=()
def tw15481781507989103391:=()
def tw1538260448571909594:=()
def tw15317001249046648483:=()
def tw15122991077523227773:=()
def tw15100621717367180450:=()
def tw14974578818824042652:=()
def tw14965842195689582283:=()
def tw14930589045941897055:=()
def tw14896289086670630423:=()
def tw14893745229868517495:=()
def tw14844162775134669332:=()
def tw14840153298871710055:=()
def tw14834448605977138352:=()
def tw1481014605724805038:=()
def tw1479833041022825704:=()
def tw14734682742776302676:=()
def tw14695221743934361549:=()
def tw14507791082274446906:=()
def tw14504728979572538898:=()
def tw1426814883656474216:=()
def tw14165821264046441130:=()
def tw14097850026326213368:=()
def tw13991798574988088354:=()
def tw13972027523677771664:=()
def tw13901977239121706635:=()
def tw13830220288781988678:=()
def tw13705255638599245758:=()
def tw13684405281880474873:=()
def tw13660266038961516162:=()
def tw13619288899404657438:=()
def tw13518865937743495699:=()
def tw1334478753484716321:=()
def tw13324400686474670623:=()
def tw13311076730280030327:=()
def tw13255311665315917942:=()
def tw13236551239642846983:=()
def tw13170337850222684722:=()
def tw13148857942623388956:=()
def tw13147620290428277289:=()
def tw13130400201403623938:=()
def tw1309710194094578495:=()
def tw12988614264349001040:=()
def tw12982128932141308178:=()
def tw12751953891170083148:=()
def tw12676272777367133819:=()
def tw12583972126314892453:=()
def tw12486364026139408965:=()
def tw12417479202281179394:=()
def tw12416905310166619469:=()
def tw12314049510849373925:=()
def tw12223518831973567664:=()
def tw11823497516859800031:=()
def tw11803406198107702592:=()
def tw11569426642324757113:=()
def tw11377719372793557422:=()
def tw1134427793711041889:=()
def tw11101461923317031431:=()
def tw10922524663624894401:=()
def tw10885657639574269621:=()
def tw1088355664687848995:=()
def tw10810662813780302904:=()
def tw10789989493303195154:=()
def tw1077760868527903250:=()
def tw10642039557288744558:=()
def tw10606783618868070927:=()
def tw10565221571317806242:=()
def tw10555269424680455274:=()
def tw10543211602701657889:=()
def tw10508137156225812683:=()
def tw10460813313180365336:=()
def tw10426561004361898805:=()
def tw1037943575254127681:=()
def tw10349107024376498459:=()
def tw10035692227744273878:=()
def tw10011039562961773766:=()
end PySem.W.Fast
open PySem PySem.W PyProof.Rows
set_option maxRecDepth 100000 in
set_option maxHeartbeats 0 in
theorem PySem.Challenge.cw_grindbench_k73_whole_walks_and_tables_holds : PySem.Challenge.rw_grindbench_k73_whole_walks_and_tables.Holds := by
 w_on;o_law;k_head;(case hw=>w_witness2)
 k_fill
 refine K73.walk (l:=PySem.Challenge.rw_grindbench_k73_whole_walks_and_tables) rfl rfl (λ w h Y=>PySem.W.kIn_of Y) ?F
 case F=>
  intro w mg fa h KX G hmg;have UV:L2.TopFn (L2.KOf KX) mg "is_whole" K73.VH:=by dsimp only [L2.KOf];refine' L2.Av KX G ?a ?l ?c ?k;case a|l|c|k=>k_is
  have Vk:L2.TopFn (L2.KOf KX) mg "common_divisor" K73.Te:=by dsimp only [L2.KOf];refine' L2.Av KX G ?a ?l ?c ?k;case a|l|c|k=>k_is
  have SN:L2.TopFn (L2.KOf KX) mg "is_ratio" K73.Tv:=by dsimp only [L2.KOf];refine' L2.Av KX G ?a ?l ?c ?k;case a|l|c|k=>k_is
  have T9:L2.TopFn (L2.KOf KX) mg "ratio_of" K73.SJ:=by dsimp only [L2.KOf];refine' L2.Av KX G ?a ?l ?c ?k;case a|l|c|k=>k_is
  have XJ:L2.TopFn (L2.KOf KX) mg "sum_of" K73.WM:=by dsimp only [L2.KOf];refine' L2.Av KX G ?a ?l ?c ?k;case a|l|c|k=>k_is
  have Pz:L2.TopFn (L2.KOf KX) mg "less_by" K73.X7:=by dsimp only [L2.KOf];refine' L2.Av KX G ?a ?l ?c ?k;case a|l|c|k=>k_is
  have T5:L2.TopFn (L2.KOf KX) mg "product_of" K73.Vy:=by dsimp only [L2.KOf];refine' L2.Av KX G ?a ?l ?c ?k;case a|l|c|k=>k_is
  have Ro:L2.TopFn (L2.KOf KX) mg "quotient_of" K73.R7:=by dsimp only [L2.KOf];refine' L2.Av KX G ?a ?l ?c ?k;case a|l|c|k=>k_is
  have Vc:L2.TopFn (L2.KOf KX) mg "is_less" K73.Qw:=by dsimp only [L2.KOf];refine' L2.Av KX G ?a ?l ?c ?k;case a|l|c|k=>k_is
  have UJ:L2.TopFn (L2.KOf KX) mg "is_piece" K73.Kl:=by dsimp only [L2.KOf];refine' L2.Av KX G ?a ?l ?c ?k;case a|l|c|k=>k_is
  have TF:L2.TopFn (L2.KOf KX) mg "piece_of" K73.Wd:=by dsimp only [L2.KOf];refine' L2.Av KX G ?a ?l ?c ?k;case a|l|c|k=>k_is
  have Th:L2.TopFn (L2.KOf KX) mg "look_at" K73.U3:=by dsimp only [L2.KOf];refine' L2.Av KX G ?a ?l ?c ?k;case a|l|c|k=>k_is
  have V4:L2.TopFn (L2.KOf KX) mg "is_table" K73.Qf:=by dsimp only [L2.KOf];refine' L2.Av KX G ?a ?l ?c ?k;case a|l|c|k=>k_is
  have Ur:L2.TopFn (L2.KOf KX) mg "look_at_table" K73.Uy:=by dsimp only [L2.KOf];refine' L2.Av KX G ?a ?l ?c ?k;case a|l|c|k=>k_is
  have Ue:L2.TopFn (L2.KOf KX) mg "table_of_rays" K73.Sg:=by dsimp only [L2.KOf];refine' L2.Av KX G ?a ?l ?c ?k;case a|l|c|k=>k_is
  have Su:L2.TopFn (L2.KOf KX) mg "table_of" K73.RG:=by dsimp only [L2.KOf];refine' L2.Av KX G ?a ?l ?c ?k;case a|l|c|k=>k_is
  have XF:L2.TopFn (L2.KOf KX) mg "made_by" K73.Ru:=by dsimp only [L2.KOf];refine' L2.Av KX G ?a ?l ?c ?k;case a|l|c|k=>k_is
  have VN:L2.TopFn (L2.KOf KX) mg "joined" K73.U8:=by dsimp only [L2.KOf];refine' L2.Av KX G ?a ?l ?c ?k;case a|l|c|k=>k_is
  have Ug:L2.TopFn (L2.KOf KX) mg "less" K73.Xf:=by dsimp only [L2.KOf];refine' L2.Av KX G ?a ?l ?c ?k;case a|l|c|k=>k_is
  have Ry:L2.TopFn (L2.KOf KX) mg "part_short_of_one" K73.QD:=by dsimp only [L2.KOf];refine' L2.Av KX G ?a ?l ?c ?k;case a|l|c|k=>k_is
  have X8:L2.TopFn (L2.KOf KX) mg "glass_gap_glass" K73.W3:=by dsimp only [L2.KOf];refine' L2.Av KX G ?a ?l ?c ?k;case a|l|c|k=>k_is
  have Vo:L2.TopFn (L2.KOf KX) mg "gap_glass_gap" K73.Wx:=by dsimp only [L2.KOf];refine' L2.Av KX G ?a ?l ?c ?k;case a|l|c|k=>k_is
  have VG:L2.TopFn (L2.KOf KX) mg "taken_apart" K73.K4:=by dsimp only [L2.KOf];refine' L2.Av KX G ?a ?l ?c ?k;case a|l|c|k=>k_is
  have bz:L2.TopFn (L2.KOf KX) mg "is_stretch" K73.gh:=by dsimp only [L2.KOf];refine' L2.Av KX G ?a ?l ?c ?k;case a|l|c|k=>k_is
  have dF:L2.TopFn (L2.KOf KX) mg "look_at_stretch" K73.Zg:=by dsimp only [L2.KOf];refine' L2.Av KX G ?a ?l ?c ?k;case a|l|c|k=>k_is
  have cB:L2.TopFn (L2.KOf KX) mg "is_box" K73.au:=by dsimp only [L2.KOf];refine' L2.Av KX G ?a ?l ?c ?k;case a|l|c|k=>k_is
  have fO:L2.TopFn (L2.KOf KX) mg "look_at_box" K73.iH:=by dsimp only [L2.KOf];refine' L2.Av KX G ?a ?l ?c ?k;case a|l|c|k=>k_is
  have gm:L2.TopFn (L2.KOf KX) mg "limits_of" K73.Yn:=by dsimp only [L2.KOf];refine' L2.Av KX G ?a ?l ?c ?k;case a|l|c|k=>k_is
  have aG:L2.TopFn (L2.KOf KX) mg "is_before" K73.Z6:=by dsimp only [L2.KOf];refine' L2.Av KX G ?a ?l ?c ?k;case a|l|c|k=>k_is
  have bM:L2.TopFn (L2.KOf KX) mg "corners_of" K73.ZZ:=by dsimp only [L2.KOf];refine' L2.Av KX G ?a ?l ?c ?k;case a|l|c|k=>k_is
  have Y4:L2.TopFn (L2.KOf KX) mg "edges_of" K73.bA:=by dsimp only [L2.KOf];refine' L2.Av KX G ?a ?l ?c ?k;case a|l|c|k=>k_is
  have Ys:L2.TopFn (L2.KOf KX) mg "room_at" K73.Y8:=by dsimp only [L2.KOf];refine' L2.Av KX G ?a ?l ?c ?k;case a|l|c|k=>k_is
  have Zf:L2.TopFn (L2.KOf KX) mg "crossing_of" K73.dM:=by dsimp only [L2.KOf];refine' L2.Av KX G ?a ?l ?c ?k;case a|l|c|k=>k_is
  have Yq:L2.TopFn (L2.KOf KX) mg "cut_by" K73.ZQ:=by dsimp only [L2.KOf];refine' L2.Av KX G ?a ?l ?c ?k;case a|l|c|k=>k_is
  have Zk:L2.TopFn (L2.KOf KX) mg "from_the_least" K73.bf:=by dsimp only [L2.KOf];refine' L2.Av KX G ?a ?l ?c ?k;case a|l|c|k=>k_is
  have eE:L2.TopFn (L2.KOf KX) mg "field_of" K73.gQ:=by dsimp only [L2.KOf];refine' L2.Av KX G ?a ?l ?c ?k;case a|l|c|k=>k_is
  have Rz:L2.TopFn (L2.KOf KX) mg "show_ratio" K73.Vn:=by dsimp only [L2.KOf];refine' L2.Av KX G ?a ?l ?c ?k;case a|l|c|k=>k_is
  have Vi:L2.TopFnA (L2.KOf KX) mg "read_part_figures" "read_part" K73.Wl:=by dsimp only [L2.KOf];refine' L2.Li KX G ?a ?l ?c ?k;case a|l|c|k=>k_is
  have W6:L2.TopFn (L2.KOf KX) mg "read_ratio" K73.K9:=by dsimp only [L2.KOf];refine' L2.Av KX G ?a ?l ?c ?k;case a|l|c|k=>k_is
  have XR:L2.TopFn (L2.KOf KX) mg "spread_of" K73.Vq:=by dsimp only [L2.KOf];refine' L2.Av KX G ?a ?l ?c ?k;case a|l|c|k=>k_is
  have Qu:L2.TopFn (L2.KOf KX) mg "image_of" K73.WD:=by dsimp only [L2.KOf];refine' L2.Av KX G ?a ?l ?c ?k;case a|l|c|k=>k_is
  have Wt:L2.TopFn (L2.KOf KX) mg "growth_of" K73.Uu:=by dsimp only [L2.KOf];refine' L2.Av KX G ?a ?l ?c ?k;case a|l|c|k=>k_is
  have dD:L2.TopFn (L2.KOf KX) mg "in_order" K73.fY:=by dsimp only [L2.KOf];refine' L2.Av KX G ?a ?l ?c ?k;case a|l|c|k=>k_is
  have bD:L2.TopFn (L2.KOf KX) mg "lesser_of" K73.Xx:=by dsimp only [L2.KOf];refine' L2.Av KX G ?a ?l ?c ?k;case a|l|c|k=>k_is
  have Ze:L2.TopFn (L2.KOf KX) mg "greater_of" K73.dm:=by dsimp only [L2.KOf];refine' L2.Av KX G ?a ?l ?c ?k;case a|l|c|k=>k_is
  have fK:L2.TopFn (L2.KOf KX) mg "slants_by" K73.eV:=by dsimp only [L2.KOf];refine' L2.Av KX G ?a ?l ?c ?k;case a|l|c|k=>k_is
  have iM:L2.TopFn (L2.KOf KX) mg "slants_of" K73.gB:=by dsimp only [L2.KOf];refine' L2.Av KX G ?a ?l ?c ?k;case a|l|c|k=>k_is
  have Yj:L2.TopFn (L2.KOf KX) mg "height_at" K73.cV:=by dsimp only [L2.KOf];refine' L2.Av KX G ?a ?l ?c ?k;case a|l|c|k=>k_is
  have gk:L2.TopFn (L2.KOf KX) mg "spots_of" K73.Y0:=by dsimp only [L2.KOf];refine' L2.Av KX G ?a ?l ?c ?k;case a|l|c|k=>k_is
  have iC:L2.TopFn (L2.KOf KX) mg "blur_of" K73.ZG:=by dsimp only [L2.KOf];refine' L2.Av KX G ?a ?l ?c ?k;case a|l|c|k=>k_is
  have XQ:L2.TopFn (L2.KOf KX) mg "is_name" K73.QC:=by dsimp only [L2.KOf];refine' L2.Av KX G ?a ?l ?c ?k;case a|l|c|k=>k_is
  have Py:L2.TopFn (L2.KOf KX) mg "walk_of" K73.WK:=by dsimp only [L2.KOf];refine' L2.Av KX G ?a ?l ?c ?k;case a|l|c|k=>k_is
  have Vr:L2.TopFn (L2.KOf KX) mg "rounds_of" K73.Ud:=by dsimp only [L2.KOf];refine' L2.Av KX G ?a ?l ?c ?k;case a|l|c|k=>k_is
  have Xk:L2.TopFn (L2.KOf KX) mg "sharp_places" K73.cI:=by dsimp only [L2.KOf];refine' L2.Av KX G ?a ?l ?c ?k;case a|l|c|k=>k_is
  have R6:L2.TopFn (L2.KOf KX) mg "words_of" K73.QB:=by dsimp only [L2.KOf];refine' L2.Av KX G ?a ?l ?c ?k;case a|l|c|k=>k_is
  have Rx:L2.TopFnA (L2.KOf KX) mg "read_number_texts" "read_number" K73.XS:=by dsimp only [L2.KOf];refine' L2.Li KX G ?a ?l ?c ?k;case a|l|c|k=>k_is
  have YL:L2.TopFn (L2.KOf KX) mg "read_times" K73.eF:=by dsimp only [L2.KOf];refine' L2.Av KX G ?a ?l ?c ?k;case a|l|c|k=>k_is
  have XX:L2.TopFn (L2.KOf KX) mg "read_round" K73.WL:=by dsimp only [L2.KOf];refine' L2.Av KX G ?a ?l ?c ?k;case a|l|c|k=>k_is
  have WF:L2.TopFnA (L2.KOf KX) mg "read_part_texts" "read_part" K73.U9:=by dsimp only [L2.KOf];refine' L2.Li KX G ?a ?l ?c ?k;case a|l|c|k=>k_is
  have T6:L2.TopFn (L2.KOf KX) mg "read_parts" K73.Rf:=by dsimp only [L2.KOf];refine' L2.Av KX G ?a ?l ?c ?k;case a|l|c|k=>k_is
  have Lj:L2.TopFn (L2.KOf KX) mg "count_of" K73.Wn:=by dsimp only [L2.KOf];refine' L2.Av KX G ?a ?l ?c ?k;case a|l|c|k=>k_is
  have Ng:L2.TopFn (L2.KOf KX) mg "told_out" K73.VJ:=by dsimp only [L2.KOf];refine' L2.Av KX G ?a ?l ?c ?k;case a|l|c|k=>k_is
  have XD:L2.TopFn (L2.KOf KX) mg "read_bench" K73.S9:=by dsimp only [L2.KOf];refine' L2.Av KX G ?a ?l ?c ?k;case a|l|c|k=>k_is
  have Rr:L2.TopFn (L2.KOf KX) mg "show_piece" K73.T3:=by dsimp only [L2.KOf];refine' L2.Av KX G ?a ?l ?c ?k;case a|l|c|k=>k_is
  have Wv:L2.TopFn (L2.KOf KX) mg "show_bench" K73.Tg:=by dsimp only [L2.KOf];refine' L2.Av KX G ?a ?l ?c ?k;case a|l|c|k=>k_is
  have M9:L2.TopFn (L2.KOf KX) mg "turned_bench" K73.W8:=by dsimp only [L2.KOf];refine' L2.Av KX G ?a ?l ?c ?k;case a|l|c|k=>k_is
  have Sx:L2.TopFn (L2.KOf KX) mg "shown" K73.Uw:=by dsimp only [L2.KOf];refine' L2.Av KX G ?a ?l ?c ?k;case a|l|c|k=>k_is
  have cH:L2.TopFn (L2.KOf KX) mg "show_answer" K73.cQ:=by dsimp only [L2.KOf];refine' L2.Av KX G ?a ?l ?c ?k;case a|l|c|k=>k_is
  have QF:L2.TopFn (L2.KOf KX) mg "walk_answer" K73.Ra:=by dsimp only [L2.KOf];refine' L2.Av KX G ?a ?l ?c ?k;case a|l|c|k=>k_is
  have U6:L2.TopFn (L2.KOf KX) mg "table_answer" K73.Tu:=by dsimp only [L2.KOf];refine' L2.Av KX G ?a ?l ?c ?k;case a|l|c|k=>k_is
  have Wa:L2.TopFn (L2.KOf KX) mg "apart_answer" K73.Xd:=by dsimp only [L2.KOf];refine' L2.Av KX G ?a ?l ?c ?k;case a|l|c|k=>k_is
  have Vd:L2.TopFn (L2.KOf KX) mg "image_answer" K73.S8:=by dsimp only [L2.KOf];refine' L2.Av KX G ?a ?l ?c ?k;case a|l|c|k=>k_is
  have fG:L2.TopFn (L2.KOf KX) mg "field_answer" K73.YK:=by dsimp only [L2.KOf];refine' L2.Av KX G ?a ?l ?c ?k;case a|l|c|k=>k_is
  have bF:L2.TopFn (L2.KOf KX) mg "sharp_answer" K73.dC:=by dsimp only [L2.KOf];refine' L2.Av KX G ?a ?l ?c ?k;case a|l|c|k=>k_is
  have RK:L2.TopFn (L2.KOf KX) mg "rounds_answer" K73.Tf:=by dsimp only [L2.KOf];refine' L2.Av KX G ?a ?l ?c ?k;case a|l|c|k=>k_is
  have QX:L2.TopFn (L2.KOf KX) mg "look_at_name" K73.Ui:=by dsimp only [L2.KOf];refine' L2.Av KX G ?a ?l ?c ?k;case a|l|c|k=>k_is
  have QJ:L2.TopFnA (L2.KOf KX) mg "read_number_desk" "read_number" K73.RD:=by dsimp only [L2.KOf];refine' L2.Li KX G ?a ?l ?c ?k;case a|l|c|k=>k_is
  have M3:L2.TopFn (L2.KOf KX) mg "read_row" K73.Vh:=by dsimp only [L2.KOf];refine' L2.Av KX G ?a ?l ?c ?k;case a|l|c|k=>k_is
  have Wm:L2.TopFn (L2.KOf KX) mg "_law_cell_at" K73.Ri:=by dsimp only [L2.KOf];refine' L2.Av KX G ?a ?l ?c ?k;case a|l|c|k=>k_is
  have T4:L2.TopFn (L2.KOf KX) mg "_law_drawn" K73.UG:=by dsimp only [L2.KOf];refine' L2.Av KX G ?a ?l ?c ?k;case a|l|c|k=>k_is
  have RV:L2.TopFn (L2.KOf KX) mg "_law_draw" K73.XN:=by dsimp only [L2.KOf];refine' L2.Av KX G ?a ?l ?c ?k;case a|l|c|k=>k_is
  have WY:L2.TopFn (L2.KOf KX) mg "_law_low" K73.Vv:=by dsimp only [L2.KOf];refine' L2.Av KX G ?a ?l ?c ?k;case a|l|c|k=>k_is
  have Ww:L2.TopFn (L2.KOf KX) mg "_law_under" K73.X5:=by dsimp only [L2.KOf];refine' L2.Av KX G ?a ?l ?c ?k;case a|l|c|k=>k_is
  have X6:L2.TopFn (L2.KOf KX) mg "_law_part" K73.LR:=by dsimp only [L2.KOf];refine' L2.Av KX G ?a ?l ?c ?k;case a|l|c|k=>k_is
  have R5:L2.TopFn (L2.KOf KX) mg "_law_piece" K73.VR:=by dsimp only [L2.KOf];refine' L2.Av KX G ?a ?l ?c ?k;case a|l|c|k=>k_is
  have Uk:L2.TopFn (L2.KOf KX) mg "_law_plus" K73.R8:=by dsimp only [L2.KOf];refine' L2.Av KX G ?a ?l ?c ?k;case a|l|c|k=>k_is
  have TV:L2.TopFn (L2.KOf KX) mg "_law_times" K73.V3:=by dsimp only [L2.KOf];refine' L2.Av KX G ?a ?l ?c ?k;case a|l|c|k=>k_is
  have R3:L2.TopFn (L2.KOf KX) mg "_law_less" K73.T8:=by dsimp only [L2.KOf];refine' L2.Av KX G ?a ?l ?c ?k;case a|l|c|k=>k_is
  have Up:L2.TopFn (L2.KOf KX) mg "_law_written" K73.Sv:=by dsimp only [L2.KOf];refine' L2.Av KX G ?a ?l ?c ?k;case a|l|c|k=>k_is
  have Wu:L2.TopFn (L2.KOf KX) mg "_law_shown" K73.Qq:=by dsimp only [L2.KOf];refine' L2.Av KX G ?a ?l ?c ?k;case a|l|c|k=>k_is
  have V9:L2.TopFn (L2.KOf KX) mg "_law_piece_text" K73.Wb:=by dsimp only [L2.KOf];refine' L2.Av KX G ?a ?l ?c ?k;case a|l|c|k=>k_is
  have RQ:L2.TopFn (L2.KOf KX) mg "_law_text" K73.Rq:=by dsimp only [L2.KOf];refine' L2.Av KX G ?a ?l ?c ?k;case a|l|c|k=>k_is
  have Px:L2.TopFn (L2.KOf KX) mg "_law_called" K73.Wr:=by dsimp only [L2.KOf];refine' L2.Av KX G ?a ?l ?c ?k;case a|l|c|k=>k_is
  have Uo:L2.TopFn (L2.KOf KX) mg "_law_benches" K73.Vx:=by dsimp only [L2.KOf];refine' L2.Av KX G ?a ?l ?c ?k;case a|l|c|k=>k_is
  have Ux:L2.TopFn (L2.KOf KX) mg "_law_laid" K73.Ms:=by dsimp only [L2.KOf];refine' L2.Av KX G ?a ?l ?c ?k;case a|l|c|k=>k_is
  have QL:L2.TopFn (L2.KOf KX) mg "_law_read" K73.Sy:=by dsimp only [L2.KOf];refine' L2.Av KX G ?a ?l ?c ?k;case a|l|c|k=>k_is
  have Va:L2.TopFn (L2.KOf KX) mg "_law_read_all" K73.V2:=by dsimp only [L2.KOf];refine' L2.Av KX G ?a ?l ?c ?k;case a|l|c|k=>k_is
  have Vj:L2.TopFn (L2.KOf KX) mg "_law_row" K73.RP:=by dsimp only [L2.KOf];refine' L2.Av KX G ?a ?l ?c ?k;case a|l|c|k=>k_is
  have Wo:L2.TopFn (L2.KOf KX) mg "_law_is_short" K73.Tz:=by dsimp only [L2.KOf];refine' L2.Av KX G ?a ?l ?c ?k;case a|l|c|k=>k_is
  have Wk:L2.TopFn (L2.KOf KX) mg "_law_sent" K73.U5:=by dsimp only [L2.KOf];refine' L2.Av KX G ?a ?l ?c ?k;case a|l|c|k=>k_is
  have UL:L2.TopFn (L2.KOf KX) mg "_law_times_row" K73.W7:=by dsimp only [L2.KOf];refine' L2.Av KX G ?a ?l ?c ?k;case a|l|c|k=>k_is
  have WQ:L2.TopFn (L2.KOf KX) mg "_law_walked_so" K73.Ve:=by dsimp only [L2.KOf];refine' L2.Av KX G ?a ?l ?c ?k;case a|l|c|k=>k_is
  have TX:L2.TopFn (L2.KOf KX) mg "_law_over" K73.QR:=by dsimp only [L2.KOf];refine' L2.Av KX G ?a ?l ?c ?k;case a|l|c|k=>k_is
  have Qp:L2.TopFn (L2.KOf KX) mg "_law_imaged_so" K73.Vz:=by dsimp only [L2.KOf];refine' L2.Av KX G ?a ?l ?c ?k;case a|l|c|k=>k_is
  have Q0:L2.TopFn (L2.KOf KX) mg "_law_turned_so" K73.Xg:=by dsimp only [L2.KOf];refine' L2.Av KX G ?a ?l ?c ?k;case a|l|c|k=>k_is
  have QT:L2.TopFn (L2.KOf KX) mg "_law_joined_so" K73.Qg:=by dsimp only [L2.KOf];refine' L2.Av KX G ?a ?l ?c ?k;case a|l|c|k=>k_is
  have Tw:L2.TopFn (L2.KOf KX) mg "_law_apart_so" K73.TY:=by dsimp only [L2.KOf];refine' L2.Av KX G ?a ?l ?c ?k;case a|l|c|k=>k_is
  have o7:L2.TopFn (L2.KOf KX) mg "law" K73.KN:=by dsimp only [L2.KOf];refine' L2.Av KX G ?a ?l ?c ?k;case a|l|c|k=>k_is
  have ie:mg "abs"=none:=by refine' PySem.W.mg_none_of KX G ?a;case a=>k_is
  have vy:mg "all"=none:=by refine' PySem.W.mg_none_of KX G ?a;case a=>k_is
  have ou:mg "bool"=none:=by refine' PySem.W.mg_none_of KX G ?a;case a=>k_is
  have tE:mg "enumerate"=none:=by refine' PySem.W.mg_none_of KX G ?a;case a=>k_is
  have AI0:mg "int"=none:=by refine' PySem.W.mg_none_of KX G ?a;case a=>k_is
  have uw:mg "isinstance"=none:=by refine' PySem.W.mg_none_of KX G ?a;case a=>k_is
  have uf:mg "len"=none:=by refine' PySem.W.mg_none_of KX G ?a;case a=>k_is
  have pO:mg "list"=none:=by refine' PySem.W.mg_none_of KX G ?a;case a=>k_is
  have oV:mg "max"=none:=by refine' PySem.W.mg_none_of KX G ?a;case a=>k_is
  have rm:mg "range"=none:=by refine' PySem.W.mg_none_of KX G ?a;case a=>k_is
  have pG:mg "reversed"=none:=by refine' PySem.W.mg_none_of KX G ?a;case a=>k_is
  have AJ4:mg "str"=none:=by refine' PySem.W.mg_none_of KX G ?a;case a=>k_is
  have nG:mg "tuple"=none:=by refine' PySem.W.mg_none_of KX G ?a;case a=>k_is
  have X0:∃ad,K73.Exc (L2.KOf KX) mg ad/\w.params=ad.pr:=by
   dsimp only [L2.KOf]
   refine' ⟨_,K73.lG w.params KX G ?za0 ?za1 ?za2 ?za3 ?za4 ?za5 ?za6 ?za7 ?za8 ?za9 ?zb0 ?zb1 ?zb2 ?zb3 ?zb4 ?zb5 ?zb6 ?zb7 ?zb8 ?zb9 ?zc0 ?zc1 ?zc2 ?zc3 ?zc4 ?zc5 ?zc6 ?zc7 ?zc8 ?zc9 ?zd0 ?zd1 ?zd2 ?zd3 ?zd4 ?zd5 ?zd6 ?zd7 ?zd8 ?zd9 ?ze0 ?ze1 ?ze2 ?ze3 ?ze4 ?ze5 ?ze6 ?ze7 ?ze8 ?ze9 ?zf0 ?zf1 ?zf2 ?zf3 ?zf4 ?zf5 ?zf6 ?zf7 ?zf8 ?zf9 ?zg0 ?zg1 ?zg2 ?zg3 ?zg4 ?zg5 ?zg6 ?zg7 ?zg8 ?zg9 ?zh0 ?zh1 ?zh2 ?zh3 ?zh4 ?zh5 ?zh6 ?zh7 ?zh8 ?zh9 ?zi0 ?zi1 ?zi2 ?zi3 ?zi4 ?zi5 ?zi6 ?zi7 ?zi8 ?zi9 ?zj0 ?zj1 ?zj2 ?zj3 ?zj4 ?zj5 ?zj6 ?zj7 ?zj8 ?zj9 ?zk0 ?zk1 ?zk2 ?zk3 ?zk4 ?zk5 ?zk6 ?zk7 ?zk8 ?zk9 ?zl0 ?zl1 ?zl2 ?zl3 ?zl4 ?zl5 ?zl6 ?zl7 ?zl8 ?zl9 ?zm0 ?zm1 ?zm2 ?zm3 ?zm4 ?zm5 ?zm6 ?zm7 ?zm8 ?zm9 ?zn0 ?zn1 ?zn2 ?zn3 ?zn4 ?zn5 ?zn6 ?zn7 ?zn8 ?zn9 ?zo0 ?zo1 ?zo2 ?zo3 ?zo4 ?zo5 ?zo6 ?zo7 ?zo8 ?zo9 ?zp0 ?zp1 ?zp2 ?zp3 ?zp4 ?zp5 ?zp6 ?zp7 ?zp8 ?zp9 ?zq0 ?zq1 ?zq2 ?zq3 ?zq4 ?zq5 ?zq6 ?zq7 ?zq8 ?zq9 ?zr0 ?zr1 ?zr2 ?zr3 ?zr4 ?zr5 ?zr6 ?zr7 ?zr8 ?zr9 ?zs0 ?zs1 ?zs2 ?zs3 ?zs4 ?zs5 ?zs6 ?zs7 ?zs8 ?zs9 ?zt0 ?zt1 ?zt2 ?zt3 ?zt4 ?zt5 ?zt6 ?zt7 ?zt8 ?zt9 ?zu0 ?zu1 ?zu2 ?zu3 ?zu4 ?zu5 ?zu6 ?zu7 ?zu8 ?zu9 ?zv0 ?zv1 ?zv2 ?zv3 ?zv4 ?zv5 ?zv6 ?zv7 ?zv8,rfl⟩
   case za0|za1|za2|za3|za4|za5|za6|za7|za8|za9|zb0|zb1|zb2|zb3|zb4=>k_is
   case zb5=>decide
   case zb6=>k_is
   case zb7=>decide
   case zb8=>k_is
   case zb9=>decide
   case zc0|zc1=>k_is
   case zc2=>decide
   case zc3|zc4=>k_is
   case zc5=>decide
   case zc6=>k_is
   case zc7=>decide
   case zc8=>k_is
   case zc9=>decide
   case zd0=>k_is
   case zd1=>decide
   case zd2|zd3|zd4=>k_is
   case zd5=>decide
   case zd6|zd7=>k_is
   case zd8=>decide
   case zd9=>k_is
   case ze0=>decide
   case ze1=>k_is
   case ze2=>decide
   case ze3|ze4|ze5|ze6|ze7|ze8|ze9|zf0|zf1|zf2|zf3|zf4|zf5|zf6|zf7|zf8|zf9|zg0|zg1|zg2|zg3|zg4|zg5|zg6|zg7|zg8|zg9|zh0|zh1|zh2|zh3|zh4|zh5|zh6|zh7|zh8|zh9|zi0|zi1|zi2|zi3|zi4|zi5|zi6|zi7|zi8|zi9|zj0|zj1|zj2|zj3|zj4|zj5|zj6|zj7|zj8|zj9|zk0|zk1|zk2|zk3|zk4|zk5|zk6|zk7|zk8|zk9|zl0|zl1|zl2|zl3|zl4|zl5|zl6|zl7|zl8|zl9|zm0|zm1|zm2|zm3|zm4|zm5|zm6|zm7|zm8|zm9|zn0|zn1|zn2|zn3|zn4|zn5|zn6|zn7|zn8|zn9|zo0|zo1|zo2|zo3|zo4|zo5|zo6|zo7|zo8|zo9|zp0|zp1|zp2|zp3|zp4|zp5|zp6|zp7|zp8|zp9|zq0|zq1|zq2|zq3|zq4|zq5|zq6|zq7|zq8|zq9|zr0|zr1|zr2|zr3|zr4|zr5|zr6|zr7|zr8=>k_is
   case zr9|zs0|zs1|zs2|zs3|zs4|zs5|zs6|zs7|zs8=>rfl
   case zs9=>decide
   case zt0|zt1|zt2|zt3|zt4|zt5|zt6|zt7|zt8|zt9|zu0|zu1|zu2|zu3|zu4|zu5|zu6|zu7|zu8|zu9=>k_is
   case zv0|zv1|zv2|zv3|zv4|zv5|zv6|zv7=>rfl
   case zv8=>decide
  obtain ⟨ad,X0,hw⟩:=X0;obtain ⟨fd,FL,bL⟩:=K73.AG6 o7 hmg;exact ⟨fd,bL,λ base _ _=>L2.FnB.ok (K73.j7 ⟨X0,ie,vy,ou,tE,AI0,uw,uf,pO,oV,rm,pG,AJ4,nG,UV,Vk,SN,T9,XJ,Pz,T5,Ro,Vc,UJ,TF,Th,V4,Ur,Ue,Su,XF,VN,Ug,Ry,X8,Vo,VG,bz,dF,cB,fO,gm,aG,bM,Y4,Ys,Zf,Yq,Zk,eE,Rz,Vi,W6,XR,Qu,Wt,dD,bD,Ze,fK,iM,Yj,gk,iC,XQ,Py,Vr,Xk,R6,Rx,YL,XX,WF,T6,Lj,Ng,XD,Rr,Wv,M9,Sx,cH,QF,U6,Wa,Vd,fG,bF,RK,QX,QJ,M3,Wm,T4,RV,WY,Ww,X6,R5,Uk,TV,R3,Up,Wu,V9,RQ,Px,Uo,Ux,QL,Va,Vj,Wo,Wk,UL,WQ,TX,Qp,Q0,QT,Tw⟩ hw FL)⟩
#print axioms PySem.Challenge.cw_grindbench_k73_whole_walks_and_tables_holds
