import PyProof.Rows.All
import Wide.All
import OpenK.AllK
import Wide.FinOn
import Lean
import PyProof.EqAt
import PyProof.EqKinds
import PyProof.TupleCall
import PySem.Challenge.RW_grindbench_k84_whole_sixty_pieces
set_option Elab.async false
set_option linter.all false
set_option maxRecDepth 100000
set_option maxHeartbeats 1000000
abbrev FrG:=PySem.W.Frag
namespace L2
open PySem PySem.Spec PyProof.Rows
abbrev Key:=Sum Int Str
def keyIs:Key->Value->Bool
 | .inl k,v=>Value.isInt k v
 | .inr x,v=>Value.isStrOf x v
def keyH (w:World):Key->Int
 | .inl k=>hashInt k
 | .inr x=>hashStr w x
theorem Hd:∀{k:Key} {v:Value},keyIs k v=true->(∃i t,k=Sum.inl i/\v=Value.int i t)\/(∃x t,k=Sum.inr x/\v=Value.str x t)
 | .inl i,v,h=>by
  obtain ⟨t,e⟩:=Value.isInt_shape (k:=i) (v:=v) h;exact .inl ⟨i,t,rfl,e⟩
 | .inr x,v,h=>by
  obtain ⟨t,e⟩:=Value.isStrOf_shape (x:=x) (v:=v) h;exact .inr ⟨x,t,rfl,e⟩
theorem iV (a b:Int):decide ((Sum.inl a:Key)=Sum.inl b)=(a == b):=by
 by_cases e:a=b
 ·subst e;simp
 ·have h:¬ (Sum.inl a:Key)=Sum.inl b:=λ q=>e (Sum.inl.inj q)
  rw [decide_eq_false h];exact (beq_eq_false_iff_ne.mpr e).symm
theorem qF (a b:Str):decide ((Sum.inr a:Key)=Sum.inr b)=decide (a=b):=by
 by_cases e:a=b
 ·subst e;simp
 ·have h:¬ (Sum.inr a:Key)=Sum.inr b:=λ q=>e (Sum.inr.inj q)
  rw [decide_eq_false h,decide_eq_false e]
theorem eY (a:Int)(b:Str):decide ((Sum.inl a:Key)=Sum.inr b)=false:=decide_eq_false (λ q=>nomatch q)
theorem iM (a:Str)(b:Int):decide ((Sum.inr a:Key)=Sum.inl b)=false:=decide_eq_false (λ q=>nomatch q)
def mixKind (prog:Program)(w:World):PySem.KeyKind prog w Key where
 is:=keyIs
 hash:=keyH w
 inj:=λ v a b ha hb=>by
  rcases Hd ha with ⟨i,t,rfl,rfl⟩ | ⟨x,t,rfl,rfl⟩
  ·rcases Hd hb with ⟨j,u,rfl,e⟩ | ⟨y,u,rfl,e⟩
   ·injection e with e1 _;rw [e1]
   ·exact nomatch e
  ·rcases Hd hb with ⟨j,u,rfl,e⟩ | ⟨y,u,rfl,e⟩
   ·exact nomatch e
   ·injection e with e1 _;rw [e1]
 byValue:=λ k v h=>by
  rcases Hd h with ⟨i,t,rfl,rfl⟩ | ⟨x,t,rfl,rfl⟩<;>rfl
 pyHash:=λ hv h=>by
  rcases Hd hv with ⟨i,t,rfl,rfl⟩ | ⟨x,t,rfl,rfl⟩
  ·exact wpAny_pyHash_int h
  ·exact wpAny_pyHash_str h
 eqBool:=λ hu hv h=>by
  rcases Hd hu with ⟨i,t,rfl,rfl⟩ | ⟨x,t,rfl,rfl⟩
  ·rcases Hd hv with ⟨j,u,rfl,rfl⟩ | ⟨y,u,rfl,rfl⟩
   ·rw [iV] at h;exact wpAny_eqBool_int h
   ·rw [eY] at h;exact SeqAt.EqAt.int_str i t y u _ _ _ _ h
  ·rcases Hd hv with ⟨j,u,rfl,rfl⟩ | ⟨y,u,rfl,rfl⟩
   ·rw [iM] at h;exact SeqAt.EqAt.str_int x t j u _ _ _ _ h
   ·rw [qF] at h;exact wpAny_eqBool_str h
 «strs»:=λ k x t v h=>by
  rcases Hd h with ⟨i,u,rfl,e⟩ | ⟨y,u,rfl,e⟩
  ·exact nomatch e
  ·injection e with e1 _
   subst e1;cases v<;>rfl
inductive V where
 | non | bl (b:Bool) | int (i:Int) | str (x:Str) | byt (b:Array UInt8) | flt (b:UInt64) | ref (a:Addr) | ty (n:String)
 deriving DecidableEq
def RelV:V->Value->Prop
 | .non,u=>u=Value.none
 | .bl b,u=>u=Value.bool b
 | .int i,u=>∃t,u=Value.int i t
 | .str x,u=>∃t,u=Value.str x t
 | .byt b,u=>∃t,u=Value.bytes b t
 | .flt b,u=>∃t,u=Value.float b t
 | .ref a,u=>u=Value.ref a
 | .ty n,u=>u=Value.type n
abbrev Vals:List V->List Value->Prop:=Paired RelV
theorem Vals.length {xs:List V}{us:List Value}(r:Vals xs us):xs.length=us.length:=Paired.length r
theorem Vals.get:∀{xs:List V} {us:List Value} {i:Nat} {x:V},Vals xs us->xs[i]?=some x->∃u,us[i]?=some u/\RelV x u
 | _,_,_,_,.nil,e=>by simp at e
 | _,_,0,_,.cons r _,e=>by simp at e;subst e;exact ⟨_,rfl,r⟩
 | _,_,i+1,x,.cons _ t,e=>by
  obtain ⟨u,h1,h2⟩:=Vals.get (i:=i) (x:=x) t (by simpa using e)
  exact ⟨u,by simpa using h1,h2⟩
theorem Vals.set {x:V}{u:Value}(r:RelV x u):∀{xs:List V} {us:List Value} (i:Nat),Vals xs us->Vals (xs.set i x) (us.set i u)
 | _,_,_,.nil=>.nil
 | _,_,0,.cons _ t=>.cons r t
 | _,_,i+1,.cons q t=>.cons q (Vals.set r i t)
theorem Vals.append:∀{xs ys:List V} {us ws:List Value},Vals xs us->Vals ys ws->Vals (xs++ys) (us++ws)
 | _,_,_,_,.nil,s=>s
 | _,_,_,_,.cons r t,s=>.cons r (Vals.append t s)
theorem Vals.take:∀{xs:List V} {us:List Value} (n:Nat),Vals xs us->Vals (xs.take n) (us.take n)
 | _,_,0,_=>.nil
 | _,_,_+1,.nil=>.nil
 | _,_,n+1,.cons r t=>.cons r (Vals.take n t)
theorem Vals.drop:∀{xs:List V} {us:List Value} (n:Nat),Vals xs us->Vals (xs.drop n) (us.drop n)
 | _,_,0,r=>r
 | _,_,_+1,.nil=>.nil
 | _,_,n+1,.cons _ t=>Vals.drop n t
def RelO:Option V->Option Value->Prop
 | some v,some u=>RelV v u
 | none,none=>True
 | _,_=>False
def KV {κ:Type}:List (κ×V)->List (κ×Value)->Prop:=Paired λ (p:κ×V) (q:κ×Value)=>p.1=q.1/\RelV p.2 q.2
def kV:Key->V
 | .inl i=>.int i
 | .inr x=>.str x
inductive HO where
 | lst (xs:List V)
 | tup (xs:List V)
 | dK (kvs:List (Key×V)) | dT (kvs:List (List Key×V))
 | set (S:Int->Bool) (n:Nat)
 | ins (C dx:Addr) (fs:List (Str×V))
 | own (x:Addr)
 | xd (fs:List (Str×V))
 | met (f x:Addr)
 | rng (lo hi:Int)
 | frz (o:Obj) (u:HO)
 | tbl (ps:Array Value)
 | ext (φ:Heap->Prop)
abbrev Hp:=Addr->Option HO
def upd (H:Hp)(a:Addr)(o:HO):Hp:=λ b=>if b=a then some o else H b
theorem Aq {H:Hp}{a:Addr}{o:HO}:upd H a o a=some o:=by unfold upd;rw [if_pos rfl]
theorem Av {H:Hp}{a b:Addr}{o:HO}(h:b≠a):upd H a o b=H b:=by unfold upd;rw [if_neg h]
theorem Ik {H:Hp}{a:Addr}{o u:HO}:upd (upd H a o) a u=upd H a u:=by
 funext b;unfold upd;split<;>rfl
theorem Bm {H:Hp}{a b:Addr}{o:HO}(h:H a=some o)(h':H b=none):a≠b:=by
 intro e;subst e;rw [h] at h';cases h'
section
variable (P:Program)(w:World)
def ObjOk (H:Hp)(h:Heap)(a:Addr):HO->Prop
 | .lst xs=>xs.length<=sizeLine/\∃(its:List Value) (n:Nat),Vals xs its/\h.get? a=some { cls:=.type "list",data:=.seq its.toArray n }
 | .tup xs=>xs.length<=sizeLine/\∃its:List Value,Vals xs its/\IsTup h a its.toArray
 | .dK kvs=>kvs.length<=sizeLine/\(a == sysModules)=false/\∃vs,KV kvs vs/\h.DictOf (mixKind P w) a vs
 | .dT kvs=>kvs.length<=sizeLine/\(a == sysModules)=false/\∃xs:List (List Key×Addr×Value),
   Paired (λ (p:List Key×V) (q:List Key×Addr×Value)=>p.1=q.1/\H q.2.1=some (.tup (p.1.map kV))/\RelV p.2 q.2.2) kvs xs/\
   ∃o es ep,h.get? a=some o/\o.ExactDict/\o.data=.dict es ep/\es.toList=xs.map (entryOfKey (tupleKind (mixKind P w)))/\(xs.map (·.1)).Nodup
 | .set S n=>h.SetOf (intKind P w) a S n
 | .ins C dx fs=>H dx=some (.own a)/\fs.length<=1000/\dx≠a/\h.get? a=some (PySem.W.instObj C dx)/\
   ∃mA,h.Ns1 dx mA/\(∀f,RelO (fs.lookup f) (mA f))/\PySem.Within mA (fs.map (·.1))
 | .own _=>∃o,h.get? a=some o
 | .xd fs=>∃mA,h.Ns1 a mA/\∀f,RelO (fs.lookup f) (mA f)
 | .rng lo hi=>∃t u v,h.get? a=some { cls:=.type "range",data:=.fields #[.int lo t,.int hi u,.int 1 v] }
 | .frz o u=>h.get? a=some o/\ObjOk H h a u
 | .tbl ps=>h.get? a=some { cls:=.none,data:=.fields ps }
 | .met f x=>h.get? a=some (PySem.W.methodObj (.ref f) (.ref x))
 | .ext φ=>φ h/\(∃o,h.get? a=some o)/\∀h1 h2:Heap,φ h1->(∀o,h1.get? a=some o->h2.get? a=some o)->φ h2
def HOk (H:Hp)(h:Heap):Prop:=∀a o,H a=some o->ObjOk P w H h a o
end
section
variable {P:Program}{w:World}{H H':Hp}{h h':Heap}{a:Addr}{o:HO}
theorem ObjOk.lt (x:ObjOk P w H h a o):a < h.objs.size:=by
 cases o with
 | lst xs=>obtain ⟨_,_,_,_,e⟩:=x;exact Heap.lt_size e
 | tup xs=>obtain ⟨_,_,_,p⟩:=x;exact p.lt
 | dK kvs=>obtain ⟨_,_,_,_,o,_,_,e,_⟩:=x;exact Heap.lt_size e
 | dT kvs=>obtain ⟨_,_,_,_,o,_,_,e,_⟩:=x;exact Heap.lt_size e
 | set S n=>obtain ⟨o,_,_,_,e,_⟩:=x;exact Heap.lt_size e
 | ins C dx fs=>obtain ⟨_,_,_,e,_⟩:=x;exact Heap.lt_size e
 | own y=>obtain ⟨_,e⟩:=x;exact Heap.lt_size e
 | xd fs=>obtain ⟨_,⟨_,_,_,e,_⟩,_⟩:=x;exact Heap.lt_size e
 | rng lo hi=>obtain ⟨_,_,_,e⟩:=x;exact Heap.lt_size e
 | frz ob u=>obtain ⟨e,_⟩:=x;exact Heap.lt_size e
 | tbl ps=>exact Heap.lt_size (show h.get? a=some _ from x)
 | met f y=>exact Heap.lt_size (show h.get? a=some _ from x)
 | ext φ=>obtain ⟨_,⟨_,e⟩,_⟩:=x;exact Heap.lt_size e
theorem Paired.mapP {α β:Type}{F G:α->β->Prop}:∀{l₁:List α} {l₂:List β},Paired F l₁ l₂->(∀a b,F a b->G a b)->Paired G l₁ l₂
 | _,_,.nil,_=>.nil
 | _,_,.cons r t,f=>.cons (f _ _ r) (Paired.mapP t f)
theorem ObjOk.stay (x:ObjOk P w H h a o)(k:∀b u,(b=a\/H b=some (.own a))->h.get? b=some u->h'.get? b=some u)
  (ho:∀b,H b=some (.own a)->H' b=some (.own a)) (ht:∀b xs,H b=some (.tup xs)->H' b=some (.tup xs)):ObjOk P w H' h' a o:=by
 induction o with
 | lst xs=>obtain ⟨z,its,n,r,e⟩:=x;exact ⟨z,its,n,r,k _ _ (.inl rfl) e⟩
 | tup xs=>obtain ⟨z,its,r,ob,e,c⟩:=x;exact ⟨z,its,r,ob,k _ _ (.inl rfl) e,c⟩
 | dK kvs=>obtain ⟨z,y,vs,r,ob,es,ep,e,c⟩:=x;exact ⟨z,y,vs,r,ob,es,ep,k _ _ (.inl rfl) e,c⟩
 | dT kvs=>
  obtain ⟨z,y,xs,r,ob,es,ep,e,c⟩:=x;exact ⟨z,y,xs,Paired.mapP r λ p q z=>⟨z.1,ht _ _ z.2.1,z.2.2⟩,ob,es,ep,k _ _ (.inl rfl) e,c⟩
 | set S n=>obtain ⟨ob,es,ep,t,e,c⟩:=x;exact ⟨ob,es,ep,t,k _ _ (.inl rfl) e,c⟩
 | ins C dx fs=>
  obtain ⟨d,z,ne,e,mA,⟨od,es,ep,e2,c⟩,r⟩:=x;exact ⟨ho _ d,z,ne,k _ _ (.inl rfl) e,mA,⟨od,es,ep,k _ _ (.inr d) e2,c⟩,r⟩
 | own y=>obtain ⟨ob,e⟩:=x;exact ⟨ob,k _ _ (.inl rfl) e⟩
 | xd fs=>obtain ⟨mA,⟨od,es,ep,e,c⟩,r⟩:=x;exact ⟨mA,⟨od,es,ep,k _ _ (.inl rfl) e,c⟩,r⟩
 | rng lo hi=>obtain ⟨t,u,v,e⟩:=x;exact ⟨t,u,v,k _ _ (.inl rfl) e⟩
 | frz ob u ih=>obtain ⟨e,q⟩:=x;exact ⟨k _ _ (.inl rfl) e,ih q⟩
 | tbl ps=>
  have e:h.get? a=some { cls:=.none,data:=.fields ps }:=x;show h'.get? a=some { cls:=.none,data:=.fields ps };exact k a _ (.inl rfl) e
 | met f y=>
  have e:h.get? a=some (PySem.W.methodObj (.ref f) (.ref y)):=x;show h'.get? a=some (PySem.W.methodObj (.ref f) (.ref y));exact k a _ (.inl rfl) e
 | ext φ=>obtain ⟨p,⟨o,e⟩,st⟩:=x;exact ⟨st _ _ p λ o q=>k _ _ (.inl rfl) q,⟨o,k _ _ (.inl rfl) e⟩,st⟩
theorem HOk.lt (x:HOk P w H h)(e:H a=some o):a < h.objs.size:=(x a o e).lt
theorem HOk.fresh (x:HOk P w H h)(e:h.objs.size<=a):H a=none:=by
 cases q:H a with
 | none=>rfl
 | some u=>exact absurd (Nat.lt_of_lt_of_le (x.lt q) e) (Nat.lt_irrefl _)
theorem HOk.kept (x:HOk P w H h)(k:∀b u,h.get? b=some u->h'.get? b=some u):HOk P w H h':=λ a o e=>
 (x a o e).stay (λ b u _ q=>k b u q) (λ _ q=>q) λ _ _ q=>q
theorem HOk.laid (x:HOk P w H h)(k:∀b u,h.get? b=some u->h'.get? b=some u)(hp:h.objs.size<=a)(new:ObjOk P w (upd H a o) h' a o):HOk P w (upd H a o) h':=λ b u e=>by
 have hn:=x.fresh hp;by_cases hb:b=a
 ·subst hb;rw [Aq] at e;cases e;exact new
 ·rw [Av hb] at e;exact (x b u e).stay (λ c v _ q=>k c v q) (λ c q=>by rw [Av (Bm q hn)];exact q) λ c xs q=>by rw [Av (Bm q hn)];exact q
end
def Rd (H:Hp)(a:Addr)(u:HO):Prop:=H a=some u\/∃o,H a=some (.frz o u)
theorem Rd.ok {P:Program}{w:World}{H:Hp}{h:Heap}{a:Addr}{u:HO}(r:Rd H a u)(x:HOk P w H h):ObjOk P w H h a u:=by
 rcases r with r | ⟨o,r⟩
 ·exact x a u r
 ·obtain ⟨_,q⟩:=x a _ r;exact q
def Mut:Option HO->Prop
 | some (.lst _)=>True
 | some (.dK _)=>True
 | some (.dT _)=>True
 | some (.set _ _)=>True
 | some (.ins _ _ _)=>True
 | some (.ext _)=>True
 | _=>False
section
variable {P:Program}{w:World}{H:Hp}{h h':Heap}{x e:Addr}{o':HO}
theorem HOk.write (ok:HOk P w H h)(mu:Mut (H x))(he:e=x\/H e=some (.own x))(k:∀b u,b≠e->h.get? b=some u->h'.get? b=some u)(heo:∃u,h'.get? e=some u)
  (new:ObjOk P w (upd H x o') h' x o'):HOk P w (upd H x o') h':=λ b u q=>by
 have nown:∀c y,H c=some (.own y)->c≠x:=λ c y r z=>by subst z;rw [r] at mu;exact mu
 have ntup:∀c xs,H c=some (.tup xs)->c≠x:=λ c xs r z=>by subst z;rw [r] at mu;exact mu
 by_cases hb:b=x
 ·subst hb;rw [Aq] at q;cases q;exact new
 ·rw [Av hb] at q;by_cases hbe:b=e
  ·have q':H b=some (.own x):=by
    rcases he with z | z
    ·exact absurd (hbe.trans z) hb
    ·rw [hbe];exact z
   rw [q] at q';cases q';obtain ⟨v,hv⟩:=heo;exact ⟨v,by rw [hbe];exact hv⟩
  ·refine (ok b u q).stay (λ c v hc r=>k c v ?_ r) (λ c r=>by rw [Av (nown c b r)];exact r) λ c xs r=>by rw [Av (ntup c xs r)];exact r
   rcases hc with rfl | hc
   ·exact hbe
   ·rintro rfl
    rcases he with z | z
    ·exact nown c b hc z
    ·rw [hc] at z;cases z;exact hb rfl
end
structure Un (fs ex:List Addr)(H H':Hp)(h h':Heap):Prop where
 keep:∀b o,h.get? b=some o->H b=none->b∉fs->b∉ex->h'.get? b=some o
 slot:∀b o,h.get? b=some o->H b=none->b∈fs->b∉ex->∃sl,h'.get? b=some { o with slots:=sl }
 free:∀b o,h.get? b=some o->H b=none->b∉ex->H' b=none
 there:∀b o,h.get? b=some o->b∉ex->∃o',h'.get? b=some o'
 tups:∀b xs,H b=some (.tup xs)->H' b=some (.tup xs)
 frzs:∀b o u,H b=some (.frz o u)->H' b=some (.frz o u)
 tbls:∀b ps,H b=some (.tbl ps)->∃more,H' b=some (.tbl (ps++more))
section
variable {fs fs' ex ex':List Addr}{H H1 H2:Hp}{h h1 h2 h':Heap}{a x e:Addr}{o:HO}
theorem Un.any (u:Un fs ex H H1 h h1){b:Addr}{ob:Obj}(q:h.get? b=some ob)(n:H b=none)(hx:b∉ex):∃sl,h1.get? b=some { ob with slots:=sl }:=by
 by_cases hb:b∈fs
 ·exact u.slot b ob q n hb hx
 ·exact ⟨ob.slots,u.keep b ob q n hb hx⟩
theorem Un.kept (k:∀b u,h.get? b=some u->h'.get? b=some u):Un fs ex H H h h':=
 ⟨λ b ob q _ _ _=>k b ob q,λ b ob q _ _ _=>⟨ob.slots,k b ob q⟩,λ _ _ _ n _=>n,λ b ob q _=>⟨ob,k b ob q⟩,λ _ _ q=>q,λ _ _ _ q=>q,λ _ ps q=>⟨#[],by rw [q];simp⟩⟩
theorem Un.refl:Un fs ex H H h h:=Un.kept λ _ _ q=>q
theorem Un.laid (k:∀b u,h.get? b=some u->h'.get? b=some u)(hp:h.objs.size<=a)(hn:H a=none):Un fs ex H (upd H a o) h h' where
 keep:=λ b u q _ _ _=>k b u q
 slot:=λ b u q _ _ _=>⟨u.slots,k b u q⟩
 free:=λ b u q n _=>by rw [Av (Nat.ne_of_lt (Nat.lt_of_lt_of_le (Heap.lt_size q) hp))];exact n
 there:=λ b u q _=>⟨u,k b u q⟩
 tups:=λ b xs q=>by rw [Av (Bm q hn)];exact q
 frzs:=λ b u xs q=>by rw [Av (Bm q hn)];exact q
 tbls:=λ b ps q=>⟨#[],by rw [Av (Bm q hn),q];simp⟩
theorem Un.write (mu:Mut (H x))(he:e=x\/H e=some (.own x))(k:∀b u,b≠e->h.get? b=some u->h'.get? b=some u)(heo:∃u,h'.get? e=some u):Un fs ex H (upd H x o) h h':=by
 have hx:∀b,H b=none->b≠x:=λ b n z=>by subst z;rw [n] at mu;exact mu
 have hb:∀b,H b=none->b≠e:=λ b n z=>by
  subst z;rcases he with r | r
  ·exact hx b n r
  ·rw [n] at r;cases r
 have hm:∀b u,H b=some u->¬ Mut (some u)->b≠x:=λ b u q nm z=>by subst z;rw [q] at mu;exact nm mu
 refine ⟨λ b u q n _ _=>k b u (hb b n) q,λ b u q n _ _=>⟨u.slots,k b u (hb b n) q⟩,λ b u q n _=>by rw [Av (hx b n)];exact n,λ b u q _=>?_,
  λ b xs q=>by rw [Av (hm b _ q λ z=>z)];exact q,λ b u xs q=>by rw [Av (hm b _ q λ z=>z)];exact q,λ b ps q=>⟨#[],by rw [Av (hm b _ q λ z=>z),q];simp⟩⟩
 by_cases hbe:b=e
 ·subst hbe;exact heo
 ·exact ⟨u,k b u hbe q⟩
end
def trk (h:Heap)(H:Hp):List Addr:=(List.range h.objs.size).filter λ a=>(H a).isSome
def hidT (h:Heap)(H:Hp):Heap:=PySem.W.hideAll h (trk h H)
theorem ym (h:Heap)(H:Hp):(hidT h H).objs.size=h.objs.size:=PySem.W.hideAll_size _ _
theorem uV {h:Heap}{H:Hp}{b:Addr}{o:Obj}(e:h.get? b=some o)(n:H b=none):(hidT h H).get? b=some o:=
 PySem.W.hideAll_get _ e λ hm=>by
  have q:(H b).isSome=true:=(List.mem_filter.mp hm).2;rw [n] at q;simp at q
theorem kW {h:Heap}{H:Hp}{b:Addr}{o:Obj}(e:(hidT h H).get? b=some o):h.get? b=some o/\H b=none:=by
 have e':h.get? b=some o:=PySem.W.of_hideAll (trk h H) e;refine ⟨e',?_⟩;cases q:H b with
 | none=>rfl
 | some x=>
  have hm:b∈trk h H:=List.mem_filter.mpr ⟨List.mem_range.mpr (Heap.lt_size e'),by simp [q]⟩
  have z:(hidT h H).get? b=none:=PySem.W.hideAll_none (trk h H) hm;rw [z] at e;cases e
structure Mod (K:FrG)(mg:Str->Option Value)(base:Heap):Prop where
 kin:K.In base
 glob:base.Ns mainGlobals mg
 blt:∃mb,base.Ns builtinsNs mb/\∀x:Str,x≠"__name__"->mb x=bootBuiltins x
 nolimit:base.NoLimit
structure Cx where
 prog:Program
 w:World
 K:FrG
 mg:Str->Option Value
 base:Heap
 A:Around
 N:List Str
 s₀:Shared
 H₀:Hp
 env:Env
 outer:List Env
 stack:List Env
 ex:List Addr
 fn:Str->Bool
 calm:Bool
 pn:List (Addr×Obj)
 xe:Value->Shared->Prop
def frs (l:List Env):List Addr:=l.filterMap (·.frame)
abbrev Cx.fs (X:Cx):List Addr:=frs X.outer
def Vis (sc:Scope)(x:Str):Prop:=sc.names.lookup x=some .local\/sc.names.lookup x=some .cell\/sc.names.lookup x=some .free
def Loc (sc:Scope)(x:Str):Prop:=sc.names.lookup x=some .local\/sc.names.lookup x=some .cell
def Look (env:Env)(h:Heap)(m:Str->Option Value)(x:Str)(u:Value):Prop:=
 (env.kindOf x=some .local/\m x=some u)\/((env.kindOf x=some .cell\/env.kindOf x=some .free)/\∃c,env.cells.lookup x=some c/\h.IsCell c (some u))
structure Cx.Ok (X:Cx):Prop where
 mod:Mod X.K X.mg X.base
 kind:X.env.scope.kind=.function
 glob:X.env.globals=mainGlobals
 blt:X.env.builtins=builtinsNs
 above:X.s₀.heap.objs.size<=X.env.locals
 inj:∀x y c,X.env.cells.lookup x=some c->X.env.cells.lookup y=some c->x=y
 has:∀x,(X.env.kindOf x=some .cell\/X.env.kindOf x=some .free)->∃c,X.env.cells.lookup x=some c
 cab:∀x c,X.fn x=true->X.env.cells.lookup x=some c->X.s₀.heap.objs.size<=c
 hd:X.calm=true->X.A.handled=none
 frames:X.A.frames=some X.stack
 stk:X.stack=X.outer\/(X.stack=X.env::X.outer/\X.env.frame=some X.env.locals)
 exf:∀b∈X.ex,b≠X.env.locals/\∀x c,X.env.cells.lookup x=some c->c≠b
 bs:∀b o,X.base.get? b=some o->X.s₀.heap.get? b=some o/\X.H₀ b=none
 bsz:X.base.objs.size<=X.s₀.heap.objs.size
 noex:∀b o,X.base.get? b=some o->b∉X.ex
 exfs:∀b∈X.ex,b∉X.fs
 funs:X.s₀.heap.FunFrames X.base X.outer
 frf:∀b∈X.fs,X.H₀ b=none
structure Inv (X:Cx)(pins:List (Addr×Obj))(σ:List (Option V))(H:Hp)(s:Shared):Prop where
 ok:X.Ok
 os:s.os=X.s₀.os
 bare:AllBare s.gens
 base:Un X.fs X.ex X.H₀ H X.s₀.heap s.heap
 loc:∃m,s.heap.Ns X.env.locals m/\∀(i:Nat) (x:Str) (v:V),X.N[i]?=some x->σ[i]?=some (some v)->Vis X.env.scope x->∃u,RelV v u/\Look X.env s.heap m x u
 cell:∀x c,X.env.cells.lookup x=some c->∃v,s.heap.IsCell c v
 free:H X.env.locals=none
 freeC:∀x c,X.env.cells.lookup x=some c->H c=none
 pin:∀p∈X.pn++pins,s.heap.get? p.1=some p.2/\H p.1=none/\p.1≠X.env.locals/\p.1∉X.fs/\∀v,p.2.data≠.cell v
 hok:HOk X.prog X.w H s.heap
 len:σ.length=X.N.length
section
variable {X:Cx}{pins:List (Addr×Obj)}{σ:List (Option V)}{H H':Hp}{s:Shared}{h':Heap}
theorem Cx.Ok.nofr (ok:X.Ok){b:Addr}{o:Obj}(e:X.base.get? b=some o):b∉X.fs:=λ hb=>by
 have:=(ok.funs.mem hb).1;rw [e] at this;cases this
theorem Inv.bs (I:Inv X pins σ H s):∀b o,X.base.get? b=some o->s.heap.get? b=some o/\H b=none:=λ b o e=>
 ⟨I.base.keep b o (I.ok.bs b o e).1 (I.ok.bs b o e).2 (I.ok.nofr e) (I.ok.noex b o e),I.base.free b o (I.ok.bs b o e).1 (I.ok.bs b o e).2 (I.ok.noex b o e)⟩
theorem Inv.bk (I:Inv X pins σ H s):∀b o,X.base.get? b=some o->s.heap.get? b=some o:=λ b o e=>(I.bs b o e).1
theorem Inv.mod (I:Inv X pins σ H s):Mod X.K X.mg X.base:=I.ok.mod
theorem Inv.kIn (I:Inv X pins σ H s):X.K.In s.heap:=I.ok.mod.kin.keeps I.bk
theorem Inv.lt (I:Inv X pins σ H s):X.env.locals < s.heap.objs.size:=let ⟨_,hn,_⟩:=I.loc;hn.lt
theorem Inv.sz (I:Inv X pins σ H s):X.s₀.heap.objs.size<=s.heap.objs.size:=Nat.le_trans I.ok.above (Nat.le_of_lt I.lt)
theorem Inv.nofs (I:Inv X pins σ H s){a:Addr}(h:s.heap.objs.size<=a):a∉X.fs:=λ hb=>by
 obtain ⟨_,o,ho,_⟩:=I.ok.funs.mem hb;exact absurd (Nat.lt_of_lt_of_le (Heap.lt_size ho) (Nat.le_trans I.sz h)) (Nat.lt_irrefl _)
theorem Inv.cne (I:Inv X pins σ H s):∀x c,X.env.cells.lookup x=some c->c≠X.env.locals:=λ x c e z=>by
 obtain ⟨v,o,ho,hd⟩:=I.cell x c e;obtain ⟨m,⟨o',es,ep,ho',hd',_⟩,_⟩:=I.loc;rw [z,ho'] at ho;cases ho;rw [hd'] at hd;cases hd
theorem Inv.funs (I:Inv X pins σ H s):s.heap.FunFrames X.base X.outer:=by
 have all:∀(l:List Env),(∀b∈frs l,b∈X.fs)->X.s₀.heap.FunFrames X.base l->s.heap.FunFrames X.base l:=by
  intro l
  induction l with
  | nil=>intro _ _;trivial
  | cons env r ih=>
   intro hs hl;obtain ⟨hk,⟨L,o,hf,hn,ho,hd⟩,hr⟩:=hl;have hL:L∈X.fs:=hs L (by unfold frs;rw [List.filterMap_cons,hf];exact List.mem_cons_self)
   obtain ⟨sl,e⟩:=I.base.slot L o ho (I.ok.frf L hL) hL λ z=>I.ok.exfs L z hL
   exact ⟨hk,⟨L,_,hf,hn,e,hd⟩,ih (λ b hb=>hs b (by unfold frs;rw [List.filterMap_cons,hf];exact List.mem_cons_of_mem _ hb)) hr⟩
 exact all X.outer (λ _ hb=>hb) I.ok.funs
theorem Inv.stack (I:Inv X pins σ H s):s.heap.FunFrames X.base X.stack:=by
 rcases I.ok.stk with e | ⟨e,hf⟩
 ·rw [e];exact I.funs
 ·rw [e];obtain ⟨m,hn,_⟩:=I.loc;refine .cons (by rw [I.ok.kind];decide) hf hn ?_ I.funs
  exact Heap.get?_none_of_le (Nat.le_trans I.ok.bsz I.ok.above)
theorem Inv.stkSub (I:Inv X pins σ H s):∀b∈frs X.stack,b∈X.env.locals::X.fs:=λ b hb=>by
 rcases I.ok.stk with e | ⟨e,hf⟩
 ·rw [e] at hb;exact List.mem_cons_of_mem _ hb
 ·rw [e] at hb;unfold frs at hb;rw [List.filterMap_cons,hf] at hb;exact hb
theorem Inv.stkFree (I:Inv X pins σ H s):∀b∈frs X.stack,H b=none:=λ b hb=>by
 rcases List.mem_cons.mp (I.stkSub b hb) with e | hb
 ·rw [e];exact I.free
 ·obtain ⟨_,o,ho,_⟩:=I.ok.funs.mem hb;exact I.base.free b o ho (I.ok.frf b hb) λ z=>I.ok.exfs b z hb
theorem Inv.step {g':Array GenState}{t':Nat}{d':Drawn}{ch:List Addr}(I:Inv X pins σ H s)
  (hch:∀b∈ch,(b∈X.ex\/X.s₀.heap.objs.size<=b)/\b≠X.env.locals/\(∀x c,X.env.cells.lookup x=some c->c≠b)/\∀p∈X.pn++pins,p.1≠b)
  (keep:∀b o,b≠X.env.locals->b∉X.fs->b∉ch->s.heap.get? b=some o->H b=none->h'.get? b=some o)
  (slot:∀b o,b≠X.env.locals->b∈X.fs->b∉ch->s.heap.get? b=some o->H b=none->∃sl,h'.get? b=some { o with slots:=sl }) (free:∀b o,b∉ch->s.heap.get? b=some o->H b=none->H' b=none)
  (there:∀b o,b∉ch->s.heap.get? b=some o->∃o',h'.get? b=some o')
  (tups:∀b xs,H b=some (.tup xs)->H' b=some (.tup xs)) (frzs:∀b o u,H b=some (.frz o u)->H' b=some (.frz o u)) (tbls:∀b ps,H b=some (.tbl ps)->∃more,H' b=some (.tbl (ps++more)))
  (ns:∀m,s.heap.Ns X.env.locals m->h'.Ns X.env.locals m) (hok:HOk X.prog X.w H' h') (hg:AllBare g'):
  Inv X pins σ H' { s with heap:=h',gens:=g',drawn:=d',toks:=t' }:=by
 have neL:∀b o,X.s₀.heap.get? b=some o->b≠X.env.locals:=λ b o e=>Nat.ne_of_lt (Nat.lt_of_lt_of_le (Heap.lt_size e) I.ok.above)
 have neC:∀b o,X.s₀.heap.get? b=some o->b∉X.ex->b∉ch:=λ b o e hx hb=>by
  rcases (hch b hb).1 with z | z
  ·exact hx z
  ·exact absurd (Nat.lt_of_lt_of_le (Heap.lt_size e) z) (Nat.lt_irrefl _)
 have cellK:∀x c,X.env.cells.lookup x=some c->∀v,s.heap.IsCell c v->h'.IsCell c v:=λ x c e v ⟨o,ho,hd⟩=>by
  have nch:c∉ch:=λ z=>(hch c z).2.2.1 x c e rfl
  by_cases hc:c∈X.fs
  ·obtain ⟨sl,q⟩:=slot c o (I.cne x c e) hc nch ho (I.freeC x c e);exact ⟨_,q,hd⟩
  ·exact ⟨o,keep c o (I.cne x c e) hc nch ho (I.freeC x c e),hd⟩
 refine ⟨I.ok,I.os,hg,⟨λ b o e n hb hx=>?_,λ b o e n hb hx=>?_,λ b o e n hx=>?_,λ b o e hx=>?_,λ b xs e=>tups b xs (I.base.tups b xs e),λ b o xs e=>frzs b o xs (I.base.frzs b o xs e),λ b ps e=>?_⟩,?_,λ x c e=>?_,?_,λ x c e=>?_,λ p hp=>?_,hok,I.len⟩
 ·exact keep b o (neL b o e) hb (neC b o e hx) (I.base.keep b o e n hb hx) (I.base.free b o e n hx)
 ·obtain ⟨sl,e1⟩:=I.base.slot b o e n hb hx;obtain ⟨sl',e2⟩:=slot b _ (neL b o e) hb (neC b o e hx) e1 (I.base.free b o e n hx);exact ⟨sl',e2⟩
 ·obtain ⟨o',e1⟩:=I.base.there b o e hx;exact free b o' (neC b o e hx) e1 (I.base.free b o e n hx)
 ·obtain ⟨o',e1⟩:=I.base.there b o e hx;exact there b o' (neC b o e hx) e1
 ·obtain ⟨m1,e1⟩:=I.base.tbls b ps e;obtain ⟨m2,e2⟩:=tbls b _ e1;exact ⟨m1++m2,by rw [e2,Array.append_assoc]⟩
 ·obtain ⟨m,hn,hl⟩:=I.loc;refine ⟨m,ns m hn,λ i x v e1 e2 e3=>?_⟩
  obtain ⟨u,r,l⟩:=hl i x v e1 e2 e3;refine ⟨u,r,?_⟩;rcases l with l | ⟨k,c,e,z⟩
  ·exact .inl l
  ·exact .inr ⟨k,c,e,cellK x c e _ z⟩
 ·obtain ⟨v,z⟩:=I.cell x c e;exact ⟨v,cellK x c e v z⟩
 ·obtain ⟨m,⟨o,_,_,ho,_⟩,_⟩:=I.loc;exact free _ o (λ z=>(hch _ z).2.1 rfl) ho I.free
 ·obtain ⟨v,o,ho,hd⟩:=I.cell x c e;exact free c o (λ z=>(hch c z).2.2.1 x c e rfl) ho (I.freeC x c e)
 ·obtain ⟨e,n,ne,nf,d⟩:=I.pin p hp;have nch:p.1∉ch:=λ z=>(hch p.1 z).2.2.2 p hp rfl
  exact ⟨keep p.1 p.2 ne nf nch e n,free p.1 p.2 nch e n,ne,nf,d⟩
theorem Inv.un {t':Nat}(I:Inv X pins σ H s)(u:Un X.fs [] H H' s.heap h')(hok:HOk X.prog X.w H' h'):Inv X pins σ H' { s with heap:=h',toks:=t' }:=by
 obtain ⟨m,⟨o,es,ep,ho,r⟩,_⟩:=id I.loc;obtain ⟨sl,hL⟩:=u.any ho I.free (by simp)
 exact I.step (g':=s.gens) (d':=s.drawn) (ch:=[]) (λ _ z=>nomatch z) (λ b o _ hb _ e n=>u.keep b o e n hb (by simp)) (λ b o _ hb _ e n=>u.slot b o e n hb (by simp)) (λ b o _ e n=>u.free b o e n (by simp)) (λ b o _ e=>u.there b o e (by simp)) u.tups u.frzs u.tbls (λ m' hm=>by
  obtain ⟨o',es',ep',ho',r'⟩:=hm;rw [ho] at ho';cases ho';exact ⟨_,es',ep',hL,r'⟩) hok I.bare
theorem Inv.call {g':Array GenState}{t':Nat}{d':Drawn}{ch:List Addr}(I:Inv X pins σ H s)(u:Un (frs X.stack) ch H H' s.heap h')(hok:HOk X.prog X.w H' h')(hg:AllBare g')
  (hch:∀b∈ch,(b∈X.ex\/X.s₀.heap.objs.size<=b)/\b≠X.env.locals/\(∀x c,X.env.cells.lookup x=some c->c≠b)/\∀p∈X.pn++pins,p.1≠b):
  Inv X pins σ H' { s with heap:=h',gens:=g',drawn:=d',toks:=t' }:=by
 obtain ⟨m,⟨o,es,ep,ho,r⟩,_⟩:=id I.loc;obtain ⟨sl,hL⟩:=u.any ho I.free λ z=>(hch _ z).2.1 rfl
 exact I.step (ch:=ch) hch (λ b o hL hb hc e n=>u.keep b o e n (λ z=>(List.mem_cons.mp (I.stkSub b z)).elim hL hb) hc) (λ b o _ _ hc e n=>u.any e n hc) (λ b o hc e n=>u.free b o e n hc) (λ b o hc e=>u.there b o e hc) u.tups u.frzs u.tbls (λ m' hm=>by
  obtain ⟨o',es',ep',ho',r'⟩:=hm;rw [ho] at ho';cases ho';exact ⟨_,es',ep',hL,r'⟩) hok hg
theorem Inv.turned {t':Nat}{it:Addr}(I:Inv X pins σ H s)(k:∀b o,b≠it->s.heap.get? b=some o->h'.get? b=some o)(hn:H it=none)(hL:it≠X.env.locals)
  (h1:it∈X.ex\/X.s₀.heap.objs.size<=it) (h2:∀x c,X.env.cells.lookup x=some c->c≠it) (h3:∀p∈X.pn++pins,p.1≠it):Inv X pins σ H { s with heap:=h',toks:=t' }:=by
 have nit:∀b u,H b=some u->b≠it:=λ b u e z=>by rw [z,hn] at e;cases e
 refine I.step (g':=s.gens) (d':=s.drawn) (ch:=[it]) (λ b hb=>?_) (λ b o _ _ hc e _=>k b o (λ z=>hc (by simp [z])) e) (λ b o _ _ hc e _=>⟨o.slots,k b o (λ z=>hc (by simp [z])) e⟩) (λ _ _ _ _ n=>n)
  (λ b o hc e=>⟨o,k b o (λ z=>hc (by simp [z])) e⟩) (λ _ _ e=>e) (λ _ _ _ e=>e) (λ b ps e=>⟨#[],by rw [e];simp⟩) (λ m hm=>?_) (λ b u e=>?_) I.bare
 ·have e:b=it:=by simpa using hb
  subst e;exact ⟨h1,hL,h2,h3⟩
 ·obtain ⟨o,es,ep,ho,r⟩:=hm;exact ⟨o,es,ep,k _ o (Ne.symm hL) ho,r⟩
 ·refine (I.hok b u e).stay (λ c v hc q=>k c v ?_ q) (λ _ q=>q) λ _ _ q=>q
  rcases hc with z | z
  ·rw [z];exact nit b u e
  ·exact nit c _ z
theorem Inv.tok (I:Inv X pins σ H s)(t:Nat):Inv X pins σ H { s with toks:=t }:=I.un (h':=s.heap) (t':=t) Un.refl I.hok
theorem Inv.kept {t':Nat}(I:Inv X pins σ H s)(k:∀b u,s.heap.get? b=some u->h'.get? b=some u):Inv X pins σ H { s with heap:=h',toks:=t' }:=I.un (Un.kept k) (I.hok.kept k)
theorem Inv.laid {a:Addr}{o:HO}{t':Nat}(I:Inv X pins σ H s)(k:∀b u,s.heap.get? b=some u->h'.get? b=some u)(hp:s.heap.objs.size<=a)(new:ObjOk X.prog X.w (upd H a o) h' a o):
  Inv X pins σ (upd H a o) { s with heap:=h',toks:=t' }:=I.un (Un.laid k hp (I.hok.fresh hp)) (I.hok.laid k hp new)
theorem Inv.write {x e:Addr}{o:HO}{t':Nat}(I:Inv X pins σ H s)(mu:Mut (H x))(he:e=x\/H e=some (.own x))(k:∀b u,b≠e->s.heap.get? b=some u->h'.get? b=some u)(heo:∃u,h'.get? e=some u)
  (new:ObjOk X.prog X.w (upd H x o) h' x o):Inv X pins σ (upd H x o) { s with heap:=h',toks:=t' }:=I.un (Un.write mu he k heo) (I.hok.write mu he k heo new)
theorem Inv.pins_of {pins':List (Addr×Obj)}(I:Inv X pins σ H s)(h:∀p∈pins',s.heap.get? p.1=some p.2/\H p.1=none/\p.1≠X.env.locals/\p.1∉X.fs/\∀v,p.2.data≠.cell v):Inv X pins' σ H s:=
 ⟨I.ok,I.os,I.bare,I.base,I.loc,I.cell,I.free,I.freeC,λ p hp=>(List.mem_append.mp hp).elim (λ z=>I.pin p (List.mem_append_left _ z)) (h p),I.hok,I.len⟩
theorem Vc {N:List Str}(hN:N.Nodup){i j:Nat}{x:Str}(a:N[i]?=some x)(b:N[j]?=some x):i=j:=by
 obtain ⟨h1,e1⟩:=List.getElem?_eq_some_iff.mp a;obtain ⟨h2,e2⟩:=List.getElem?_eq_some_iff.mp b;exact (List.getElem_inj hN).mp (e1.trans e2.symm)
theorem pA {M:Model}{A:Around}{E:Value->Shared->Prop}{i:Nat}{x:Str}{v:V}{u:Value}{Q:Unit->Shared->Prop}(I:Inv X pins σ H s)(hN:X.N.Nodup)(hi:X.N[i]?=some x)(hx:Loc X.env.scope x)(r:RelV v u)
  (h:∀s',Inv X pins (σ.set i (some v)) H s'->(∃a,Heap.SameBut a s.heap s'.heap/\(a=X.env.locals\/X.env.cells.lookup x=some a))->Q () s') (hf:X.fn x=true\/X.env.scope.names.lookup x=some .local:=by first | exact .inl rfl | exact .inr rfl | assumption):wpAny M A (storeName X.env x u) Q E s:=by
 obtain ⟨m,hn,hl⟩:=id I.loc;have hcls:(X.env.scope.kind == .class || (X.env.scope.kind == .module && X.env.locals != X.env.globals))=false:=by rw [I.ok.kind];rfl
 have hiσ:i < σ.length:=by rw [I.len];exact (List.getElem?_eq_some_iff.mp hi).1
 have cne:=I.cne;have tracked:∀{a:Addr} {h':Heap},(∃o,s.heap.get? a=some o/\H a=none)->Heap.SameBut a s.heap h'->HOk X.prog X.w H h':=λ {a h'} ha hs b ob e=>by
  obtain ⟨_,_,hfree⟩:=ha;refine (I.hok b ob e).stay (λ c w' hc q=>(hs.2 c ?_).trans q) (λ _ q=>q) λ _ _ q=>q
  rintro rfl
  rcases hc with rfl | hc
  ·rw [hfree] at e;cases e
  ·rw [hfree] at hc;cases hc
 rcases hx with hk | hk
 ·refine wpAny_storeName_local hk hn (λ h' hn' hs=>?_) hcls
  obtain ⟨oL,_,_,hoL,_⟩:=id hn;refine h _ ⟨I.ok,I.os,I.bare,⟨λ b o e n hb hx=>?_,λ b o e n hb hx=>?_,I.base.free,λ b o e hx=>?_,I.base.tups,I.base.frzs,I.base.tbls⟩,⟨_,hn',λ j y v' e1 e2 e3=>?_⟩,λ y c e=>?_,I.free,I.freeC,λ p hp=>?_,tracked ⟨oL,hoL,I.free⟩ hs,by simpa using I.len⟩ ⟨_,hs,.inl rfl⟩
  ·exact (hs.2 b (Nat.ne_of_lt (Nat.lt_of_lt_of_le (Heap.lt_size e) I.ok.above))).trans (I.base.keep b o e n hb hx)
  ·obtain ⟨sl,e1⟩:=I.base.slot b o e n hb hx;exact ⟨sl,(hs.2 b (Nat.ne_of_lt (Nat.lt_of_lt_of_le (Heap.lt_size e) I.ok.above))).trans e1⟩
  ·obtain ⟨o',e1⟩:=I.base.there b o e hx;exact ⟨o',(hs.2 b (Nat.ne_of_lt (Nat.lt_of_lt_of_le (Heap.lt_size e) I.ok.above))).trans e1⟩
  ·by_cases hj:j=i
   ·subst hj;rw [hi] at e1;cases e1;rw [List.getElem?_set_self hiσ] at e2;cases e2
    exact ⟨u,r,.inl ⟨hk,by simp⟩⟩
   ·rw [List.getElem?_set_ne (Ne.symm hj)] at e2;obtain ⟨u',r',q⟩:=hl j y v' e1 e2 e3;refine ⟨u',r',?_⟩;rcases q with ⟨k,e⟩ | ⟨k,c,e,z⟩
    ·refine .inl ⟨k,?_⟩;have:y≠x:=λ e=>hj (Vc hN e1 (e▸hi))
     simp [this,e]
    ·exact .inr ⟨k,c,e,z.sameBut hs (cne y c e)⟩
  ·obtain ⟨w',z⟩:=I.cell y c e;exact ⟨w',z.sameBut hs (cne y c e)⟩
  ·obtain ⟨e,n,ne,nf,d⟩:=I.pin p hp;exact ⟨(hs.2 p.1 ne).trans e,n,ne,nf,d⟩
 ·have hfn:X.fn x=true:=by
   rcases hf with z | z
   ·exact z
   ·rw [z] at hk;cases hk
  obtain ⟨c,hc⟩:=I.ok.has x (.inl hk);obtain ⟨w',z⟩:=I.cell x c hc;refine wpAny_storeName_cell I.ok.kind hk hc z (λ h' hc' hs=>?_)
  obtain ⟨oc,hoc,hocd⟩:=id z;refine h { s with heap:=h' } ⟨I.ok,I.os,I.bare,⟨λ b o e n hb hx=>?_,λ b o e n hb hx=>?_,I.base.free,λ b o e hx=>?_,I.base.tups,I.base.frzs,I.base.tbls⟩,⟨m,hn.sameBut hs (Ne.symm (cne x c hc)),λ j y v' e1 e2 e3=>?_⟩,λ y c' e=>?_,I.free,I.freeC,λ p hp=>?_,tracked ⟨oc,hoc,I.freeC x c hc⟩ hs,by simpa using I.len⟩ ⟨c,hs,.inr hc⟩
  ·exact (hs.2 b (Nat.ne_of_lt (Nat.lt_of_lt_of_le (Heap.lt_size e) (I.ok.cab x c hfn hc)))).trans (I.base.keep b o e n hb hx)
  ·obtain ⟨sl,e1⟩:=I.base.slot b o e n hb hx;exact ⟨sl,(hs.2 b (Nat.ne_of_lt (Nat.lt_of_lt_of_le (Heap.lt_size e) (I.ok.cab x c hfn hc)))).trans e1⟩
  ·obtain ⟨o',e1⟩:=I.base.there b o e hx;exact ⟨o',(hs.2 b (Nat.ne_of_lt (Nat.lt_of_lt_of_le (Heap.lt_size e) (I.ok.cab x c hfn hc)))).trans e1⟩
  ·by_cases hj:j=i
   ·subst hj;rw [hi] at e1;cases e1;rw [List.getElem?_set_self hiσ] at e2;cases e2
    exact ⟨u,r,.inr ⟨.inl hk,c,hc,hc'⟩⟩
   ·rw [List.getElem?_set_ne (Ne.symm hj)] at e2;obtain ⟨u',r',q⟩:=hl j y v' e1 e2 e3;refine ⟨u',r',?_⟩;rcases q with q | ⟨k,c',e,z'⟩
    ·exact .inl q
    ·refine .inr ⟨k,c',e,z'.sameBut hs ?_⟩;rintro rfl
     exact hj (Vc hN e1 (I.ok.inj _ _ _ e hc▸hi))
  ·by_cases hcc:c'=c
   ·subst hcc;exact ⟨_,hc'⟩
   ·obtain ⟨w2,z2⟩:=I.cell y c' e;exact ⟨w2,z2.sameBut hs hcc⟩
  ·obtain ⟨e,n,ne,nf,d⟩:=I.pin p hp;refine ⟨(hs.2 p.1 ?_).trans e,n,ne,nf,d⟩;intro q;rw [q,hoc] at e;have q':oc=p.2:=Option.some.inj e;exact d w' (by rw [<- q'];exact hocd)
theorem JL {M:Model}{A:Around}{E:Value->Shared->Prop}{i:Nat}{x:Str}{v:V}{u:Value}{Q:Unit->Shared->Prop}(I:Inv X pins σ H s)(hN:X.N.Nodup)(hi:X.N[i]?=some x)(hx:Loc X.env.scope x)(r:RelV v u)
  (h:∀s',Inv X pins (σ.set i (some v)) H s'->Q () s') (hf:X.fn x=true\/X.env.scope.names.lookup x=some .local:=by first | exact .inl rfl | exact .inr rfl | assumption):wpAny M A (storeName X.env x u) Q E s:=
 pA I hN hi hx r (λ s' I' _=>h s' I') hf
theorem Inv.call' {s':Shared}{ch:List Addr}(I:Inv X pins σ H s)(ho:s'.os=s.os)(u:Un (frs X.stack) ch H H' s.heap s'.heap)(hok:HOk X.prog X.w H' s'.heap)(hg:AllBare s'.gens)
  (hch:∀b∈ch,(b∈X.ex\/X.s₀.heap.objs.size<=b)/\b≠X.env.locals/\(∀x c,X.env.cells.lookup x=some c->c≠b)/\∀p∈X.pn++pins,p.1≠b):Inv X pins σ H' s':=by
 obtain ⟨h',g',d',t',o'⟩:=s';have e:o'=s.os:=ho;subst e;exact I.call (g':=g') (t':=t') (d':=d') u hok hg hch
end
abbrev XK:=Value->Option Addr->Hp->Prop
abbrev St:=List (Option V)
abbrev VK:=V->Hp->Prop
abbrev TE:=St->Hp->VK->Prop
abbrev TT:=St->Hp->(Bool->Hp->Prop)->Prop
abbrev TA:=St->Hp->(List V->Hp->Prop)->Prop
structure Ends where
 nx:St->Hp->Prop
 rt:VK
 bk:St->Hp->Prop:=λ _ _=>False
 ct:St->Hp->Prop:=λ _ _=>False
abbrev TS:=Ends->St->Hp->Prop
def EP (X:Cx)(pins:List (Addr×Obj))(σ:St)(Q:VK)(u:Value)(s':Shared):Prop:=∃v H',Inv X pins σ H' s'/\RelV v u/\Q v H'
def TP (X:Cx)(pins:List (Addr×Obj))(σ:St)(Q:Bool->Hp->Prop)(b:Bool)(s':Shared):Prop:=∃H',Inv X pins σ H' s'/\Q b H'
def AP (X:Cx)(pins:List (Addr×Obj))(σ:St)(Q:List V->Hp->Prop)(us:List Value)(s':Shared):Prop:=∃vs H',Inv X pins σ H' s'/\Vals vs us/\Q vs H'
def SP (X:Cx)(pins:List (Addr×Obj))(D:Ends)(f:Flow)(s':Shared):Prop:=
 match f with
 | .next=>∃σ' H',Inv X pins σ' H' s'/\D.nx σ' H'
 | .brk=>∃σ' H',Inv X pins σ' H' s'/\D.bk σ' H'
 | .cont=>∃σ' H',Inv X pins σ' H' s'/\D.ct σ' H'
 | .ret u=>∃v σ' H',Inv X pins σ' H' s'/\RelV v u/\D.rt v H'
def PE (X:Cx)(e:Expr)(t:TE):Prop:=
 ∀(pins:List (Addr×Obj)) (s:Shared) (σ:St) (H:Hp) (Q:VK),Inv X pins σ H s->t σ H Q->wpAny (model X.prog X.w) X.A (eval e X.env) (EP X pins σ Q) X.xe s
def PT (X:Cx)(e:Expr)(t:TT):Prop:=
 ∀(pins:List (Addr×Obj)) (s:Shared) (σ:St) (H:Hp) (Q:Bool->Hp->Prop),Inv X pins σ H s->t σ H Q->wpAny (model X.prog X.w) X.A (isTrue e X.env (eval e X.env)) (TP X pins σ Q) X.xe s
def PW (X:Cx)(e:Expr)(t:TT):Prop:=
 ∀(whole:Sem Value) (pins:List (Addr×Obj)) (s:Shared) (σ:St) (H:Hp) (Q:Bool->Hp->Prop),Inv X pins σ H s->t σ H Q->wpAny (model X.prog X.w) X.A (isTrue e X.env whole) (TP X pins σ Q) X.xe s
theorem PW.pt {X:Cx}{e:Expr}{t:TT}(h:PW X e t):PT X e t:=h _
def PA (X:Cx)(es:List Expr)(t:TA):Prop:=
 ∀(pos:Pos) (pins:List (Addr×Obj)) (s:Shared) (σ:St) (H:Hp) (Q:List V->Hp->Prop),Inv X pins σ H s->t σ H Q->wpAny (model X.prog X.w) X.A (spliced (backTo pos (starEach es X.env))) (AP X pins σ Q) X.xe s
def PS (X:Cx)(st:Stmt)(t:TS):Prop:=
 ∀(pins:List (Addr×Obj)) (s:Shared) (σ:St) (H:Hp) (D:Ends),Inv X pins σ H s->t D σ H->wpAny (model X.prog X.w) X.A (exec st X.env) (SP X pins D) X.xe s
def PSs (X:Cx)(st:List Stmt)(t:TS):Prop:=
 ∀(pins:List (Addr×Obj)) (s:Shared) (σ:St) (H:Hp) (D:Ends),Inv X pins σ H s->t D σ H->wpAny (model X.prog X.w) X.A (execs st X.env) (SP X pins D) X.xe s
theorem thn {α:Type}{t:Sem α}{Q Q':α->Shared->Prop}{M:Model}{A:Around}{E:Value->Shared->Prop}{s:Shared}(h:wpAny M A t Q E s)(hQ:∀a s,Q a s->Q' a s):wpAny M A t Q' E s:=wpAny_mono h hQ λ _ _ x=>x
section
variable {X:Cx}
def tVar (i:Nat):TE:=λ σ H Q=>∃v,σ[i]?=some (some v)/\Q v H
def tC (v:V):TE:=λ _ H Q=>Q v H
theorem lR {i:Nat}{x:Str}{pos:Pos}(hN:X.N[i]?=some x)(hv:Vis X.env.scope x)(hd:(x == ("__debug__":Str))=false:=by decide)(hcd:(x == ("__classdict__":Str))=false:=by decide):PE X (.Name x pos) (tVar i):=by
 intro pins s σ H Q I h;obtain ⟨v,e,h⟩:=h;obtain ⟨m,hn,hl⟩:=I.loc;obtain ⟨u,r,l⟩:=hl i x v hN e hv;have fin:EP X pins σ Q u s:=⟨v,H,I,r,h⟩;rcases l with ⟨hk,hm⟩ | ⟨hk,c,hc,hcell⟩
 ·exact wpAny_Name (wpAny_loadName_local I.ok.kind hk hn hm fin) hd
 ·rcases hk with hk | hk
  ·exact wpAny_Name (wpAny_loadName_cell I.ok.kind hk hc hcell fin) hd
  ·exact wpAny_Name (wpAny_loadName_free I.ok.kind hk hc hcell fin hcd) hd
theorem Ac {i j pos}:PE X (.Constant (.int i) j pos) (tC (.int i)):=λ _ _ _ H _ I h=>wpAny_Constant_int ⟨.int i,H,I.tok _,⟨_,rfl⟩,h⟩
theorem DN {b j pos}:PE X (.Constant (.bool b) j pos) (tC (.bl b)):=λ _ _ _ H _ I h=>Constant_bool ⟨.bl b,H,I,rfl,h⟩
theorem Ff {j pos}:PE X (.Constant .none j pos) (tC .non):=λ _ _ _ H _ I h=>Constant_none ⟨.non,H,I,rfl,h⟩
theorem Dk {x j pos}:PE X (.Constant (.str x) j pos) (tC (.str x)):=λ _ _ _ H _ I h=>Calls.Constant_str ⟨.str x,H,I.tok _,⟨_,rfl⟩,h⟩
def Gl (X:Cx)(x:Str):Prop:=X.env.kindOf x=some .globalImplicit
theorem Hw {E:Value->Shared->Prop}{pins:List (Addr×Obj)}{s:Shared}{σ:St}{H:Hp}{x:Str}{u:Value}{pos:Pos}{Q:Value->Shared->Prop}(I:Inv X pins σ H s)(hg:Gl X x)(hm:X.mg x=some u)(h:Q u s)
  (hd:(x == ("__debug__":Str))=false:=by decide):wpAny (model X.prog X.w) X.A (eval (.Name x pos) X.env) Q E s:=
 Calls.Name_function_global I.ok.kind hg (Calls.loadGlobal_global (by rw [I.ok.glob];exact I.mod.glob.keeps I.bk) hm h) hd
theorem Ji {E:Value->Shared->Prop}{pins:List (Addr×Obj)}{s:Shared}{σ:St}{H:Hp}{x:Str}{u:Value}{pos:Pos}{Q:Value->Shared->Prop}(I:Inv X pins σ H s)(hg:Gl X x)(hm:X.mg x=none)(hv:bootBuiltins x=some u)(h:Q u s)
  (hn:x≠"__name__":=by decide) (hd:(x == ("__debug__":Str))=false:=by decide):wpAny (model X.prog X.w) X.A (eval (.Name x pos) X.env) Q E s:=by
 obtain ⟨mb,h1,h2⟩:=I.mod.blt;exact Calls.Name_function_global I.ok.kind hg (Calls.loadGlobal_builtin (by rw [I.ok.glob];exact I.mod.glob.keeps I.bk) hm (by rw [I.ok.blt];exact h1.keeps I.bk) ((h2 x hn).trans hv) h) hd
theorem CJ {x:Str}{v:V}{u:Value}{pos:Pos}(hg:Gl X x)(hm:X.mg x=some u)(r:RelV v u)(hd:(x == ("__debug__":Str))=false:=by decide):PE X (.Name x pos) (tC v):=
 λ _ _ _ H _ I h=>Hw I hg hm ⟨v,H,I,r,h⟩ hd
theorem GD {x:Str}{v:V}{u:Value}{pos:Pos}(hg:Gl X x)(hm:X.mg x=none)(hv:bootBuiltins x=some u)(r:RelV v u)(hn:x≠"__name__":=by decide)(hd:(x == ("__debug__":Str))=false:=by decide):PE X (.Name x pos) (tC v):=
 λ _ _ _ H _ I h=>Ji I hg hm hv ⟨v,H,I,r,h⟩ hn hd
variable {a b:Expr}{ta tb:TE}{pos:Pos}
def tB (t:TE):TT:=λ σ H Q=>t σ H λ x H1=>∃c,x=.bl c/\Q c H1
theorem By {e:Expr}{t:TE}(h:PE X e t)(he:∀whole,isTrue e X.env whole=(do let v <- whole;standAt e.pos;holding [v] (truthy v)):=by intro _;rfl):PT X e (tB t):=by
 intro pins s σ H Q I hw;refine isTrue_plain (thn (h pins s σ H _ I hw) λ v s1 ⟨x,H1,I1,r1,q1⟩=>?_) (he _)
 obtain ⟨d,rfl,q⟩:=q1;cases r1
 exact wpAny_truthy_bool ⟨H1,I1,q⟩
variable {tA tB':TT}{rest:List Expr}
def tAnd (t u:TT):TT:=λ σ H Q=>t σ H λ c H1=>if c=true then u σ H1 Q else Q false H1
def tOr (t u:TT):TT:=λ σ H Q=>t σ H λ c H1=>if c=true then Q true H1 else u σ H1 Q
def tNot (t:TT):TT:=λ σ H Q=>t σ H λ c H1=>Q (!c) H1
theorem pw_and1 (ha:PT X a tA):PW X (.BoolOp .And [a] pos) tA:=by
 intro wh pins s σ H Q I h;refine isTrue_and (thn (ha pins s σ H Q I h) λ c s1 e=>?_)
 cases c with
 | true=>exact isTrue_and_nil e
 | false=>exact e
theorem pw_or1 (ha:PT X a tA):PW X (.BoolOp .Or [a] pos) tA:=by
 intro wh pins s σ H Q I h;refine isTrue_or (thn (ha pins s σ H Q I h) λ c s1 e=>?_)
 cases c with
 | false=>exact isTrue_or_nil e
 | true=>exact e
theorem pw_and (ha:PT X a tA)(hb:PW X (.BoolOp .And (b::rest) pos) tB'):PW X (.BoolOp .And (a::b::rest) pos) (tAnd tA tB'):=by
 intro wh pins s σ H Q I h;refine isTrue_and (thn (ha pins s σ H _ I h) λ c s1 ⟨H1,I1,q1⟩=>?_)
 cases c with
 | true=>exact hb wh pins s1 σ H1 Q I1 q1
 | false=>exact ⟨H1,I1,q1⟩
theorem pw_or (ha:PT X a tA)(hb:PW X (.BoolOp .Or (b::rest) pos) tB'):PW X (.BoolOp .Or (a::b::rest) pos) (tOr tA tB'):=by
 intro wh pins s σ H Q I h;refine isTrue_or (thn (ha pins s σ H _ I h) λ c s1 ⟨H1,I1,q1⟩=>?_)
 cases c with
 | true=>exact ⟨H1,I1,q1⟩
 | false=>exact hb wh pins s1 σ H1 Q I1 q1
theorem Cd (ha:PT X a tA):PT X (.UnaryOp .Not a pos) (tNot tA):=by
 intro pins s σ H Q I h;exact isTrue_not (ha pins s σ H (λ c H1=>Q (!c) H1) I h)
def tAndV (ta tb:TE):TE:=λ σ H Q=>ta σ H λ x H1=>∃c,x=.bl c/\if c=true then tb σ H1 Q else Q (.bl false) H1
def tNotV (ta:TE):TE:=λ σ H Q=>ta σ H λ x H1=>∃c,x=.bl c/\Q (.bl (!c)) H1
theorem Em {op}{t:TE}(h:PE X a t):PE X (.BoolOp op [a] pos) t:=λ pins s σ H Q I hw=>BoolOp_one (h pins s σ H Q I hw)
theorem Ed (ha:PE X a ta)(hb:PE X (.BoolOp .And (b::rest) pos) tb):PE X (.BoolOp .And (a::b::rest) pos) (tAndV ta tb):=by
 intro pins s σ H Q I h;refine BoolOp_and (thn (ha pins s σ H _ I h) λ v s1 ⟨x,H1,I1,r1,q1⟩=>?_)
 obtain ⟨c,rfl,q1⟩:=q1;cases r1
 refine wpAny_truthy_bool ?_;cases c with
 | true=>exact hb pins s1 σ H1 Q I1 q1
 | false=>exact ⟨.bl false,H1,I1,rfl,q1⟩
theorem GQ (ha:PE X a ta):PE X (.UnaryOp .Not a pos) (tNotV ta):=by
 intro pins s σ H Q I h;refine UnaryOp_ (thn (ha pins s σ H _ I h) λ v s1 ⟨x,H1,I1,r1,q1⟩=>?_)
 obtain ⟨c,rfl,q1⟩:=q1;cases r1
 exact not_of (wpAny_truthy_bool ⟨.bl (!c),H1,I1,rfl,q1⟩)
def tIf (t:TT)(ta tb:TE):TE:=λ σ H Q=>t σ H λ c H1=>if c=true then ta σ H1 Q else tb σ H1 Q
theorem Ip {c:Expr}(hc:PT X c tA)(ha:PE X a ta)(hb:PE X b tb):PE X (.IfExp c a b pos) (tIf tA ta tb):=by
 intro pins s σ H Q I h;refine wpAny_IfExp (thn (hc pins s σ H _ I h) λ d s1 ⟨H1,I1,q1⟩=>?_)
 cases d with
 | true=>exact ha pins s1 σ H1 Q I1 q1
 | false=>exact hb pins s1 σ H1 Q I1 q1
end
def SqL (K:FrG)(H:Hp)(a:Addr)(xs:List V):Prop:=
 Rd H a (.lst xs)\/
  ∃(o:Obj) (its:Array Value) (n:Nat),K.lookup a=some o/\o.cls=.type "list"/\o.dict=none/\o.data=.seq its n/\its.size<=sizeLine/\Vals xs its.toList
def SqT (K:FrG)(H:Hp)(a:Addr)(xs:List V):Prop:=
 Rd H a (.tup xs)\/
  ∃(o:Obj) (its:Array Value) (n:Nat),K.lookup a=some o/\o.cls=.type "tuple"/\o.data=.seq its n/\its.size<=sizeLine/\Vals xs its.toList
def absV:Value->Option V
 | .none=>some .non
 | .bool b=>some (.bl b)
 | .int i _=>some (.int i)
 | .str x _=>some (.str x)
 | .bytes b _=>some (.byt b)
 | .float b _=>some (.flt b)
 | .ref a=>some (.ref a)
 | .type n=>some (.ty n)
 | _=>none
theorem RelV.abs {x:V}{u:Value}(r:RelV x u):absV u=some x:=by
 cases x with
 | non=>cases r;rfl
 | bl _=>cases r;rfl
 | int _=>obtain ⟨t,rfl⟩:=r;rfl
 | str _=>obtain ⟨t,rfl⟩:=r;rfl
 | byt _=>obtain ⟨t,rfl⟩:=r;rfl
 | flt _=>obtain ⟨t,rfl⟩:=r;rfl
 | ref _=>cases r;rfl
 | ty _=>cases r;rfl
theorem RelV.inj {x y:V}{u:Value}(r:RelV x u)(q:RelV y u):x=y:=Option.some.inj (r.abs.symm.trans q.abs)
theorem Vals.inj:∀{xs ys:List V} {us:List Value},Vals xs us->Vals ys us->xs=ys
 | _,_,_,.nil,.nil=>rfl
 | _,_,_,.cons r t,.cons r' t'=>by rw [r.inj r',Vals.inj t t']
section
variable {X:Cx}{pins:List (Addr×Obj)}{σ:St}{H:Hp}{s:Shared}{a:Addr}{xs ys:List V}
theorem SqL.of {K:FrG}(h:H a=some (.lst xs)):SqL K H a xs:=.inl (.inl h)
theorem SqT.of {K:FrG}(h:H a=some (.tup xs)):SqT K H a xs:=.inl (.inl h)
theorem Inv.list (I:Inv X pins σ H s)(h:SqL X.K H a xs):∃its:List Value,Vals xs its/\PlainL s.heap a its.toArray/\xs.length<=sizeLine:=by
 rcases h with h | ⟨o,its,n,hk,hc,hd,hs,hz,r⟩
 ·obtain ⟨z,its,n,r,e⟩:=h.ok I.hok;exact ⟨its,r,⟨_,n,e,rfl,rfl,rfl⟩,z⟩
 ·refine ⟨its.toList,r,⟨o,n,I.kIn a o hk,hc,hd,by simpa using hs⟩,?_⟩
  have e:=r.length;simp only [Array.length_toList] at e;omega
theorem Inv.tuple (I:Inv X pins σ H s)(h:SqT X.K H a xs):∃its:List Value,Vals xs its/\IsTup s.heap a its.toArray/\xs.length<=sizeLine:=by
 rcases h with h | ⟨o,its,n,hk,hc,hs,hz,r⟩
 ·obtain ⟨z,its,r,p⟩:=h.ok I.hok;exact ⟨its,r,p,z⟩
 ·refine ⟨its.toList,r,⟨o,I.kIn a o hk,hc,n,by simpa using hs⟩,?_⟩
  have e:=r.length;simp only [Array.length_toList] at e;omega
theorem Inv.list_inj (I:Inv X pins σ H s)(h:SqL X.K H a xs)(h':SqL X.K H a ys):xs=ys:=by
 obtain ⟨its,r,⟨o,n,e,_,_,d⟩,_⟩:=I.list h;obtain ⟨its',r',⟨o',n',e',_,_,d'⟩,_⟩:=I.list h';rw [e] at e';cases e';rw [d] at d'
 injection d' with d1 _
 have:its=its':=by simpa using congrArg Array.toList d1
 subst this;exact r.inj r'
theorem Inv.tuple_inj (I:Inv X pins σ H s)(h:SqT X.K H a xs)(h':SqT X.K H a ys):xs=ys:=by
 obtain ⟨its,r,⟨o,e,_,n,d⟩,_⟩:=I.tuple h;obtain ⟨its',r',⟨o',e',_,n',d'⟩,_⟩:=I.tuple h';rw [e] at e';cases e';rw [d] at d'
 injection d' with d1 _
 have:its=its':=by simpa using congrArg Array.toList d1
 subst this;exact r.inj r'
end
abbrev Cx.wish (X:Cx)(E:Value->Shared->Prop):Cx:={ X with xe:=E }
abbrev Cx.nox (X:Cx):Cx:=X.wish λ _ _=>False
theorem Cx.Ok.wish {X:Cx}(ok:X.Ok)(E:Value->Shared->Prop):(X.wish E).Ok:=
 ⟨ok.mod,ok.kind,ok.glob,ok.blt,ok.above,ok.inj,ok.has,ok.cab,ok.hd,ok.frames,ok.stk,ok.exf,ok.bs,ok.bsz,ok.noex,ok.exfs,ok.funs,ok.frf⟩
theorem Cx.Ok.unwish {X:Cx}{E:Value->Shared->Prop}(ok:(X.wish E).Ok):X.Ok:=
 ⟨ok.mod,ok.kind,ok.glob,ok.blt,ok.above,ok.inj,ok.has,ok.cab,ok.hd,ok.frames,ok.stk,ok.exf,ok.bs,ok.bsz,ok.noex,ok.exfs,ok.funs,ok.frf⟩
section
variable {X:Cx}{pins:List (Addr×Obj)}{σ:St}{H:Hp}{s:Shared}{E:Value->Shared->Prop}
theorem Inv.wish (I:Inv X pins σ H s)(E:Value->Shared->Prop):Inv (X.wish E) pins σ H s:=⟨I.ok.wish E,I.os,I.bare,I.base,I.loc,I.cell,I.free,I.freeC,I.pin,I.hok,I.len⟩
theorem Inv.unwish (I:Inv (X.wish E) pins σ H s):Inv X pins σ H s:=⟨I.ok.unwish,I.os,I.bare,I.base,I.loc,I.cell,I.free,I.freeC,I.pin,I.hok,I.len⟩
theorem SP.unwish {D:Ends}{f:Flow}{s':Shared}(h:SP (X.wish E) pins D f s'):SP X pins D f s':=by
 cases f with
 | next=>obtain ⟨σ',H',I,q⟩:=h;exact ⟨σ',H',I.unwish,q⟩
 | brk=>obtain ⟨σ',H',I,q⟩:=h;exact ⟨σ',H',I.unwish,q⟩
 | cont=>obtain ⟨σ',H',I,q⟩:=h;exact ⟨σ',H',I.unwish,q⟩
 | ret u=>obtain ⟨v,σ',H',I,r,q⟩:=h;exact ⟨v,σ',H',I.unwish,r,q⟩
theorem PSs.nox {st:List Stmt}{t:TS}(h:PSs X.nox st t):PSs X st t:=λ pins s σ H D I hw=>
 wpAny_mono (h pins s σ H D (I.wish _) hw) (λ _ _ q=>q.unwish) λ _ _ z=>False.elim z
end
section
variable {X:Cx}{st:Stmt}{rest:List Stmt}{t u:TS}{e:Expr}{te:TE}{pos:Pos}
def tNext:TS:=λ D σ H=>D.nx σ H
def tSeq (t u:TS):TS:=λ D σ H=>t { D with nx:=u D } σ H
theorem Bj:PSs X [] tNext:=λ _ _ σ H _ I h=>wpAny_execs_nil ⟨σ,H,I,h⟩
theorem Al (h1:PS X st t)(h2:PSs X rest u):PSs X (st::rest) (tSeq t u):=by
 intro pins s σ H D I h;refine wpAny_execs_cons (thn (h1 pins s σ H { D with nx:=u D } I h) λ f s1 q=>?_)
 cases f with
 | next=>
  obtain ⟨σ',H',I',q⟩:=q;exact h2 pins s1 σ' H' D I' q
 | ret v=>exact q
 | brk=>exact q
 | cont=>exact q
theorem Ao (h1:PS X st t):PSs X [st] t:=by
 intro pins s σ H D I h;refine wpAny_execs_cons (thn (h1 pins s σ H D I h) λ f s1 q=>?_)
 cases f with
 | next=>exact wpAny_execs_nil q
 | ret v=>exact q
 | brk=>exact q
 | cont=>exact q
theorem Inv.quiet {pins:List (Addr×Obj)}{σ:St}{H:Hp}{s:Shared}(I:Inv X pins σ H s):interactive X.env=false:=by simp [interactive,I.ok.kind]
def tDrop (te:TE):TS:=λ D σ H=>te σ H λ _ H1=>D.nx σ H1
theorem DR (he:PE X e te)(hs:swapsWith e none pos.line X.env=pure false:=by rfl):PS X (.Expr e pos) (tDrop te):=by
 intro pins s σ H D I h;exact wpAny_Expr_any (thn (he pins s σ H _ I h) λ v s1 ⟨x,H1,I1,r1,q1⟩=>⟨σ,H1,I1,q1⟩) I.quiet hs
def tRet (te:TE):TS:=λ D σ H=>te σ H D.rt
theorem Az (he:PE X e te):PS X (.Return (some e) pos) (tRet te):=by
 intro pins s σ H D I h;exact wpAny_Return_some (thn (he pins s σ H _ I h) λ v s1 ⟨x,H1,I1,r1,q1⟩=>⟨x,σ,H1,I1,r1,q1⟩)
def tIfS (c:TT)(t u:TS):TS:=λ D σ H=>c σ H λ b H1=>if b=true then t D σ H1 else u D σ H1
theorem Be {c:Expr}{a b:List Stmt}{tc:TT}(hc:PT X c tc)(ha:PSs X a t)(hb:PSs X b u):PS X (.If c a b pos) (tIfS tc t u):=by
 intro pins s σ H D I h;refine wpAny_If (thn (hc pins s σ H _ I h) λ d s1 ⟨H1,I1,q1⟩=>?_)
 cases d with
 | true=>exact ha pins s1 σ H1 D I1 q1
 | false=>exact hb pins s1 σ H1 D I1 q1
def tNever:TS:=λ _ _ _=>False
theorem Es:PS X st tNever:=λ _ _ _ _ _ _ h=>h.elim
theorem Om {sts:List Stmt}:PSs X sts tNever:=λ _ _ _ _ _ _ h=>h.elim
end
abbrev TG:=V->St->Hp->(St->Hp->Prop)->Prop
abbrev TGs:=List V->St->Hp->(St->Hp->Prop)->Prop
def PG (X:Cx)(target:Expr)(t:TG):Prop:=
 ∀(pins:List (Addr×Obj)) (s:Shared) (σ:St) (H:Hp) (v:V) (u:Value) (Q:St->Hp->Prop),Inv X pins σ H s->RelV v u->t v σ H Q->
  wpAny (model X.prog X.w) X.A (assign target X.env u) (λ _ s'=>∃σ' H',Inv X pins σ' H' s'/\Q σ' H') X.xe s
def PGs (X:Cx)(ts:List Expr)(t:TGs):Prop:=
 ∀(pins:List (Addr×Obj)) (s:Shared) (σ:St) (H:Hp) (vs:List V) (us:List Value) (Q:St->Hp->Prop),Inv X pins σ H s->Vals vs us->t vs σ H Q->
  wpAny (model X.prog X.w) X.A (assignInOrder ((assignEach ts X.env).map (·.2)) us) (λ _ s'=>∃σ' H',Inv X pins σ' H' s'/\Q σ' H') X.xe s
abbrev TSet:=V->V->V->Hp->(Hp->Prop)->Prop
def PSet (X:Cx)(t:TSet):Prop:=
 ∀(pins:List (Addr×Obj)) (s:Shared) (σ:St) (H:Hp) (o i v:V) (ov iv u:Value) (Q:Hp->Prop),Inv X pins σ H s->RelV o ov->RelV i iv->RelV v u->t o i v H Q->
  wpAny (model X.prog X.w) X.A (setItem ov iv u) (λ _ s'=>∃H',Inv X pins σ H' s'/\Q H') X.xe s
abbrev TIp:=V->V->Hp->VK->Prop
def PIp (X:Cx)(op:Operator)(t:TIp):Prop:=
 ∀(pins:List (Addr×Obj)) (s:Shared) (σ:St) (H:Hp) (x y:V) (v u:Value) (Q:VK),Inv X pins σ H s->RelV x v->RelV y u->t x y H Q->
  wpAny (model X.prog X.w) X.A (inplaceOp op v u) (EP X pins σ Q) X.xe s
section
variable {X:Cx}{pos:Pos}
def gName (i:Nat):TG:=λ v σ H Q=>Q (σ.set i (some v)) H
theorem Bq {i:Nat}{x:Str}(hN:X.N.Nodup)(hi:X.N[i]?=some x)(hx:Loc X.env.scope x)(hf:X.fn x=true\/X.env.scope.names.lookup x=some .local:=by first | exact .inl rfl | exact .inr rfl | assumption):PG X (.Name x pos) (gName i):=by
 intro pins s σ H v u Q I r h;exact wpAny_assign_Name (JL I hN hi hx r (λ s' I'=>⟨_,H,I',h⟩) hf)
def gNil:TGs:=λ vs σ H Q=>vs=[]/\Q σ H
def gCons (t:TG)(u:TGs):TGs:=λ vs σ H Q=>∃v r,vs=v::r/\t v σ H λ σ' H'=>u r σ' H' Q
theorem Eu:PGs X [] gNil:=by
 intro pins s σ H vs us Q I r h;obtain ⟨e,h⟩:=h;subst e;cases r
 exact assignInOrder_nil ⟨σ,H,I,h⟩
theorem Ci {e:Expr}{es:List Expr}{t:TG}{u:TGs}(h1:PG X e t)(h2:PGs X es u)
  (hs:(assignEach (e::es) X.env).map (·.2)=assign e X.env::(assignEach es X.env).map (·.2):=by rfl):PGs X (e::es) (gCons t u):=by
 intro pins s σ H vs us Q I r h;obtain ⟨v,vr,e1,h⟩:=h;subst e1;cases r with
 | cons r rr=>
  rw [hs];refine assignInOrder_cons (thn (h1 pins s σ H _ _ _ I r h) λ _ s1 ⟨σ1,H1,I1,q1⟩=>?_)
  exact h2 pins s1 σ1 H1 _ _ Q I1 rr q1
def gTup (K:FrG)(n:Nat)(t:TGs):TG:=λ v σ H Q=>∃a xs,v=.ref a/\SqT K H a xs/\xs.length=n/\t xs σ H Q
theorem HY {es:List Expr}{k:Nat}{t:TGs}{n:Nat}(hc:X.calm=true)(h:PGs X es t)
  (hn:(assignEach es X.env).length=n:=by rfl) (hst:(assignEach es X.env).findIdx? (·.1)=none:=by rfl):PG X (.Tuple es k pos) (gTup X.K n t):=by
 intro pins s σ H v u Q I r hw;obtain ⟨a,xs,e1,hq,hl,hw⟩:=hw;subst e1;cases r
 obtain ⟨its,rv,ht,hz⟩:=I.tuple hq;refine assign_Tuple_tuple (I.ok.hd hc) ht (by simp [hn,<- hl,rv.length]) hst λ h' hx=>?_
 have I1:Inv X pins σ H { s with heap:=h' }:=I.kept (t':=s.toks) λ b o e=>hx b o (Nat.ne_of_lt (Heap.lt_size e)) e
 exact h pins _ σ H xs _ Q I1 (by simpa using rv) hw
def gSub (to ti:TE)(t:TSet):TG:=λ v σ H Q=>to σ H λ o H1=>ti σ H1 λ i H2=>t o i v H2 λ H3=>Q σ H3
theorem aH {o i:Expr}{to ti:TE}{t:TSet}(ho:PE X o to)(hi:PE X i ti)(hs:PSet X t)
  (ha:∀v,assign (.Subscript o i pos) X.env v=(do
   let ov <- holding [v] (eval o X.env)
   let iv <- holding [v,ov] (eval i X.env)
   standAt pos
   holding [v,ov,iv] (setItem ov iv v)
   release [v,ov,iv] []):=by intro _;rfl):PG X (.Subscript o i pos) (gSub to ti t):=by
 intro pins s σ H v u Q I r h;rw [ha];refine wpAny_bind (wpAny_holding (thn (ho pins s σ H _ I h) λ ov s1 ⟨x,H1,I1,r1,q1⟩=>?_))
 refine wpAny_bind (wpAny_holding (thn (hi pins s1 σ H1 _ I1 q1) λ iv s2 ⟨y,H2,I2,r2,q2⟩=>?_))
 refine wpAny_bind (wpAny_standAt (wpAny_bind (wpAny_holding (thn (hs pins s2 σ H2 x y v ov iv u _ I2 r1 r2 r q2) λ _ s3 ⟨H3,I3,q3⟩=>?_))))
 exact wpAny_release ⟨σ,H3,I3,q3⟩
def tAsg (te:TE)(g:TG):TS:=λ D σ H=>te σ H λ x H1=>g x σ H1 D.nx
theorem N5 {tg e:Expr}{te:TE}{g:TG}(he:PE X e te)(hg:PG X tg g)(hs:swapsWithSole [tg] e pos.line X.env=pure false:=by rfl)(hw:swappedStores [tg] e X.env=pure none:=by rfl)
  (h1:(assignEach [tg] X.env).map (·.2)=[assign tg X.env]:=by rfl):PS X (.Assign [tg] e pos) (tAsg te g):=by
 intro pins s σ H D I h;refine wpAny_Assign_stores (thn (he pins s σ H _ I h) λ v s1 ⟨x,H1,I1,r1,q1⟩=>?_) hs hw
 rw [h1];exact thn (hg pins s1 σ H1 x v _ I1 r1 q1) λ _ s2 q=>q
theorem Aw {i:Nat}{x:Str}{e:Expr}{te:TE}{pos':Pos}(hN:X.N.Nodup)(hi:X.N[i]?=some x)(hx:Loc X.env.scope x)(he:PE X e te)(hs:swapsWith e (some (.Name x pos')) pos.line X.env=pure false:=by rfl)(hf:X.fn x=true\/X.env.scope.names.lookup x=some .local:=by first | exact .inl rfl | exact .inr rfl | assumption):
  PS X (.Assign [.Name x pos'] e pos) (tAsg te (gName i)):=by
 intro pins s σ H D I h;refine wpAny_Assign_Name (thn (he pins s σ H _ I h) λ v s1 ⟨y,H1,I1,r1,q1⟩=>?_) hs
 exact JL I1 hN hi hx r1 (λ s2 I2=>⟨_,H1,I2,q1⟩) hf
def tPar (i j:Nat)(ta:TA):TS:=λ D σ H=>ta σ H λ vs H1=>∃v w,vs=[v,w]/\D.nx ((σ.set i (some v)).set j (some w)) H1
theorem Yp {i j:Nat}{x y:Str}{a b:Expr}{ta:TA}{px py pt:Pos}{kt k2 pt2}(hc:X.calm=true)(hN:X.N.Nodup)(hi:X.N[i]?=some x)(hj:X.N[j]?=some y)(hij:i≠j)
  (hx:X.env.scope.names.lookup x=some .local) (hy:X.env.scope.names.lookup y=some .local) (ha:PA X [a,b] ta)
  (hw:swappedStores [.Tuple [.Name x px,.Name y py] kt pt] (.Tuple [a,b] k2 pt2) X.env=pure (some [x,y]))
  (hs:swapsWithSole [.Tuple [.Name x px,.Name y py] kt pt] (.Tuple [a,b] k2 pt2) pos.line X.env=pure false:=by rfl):
  PS X (.Assign [.Tuple [.Name x px,.Name y py] kt pt] (.Tuple [a,b] k2 pt2) pos) (tPar i j ta):=by
 intro pins s σ H D I h;rw [exec_Assign_arm];refine wpAny_bind (wpAny_standAt ?_);rw [hs];refine wpAny_bind (wpAny_pure ?_);rw [if_neg (by decide)]
 refine wpAny_bind (Tuple_ (thn (ha _ pins s σ H _ I h) λ us s1 ⟨vs,H1,I1,r1,q1⟩=>?_))
 obtain ⟨v,w,e1,q1⟩:=q1;subst e1;obtain ⟨u1,u2,rfl,rv,rw'⟩:∃u1 u2,us=[u1,u2]/\RelV v u1/\RelV w u2:=by
  cases r1 with
  | cons p q=>
   cases q with
   | cons p' q'=>
    cases q'
    exact ⟨_,_,rfl,p,p'⟩
 refine wpAny_newObj_type ?_ (by show 2<=sizeLine;decide)
 have I2:Inv X pins σ H1 { s1 with heap:=s1.heap.push { cls:=.type "tuple",data:=.seq [u1,u2].toArray } }:=I1.kept (t':=s1.toks) λ b o e=>Heap.get?_push_of_some _ e
 rw [hw];refine wpAny_bind (wpAny_pure ?_);show wpAny (model X.prog X.w) X.A (do rule "assign.swapped-stores";let items <- unpackItems (.ref s1.heap.objs.size) 2 none;assignInOrder [λ v=>bindName X.env y v,λ v=>bindName X.env x v] items.reverse;pure Flow.next) _ _ _
 refine wpAny_bind (wpAny_rule (wpAny_bind (unpackItems_tuple (items:=#[u1,u2]) (I.ok.hd hc) (IsTup.new s1.heap _) λ h' hx'=>?_)))
 have I3:=I2.kept (h':=h') (t':=s1.toks) λ b o e=>hx' b o (Nat.ne_of_lt (Heap.lt_size e)) e
 show wpAny _ _ (assignInOrder [λ v=>bindName X.env y v,λ v=>bindName X.env x v] [u2,u1] >>= λ _=>pure Flow.next) _ _ _
 refine wpAny_bind (assignInOrder_cons (wpAny_bindName (JL I3 hN hj (.inl hy) rw' (λ s2 I4=>?_) (.inr hy))))
 refine assignInOrder_cons (wpAny_bindName (JL I4 hN hi (.inl hx) rv (λ s3 I5=>assignInOrder_nil (wpAny_pure ?_)) (.inr hx)))
 rw [List.set_comm _ _ (Ne.symm hij)] at I5;exact ⟨_,H1,I5,q1⟩
def tAug (i:Nat)(te:TE)(ti:TIp):TS:=λ D σ H=>∃x,σ[i]?=some (some x)/\te σ H λ y H1=>ti x y H1 λ z H2=>D.nx (σ.set i (some z)) H2
theorem jD {i:Nat}{x:Str}{e:Expr}{te:TE}{op:Operator}{ti:TIp}{pos':Pos}(hN:X.N.Nodup)(hi:X.N[i]?=some x)(hx:Loc X.env.scope x)(he:PE X e te)(ho:PIp X op ti)(hf:X.fn x=true\/X.env.scope.names.lookup x=some .local:=by first | exact .inl rfl | exact .inr rfl | assumption):
  PS X (.AugAssign (.Name x pos') op e pos) (tAug i te ti):=by
 intro pins s σ H D I h;obtain ⟨v,e1,h⟩:=h;obtain ⟨m,hn,hl⟩:=I.loc;have vis:Vis X.env.scope x:=by rcases hx with k | k;exact .inl k;exact .inr (.inl k)
 obtain ⟨u,r,l⟩:=hl i x v hi e1 vis;refine wpAny_AugAssign_Name ?_;have go:wpAny (model X.prog X.w) X.A (eval e X.env) (λ w s₂=>wpAny (model X.prog X.w) X.A (inplaceOp op u w) (λ r s₃=>wpAny (model X.prog X.w) X.A (storeName X.env x r) (λ _=>SP X pins D .next) X.xe s₃) X.xe s₂) X.xe s:=by
  refine thn (he pins s σ H _ I h) λ w s1 ⟨y,H1,I1,r1,q1⟩=>?_
  refine thn (ho pins s1 σ H1 v y u w _ I1 r r1 q1) λ z s2 ⟨zv,H2,I2,r2,q2⟩=>?_
  exact JL I2 hN hi hx r2 (λ s3 I3=>⟨_,H2,I3,q2⟩) hf
 rcases l with ⟨hk,hm⟩ | ⟨hk,c,hc,hcell⟩
 ·exact wpAny_loadName_local I.ok.kind hk hn hm go
 ·rcases hk with hk | hk
  ·exact wpAny_loadName_cell I.ok.kind hk hc hcell go
  ·rcases hx with k | k
   ·have:X.env.scope.names.lookup x=some .free:=hk;rw [k] at this;cases this
   ·have:X.env.scope.names.lookup x=some .free:=hk;rw [k] at this;cases this
def ipI (f:Int->Int->Int):TIp:=λ x y H Q=>∃i j,x=.int i/\y=.int j/\Q (.int (f i j)) H
theorem wN:PIp X .Add (ipI λ i j=>i+j):=by
 intro pins s σ H x y v u Q I r1 r2 h;obtain ⟨i,j,e1,e2,q⟩:=h;subst e1;subst e2;obtain ⟨t,rfl⟩:=r1;obtain ⟨t',rfl⟩:=r2;exact iadd_int ⟨.int _,H,I.tok _,⟨_,rfl⟩,q⟩
end
section
variable {X:Cx}{pos:Pos}
def tWhile (c:TT)(tb:TS):TS:=λ D σ H=>∃W:Nat->St->Hp->Prop,(∃m,W m σ H)/\∀m σ H,W m σ H->
 c σ H λ b H1=>if b=true then ∃N:St->Hp->Prop,(∀σ' H',N σ' H'->∃m',m' < m/\W m' σ' H')/\tb { D with nx:=N,ct:=N,bk:=D.nx } σ H1 else D.nx σ H1
theorem Wl {c:Expr}{body:List Stmt}{tc:TT}{tb:TS}(hp:PassesOwn (model X.prog X.w) X.A X.env X.xe)(hc:PT X c tc)(hb:PSs X body tb):PS X (.While c body [] pos) (tWhile tc tb):=by
 intro pins s σ H D I h;obtain ⟨W,⟨m0,w0⟩,turn⟩:=h;refine wpAny_While (codeAny_whileLoop (λ n s'=>∃σ' H',Inv X pins σ' H' s'/\W n σ' H') ?_ m0 ⟨σ,H,I,w0⟩)
 rintro n s1 ⟨σ1,H1,I1,w1⟩
 refine wpAny_passesOwn hp (thn (hc pins s1 σ1 H1 _ I1 (turn n σ1 H1 w1)) λ b s2 ⟨H2,I2,q2⟩=>?_)
 cases b with
 | true=>
  obtain ⟨N,hN,q2⟩:=q2;rw [if_pos rfl];refine wpAny_passesOwn hp (thn (hb pins s2 σ1 H2 _ I2 q2) λ f s3 q3=>?_)
  cases f with
  | next=>
   obtain ⟨σ3,H3,I3,n3⟩:=q3;obtain ⟨m',hm,w3⟩:=hN σ3 H3 n3;exact ⟨m',hm,σ3,H3,I3,w3⟩
  | cont=>
   obtain ⟨σ3,H3,I3,n3⟩:=q3;obtain ⟨m',hm,w3⟩:=hN σ3 H3 n3;exact ⟨m',hm,σ3,H3,I3,w3⟩
  | brk=>exact q3
  | ret v=>exact q3
 | false=>
  rw [if_neg Bool.false_ne_true];exact wpAny_execs_nil ⟨σ1,H2,I2,q2⟩
end
structure It where
 go:Nat->Hp->Prop
 yld:Nat->Hp->V->Hp->Prop
 stop:Nat->Hp->Prop
def FpOk (X:Cx)(pins:List (Addr×Obj))(H:Hp)(b:Addr):Prop:=
 H b=none/\b≠X.env.locals/\b∉X.fs/\(b∈X.ex\/X.s₀.heap.objs.size<=b)/\(∀x c,X.env.cells.lookup x=some c->c≠b)/\∀p∈X.pn++pins,p.1≠b
theorem Inv.fpOk {X:Cx}{pins:List (Addr×Obj)}{σ:St}{H H':Hp}{s:Shared}{b:Addr}(I:Inv X pins σ H s)(hb:s.heap.objs.size<=b)(hn:H' b=none):FpOk X pins H' b:=by
 refine ⟨hn,Nat.ne_of_gt (Nat.lt_of_lt_of_le I.lt hb),I.nofs hb,.inr (Nat.le_trans I.sz hb),λ x c e z=>?_,λ p hp z=>?_⟩
 ·obtain ⟨v,q⟩:=I.cell x c e;exact absurd (Nat.lt_of_lt_of_le q.lt (by rw [z];exact hb)) (Nat.lt_irrefl _)
 ·exact absurd (Nat.lt_of_lt_of_le (Heap.lt_size (I.pin p hp).1) (by rw [z];exact hb)) (Nat.lt_irrefl _)
structure Turn (P:Program)(w:World)(K:FrG)(tg:Expr)(J:It)(fp:List Addr)(it:Addr)(tn:Nat->Heap->Prop):Prop where
 mem:it∈fp
 obj:∀i h,tn i h->∀b∈fp,∃o,h.get? b=some o/\∀v,o.data≠.cell v
 keep:∀i h h',tn i h->(∀b∈fp,∀o,h.get? b=some o->h'.get? b=some o)->tn i h'
 item:∀(X:Cx),X.prog=P->X.w=w->X.K=K->X.calm=true->∀(i:Nat) (pins:List (Addr×Obj)) (s:Shared) (σ:St) (H:Hp) (E:Value->Shared->Prop),Inv X pins σ H s->(∀b∈fp,FpOk X pins H b)->tn i s.heap->J.go i H->
  wpAny (model P w) X.A (pyNext (.ref it)) (λ r s1=>∃u,r=some u/\
   wpAny (model P w) X.A (letOwnedTupleGo tg (.ref it) u) (λ _ s2=>∃x H',Inv X pins σ H' s2/\RelV x u/\J.yld i H x H'/\tn (i+1) s2.heap/\∀b∈fp,H' b=none) E s1) E s
 done:∀(X:Cx),X.prog=P->X.w=w->X.K=K->X.calm=true->∀(i:Nat) (pins:List (Addr×Obj)) (s:Shared) (σ:St) (H:Hp) (E:Value->Shared->Prop),Inv X pins σ H s->(∀b∈fp,FpOk X pins H b)->tn i s.heap->J.stop i H->
  wpAny (model P w) X.A (pyNext (.ref it)) (λ r s1=>r=none/\Inv X pins σ H s1) E s
 self:∀(A:Around) (i:Nat) (s:Shared) (Q:Value->Shared->Prop) (E:Value->Shared->Prop),tn i s.heap->Q (.ref it) s->wpAny (model P w) A (pyIter (.ref it)) Q E s
abbrev TI:=St->Hp->(It->Hp->Prop)->Prop
def PIE (X:Cx)(pins:List (Addr×Obj))(σ:St)(tg:Expr)(R:It->Hp->Prop)(itv:Value)(s2:Shared):Prop:=
 ∃(it:Addr) (fp:List Addr) (tn:Nat->Heap->Prop) (J:It) (H':Hp),itv=.ref it/\Inv X pins σ H' s2/\Turn X.prog X.w X.K tg J fp it tn/\tn 0 s2.heap/\(∀b∈fp,FpOk X pins H' b)/\R J H'
def PI (X:Cx)(tg iter:Expr)(wi:TI):Prop:=
 ∀(pins:List (Addr×Obj)) (s:Shared) (σ:St) (H:Hp) (R:It->Hp->Prop),Inv X pins σ H s->wi σ H R->
  wpAny (model X.prog X.w) X.A (eval iter X.env) (λ v s1=>wpAny (model X.prog X.w) X.A (pyIter v) (PIE X pins σ tg R) X.xe s1) X.xe s
theorem Wi {M:Model}{A:Around}{E:Value->Shared->Prop}{s:Shared}{tg:Expr}{it:Addr}{u:Value}{o:Obj}{n:String}{vs:Array Value}{Q:Unit->Shared->Prop}(ho:s.heap.get? it=some o)(hc:o.cls=.type n)(hd:o.data=.fields vs)
  (hn:["enumerate","zip","dict_itemiterator","dict_reverseitemiterator","odict_iterator","itertools.zip_longest","itertools.pairwise"].contains n=false) (hQ:Q () s):wpAny M A (letOwnedTupleGo tg (.ref it) u) Q E s:=by
 unfold letOwnedTupleGo;cases tg<;>first
  | exact wpAny_pure hQ
  | (cases u<;>first
    | exact wpAny_pure hQ
    | (refine wpAny_bind (wpAny_load ho ?_);rw [hc,hd];show wpAny M A (if (["enumerate","zip","dict_itemiterator","dict_reverseitemiterator","odict_iterator","itertools.zip_longest","itertools.pairwise"].contains n && vs[0]? == some (rawInt _))=true then _ else _) Q E s;rw [if_neg (by intro h;rw [hn,Bool.false_and] at h;cases h)];exact wpAny_pure hQ))
def Itl (K:FrG)(a:Addr):It:=
 ⟨λ i H=>∃xs x,SqL K H a xs/\xs[i]?=some x,λ i H x H'=>H'=H/\∀xs,SqL K H a xs->xs[i]?=some x,λ i H=>∃xs,SqL K H a xs/\xs.length<=i⟩
def Itt (K:FrG)(a:Addr):It:=
 ⟨λ i H=>∃xs x,SqT K H a xs/\xs[i]?=some x,λ i H x H'=>H'=H/\∀xs,SqT K H a xs->xs[i]?=some x,λ i H=>∃xs,SqT K H a xs/\xs.length<=i⟩
def Itr (lo:Int)(n:Nat):It:=⟨λ i _=>i < n,λ i H x H'=>H'=H/\x=.int (lo+i),λ i _=>n<=i⟩
theorem mF {P:Program}{w:World}{K:FrG}{tg:Expr}(a it:Addr):Turn P w K tg (Itl K a) [it] it (λ i h=>h.IsListIter it a i) where
 mem:=by simp
 obj:=λ i h st b hb=>by
  have e:b=it:=by simpa using hb
  subst e;obtain ⟨o,e,c,d⟩:=st;exact ⟨o,e,λ v z=>by rw [d] at z;cases z⟩
 keep:=λ i h h' st k=>st.at λ o e=>k it (by simp) o e
 item:=by
  intro X hP hw hK hc i pins s σ H E I hf st hg;subst hP hw hK;obtain ⟨xs,x,hq,hx⟩:=hg;obtain ⟨its,rv,p,hz⟩:=I.list hq;obtain ⟨u,hu,ru⟩:=rv.get hx;obtain ⟨f0,f1,f2,f3,f4,f5⟩:=hf it (by simp)
  refine wpAny_pyNext_list_item st p.isList (x:=u) (by simpa using hu) λ h' st' sb=>?_
  have I1:Inv X pins σ H { s with heap:=h' }:=I.turned (t':=s.toks) (λ b o hb e=>(sb.2 b hb).trans e) f0 f1 f3 f4 f5
  obtain ⟨o,e,c,d⟩:=id st';exact ⟨u,rfl,Wi (s:={ s with heap:=h' }) e c d (by decide) ⟨x,H,I1,ru,⟨rfl,λ ys hy=>by rw [I.list_inj hy hq];exact hx⟩,st',λ b hb=>(hf b hb).1⟩⟩
 done:=by
  intro X hP hw hK hc i pins s σ H E I hf st hg;subst hP hw hK;obtain ⟨xs,hq,hx⟩:=hg;obtain ⟨its,rv,p,hz⟩:=I.list hq;obtain ⟨f0,f1,f2,f3,f4,f5⟩:=hf it (by simp)
  have hl:=rv.length;exact wpAny_pyNext_list_end (I.ok.hd hc) st p.isList (by simp;omega) λ h' eb=>⟨rfl,I.turned (t':=s.toks) (λ b o hb e=>eb b o hb e) f0 f1 f3 f4 f5⟩
 self:=λ _ _ _ _ _ st h=>wpAny_pyIter_listiter st h
theorem rQ {P:Program}{w:World}{K:FrG}{tg:Expr}(a it:Addr):Turn P w K tg (Itt K a) [it] it (λ i h=>h.IsTupleIter it a i) where
 mem:=by simp
 obj:=λ i h st b hb=>by
  have e:b=it:=by simpa using hb
  subst e;obtain ⟨o,e,c,d⟩:=st;exact ⟨o,e,λ v z=>by rw [d] at z;cases z⟩
 keep:=λ i h h' st k=>st.at λ o e=>k it (by simp) o e
 item:=by
  intro X hP hw hK hc i pins s σ H E I hf st hg;subst hP hw hK;obtain ⟨xs,x,hq,hx⟩:=hg;obtain ⟨its,rv,p,hz⟩:=I.tuple hq;obtain ⟨u,hu,ru⟩:=rv.get hx;obtain ⟨f0,f1,f2,f3,f4,f5⟩:=hf it (by simp)
  refine wpAny_pyNext_tuple_item st (show s.heap.IsTuple a its.toArray from p) (x:=u) (by simpa using hu) λ h' st' sb=>?_
  have I1:Inv X pins σ H { s with heap:=h' }:=I.turned (t':=s.toks) (λ b o hb e=>(sb.2 b hb).trans e) f0 f1 f3 f4 f5
  obtain ⟨o,e,c,d⟩:=id st';exact ⟨u,rfl,Wi (s:={ s with heap:=h' }) e c d (by decide) ⟨x,H,I1,ru,⟨rfl,λ ys hy=>by rw [I.tuple_inj hy hq];exact hx⟩,st',λ b hb=>(hf b hb).1⟩⟩
 done:=by
  intro X hP hw hK hc i pins s σ H E I hf st hg;subst hP hw hK;obtain ⟨xs,hq,hx⟩:=hg;obtain ⟨its,rv,p,hz⟩:=I.tuple hq;obtain ⟨f0,f1,f2,f3,f4,f5⟩:=hf it (by simp)
  have hl:=rv.length;exact wpAny_pyNext_tuple_end (I.ok.hd hc) st (show s.heap.IsTuple a its.toArray from p) (by simp;omega) λ h' eb=>⟨rfl,I.turned (t':=s.toks) (λ b o hb e=>eb b o hb e) f0 f1 f3 f4 f5⟩
 self:=λ _ _ _ _ _ st h=>wpAny_pyIter_tupleiter st h
theorem tH {P:Program}{w:World}{K:FrG}{tg:Expr}(it:Addr)(lo:Int)(n:Nat):Turn P w K tg (Itr lo n) [it] it (λ i h=>IsRangeIter h it (lo+(i:Nat) * 1) ((n:Int) - (i:Nat)) 1) where
 mem:=by simp
 obj:=λ i h st b hb=>by
  have e:b=it:=by simpa using hb
  subst e;exact ⟨_,st,λ v z=>by
   have z':Data.fields _=Data.cell v:=z;cases z'⟩
 keep:=λ i h h' st k=>k it (by simp) _ st
 item:=by
  intro X hP hw hK hc i pins s σ H E I hf st hg;subst hP hw hK;obtain ⟨f0,f1,f2,f3,f4,f5⟩:=hf it (by simp)
  have W:=Walks.range (prog:=X.prog) (w:=X.w) (I.ok.hd hc) it lo 1 n;refine W.item i s _ _ hg st λ v h' tk hv st' kk=>?_
  obtain ⟨t,rfl⟩:=hv;have I1:Inv X pins σ H { s with heap:=h',toks:=tk }:=I.turned (λ b o hb e=>kk b o (by simpa using hb) e) f0 f1 f3 f4 f5
  refine ⟨_,rfl,Wi (s:={ s with heap:=h',toks:=tk }) (n:="range_iterator") st' rfl rfl (by decide) ⟨.int (lo+i),H,I1,⟨t,?_⟩,⟨rfl,rfl⟩,st',λ b hb=>(hf b hb).1⟩⟩
  rw [Int.mul_one]
 done:=by
  intro X hP hw hK hc i pins s σ H E I hf st hg;subst hP hw hK;obtain ⟨f0,f1,f2,f3,f4,f5⟩:=hf it (by simp)
  exact wpAny_pyNext_range_end (I.ok.hd hc) st (by have:n<=i:=hg;omega) λ h' eb=>⟨rfl,I.turned (t':=s.toks) (λ b o hb e=>eb b o hb e) f0 f1 f3 f4 f5⟩
 self:=λ _ _ _ _ _ st h=>wpAny_pyIter_rangeiter st h
section
variable {X:Cx}{tg:Expr}
def iList (K:FrG)(tl:TE):TI:=λ σ H R=>tl σ H λ x H1=>∃a,x=.ref a/\(∃xs,SqL K H1 a xs)/\R (Itl K a) H1
def iTup (K:FrG)(tl:TE):TI:=λ σ H R=>tl σ H λ x H1=>∃a,x=.ref a/\(∃xs,SqT K H1 a xs)/\R (Itt K a) H1
theorem Dw {l:Expr}{tl:TE}(hl:PE X l tl):PI X tg l (iList X.K tl):=by
 intro pins s σ H R I h;refine thn (hl pins s σ H _ I h) λ v s1 ⟨x,H1,I1,r1,q1⟩=>?_
 obtain ⟨a,e,⟨xs,hq⟩,q⟩:=q1;subst e;cases r1
 obtain ⟨its,rv,p,hz⟩:=I1.list hq;refine wpAny_pyIter_list p.isList ?_;refine ⟨s1.heap.objs.size,[s1.heap.objs.size],_,_,H1,rfl,I1.kept (t':=s1.toks) λ b o e=>Heap.get?_push_of_some _ e,mF a _,⟨_,Heap.get?_push_size _ rfl,rfl,rfl⟩,λ b hb=>?_,q⟩
 have e:b=s1.heap.objs.size:=by simpa using hb
 subst e;exact I1.fpOk (Nat.le_refl _) (I1.hok.fresh (Nat.le_refl _))
theorem Ro {l:Expr}{tl:TE}(hl:PE X l tl):PI X tg l (iTup X.K tl):=by
 intro pins s σ H R I h;refine thn (hl pins s σ H _ I h) λ v s1 ⟨x,H1,I1,r1,q1⟩=>?_
 obtain ⟨a,e,⟨xs,hq⟩,q⟩:=q1;subst e;cases r1
 obtain ⟨its,rv,p,hz⟩:=I1.tuple hq;refine wpAny_pyIter_tuple (show s1.heap.IsTuple a its.toArray from p) ?_
 refine ⟨s1.heap.objs.size,[s1.heap.objs.size],_,_,H1,rfl,I1.kept (t':=s1.toks) λ b o e=>Heap.get?_push_of_some _ e,rQ a _,⟨_,Heap.get?_push_size _ rfl,rfl,rfl⟩,λ b hb=>?_,q⟩
 have e:b=s1.heap.objs.size:=by simpa using hb
 subst e;exact I1.fpOk (Nat.le_refl _) (I1.hok.fresh (Nat.le_refl _))
theorem jf {pins:List (Addr×Obj)}{σ:St}{H:Hp}{s:Shared}{R:It->Hp->Prop}{E:Value->Shared->Prop}{lo hi:Int}{t u v:Tok}{tk:Nat}(I:Inv X pins σ H s)(h1:-(2 ^ 62)<=lo)(h2:lo < 2 ^ 62)(h3:-(2 ^ 62)<=hi)(h4:hi < 2 ^ 62)
  (q:R (Itr lo (hi - lo).toNat) H):wpAny (model X.prog X.w) X.A (pyIter (.ref s.heap.objs.size)) (PIE X pins σ tg R) E { s with heap:=s.heap.push { cls:=.type "range",data:=.fields #[.int lo t,.int hi u,.int 1 v] },toks:=tk }:=by
 refine wpAny_pyIter_range (IsRange.new ..) (small_one h1 h2 h3 h4) ?_;have I1:Inv X pins σ H { s with heap:=s.heap.push { cls:=.type "range",data:=.fields #[.int lo t,.int hi u,.int 1 v] },toks:=tk }:=I.kept λ b o e=>Heap.get?_push_of_some _ e
 refine ⟨(s.heap.push { cls:=.type "range",data:=.fields #[.int lo t,.int hi u,.int 1 v] }).objs.size,[(s.heap.push { cls:=.type "range",data:=.fields #[.int lo t,.int hi u,.int 1 v] }).objs.size],_,_,H,rfl,
  I1.kept (t':=tk) λ b o e=>Heap.get?_push_of_some _ e,tH _ lo (hi - lo).toNat,?_,λ b hb=>?_,q⟩
 ·have e1:lo+((0:Nat):Int) * 1=lo:=by simp
  have e2:(((hi - lo).toNat:Nat):Int) - ((0:Nat):Int)=Builtin.Range.rangeSize lo hi 1:=by rw [rangeSize_one];split<;>omega
  show IsRangeIter _ _ (lo+((0:Nat):Int) * 1) ((((hi - lo).toNat:Nat):Int) - ((0:Nat):Int)) 1;rw [e1,e2];exact Heap.get?_push_size _ rfl
 ·have e:b=(s.heap.push { cls:=.type "range",data:=.fields #[.int lo t,.int hi u,.int 1 v] }).objs.size:=by simpa using hb
  subst e;exact I1.fpOk (Nat.le_refl _) (I1.hok.fresh (Nat.le_refl _))
def iRng1 (ta:TA):TI:=λ σ H R=>ta σ H λ vs H1=>∃j:Int,vs=[.int j]/\-(2 ^ 62)<=j/\j < 2 ^ 62/\R (Itr 0 j.toNat) H1
theorem cN {a:Expr}{ta:TA}{p pos:Pos}(hg:Gl X "range")(hm:X.mg "range"=none)(ha:PA X [a] ta)(hs:starEach [a] X.env=[(false,eval a X.env)]:=by rfl):PI X tg (.Call (.Name "range" p) [a] [] pos) (iRng1 ta):=by
 intro pins s σ H R I h;refine Call_ (Ji I hg hm boot_range (PyProof.Rows.callWith_type1 (thn (ha pos pins s σ H _ I h) λ us s1 ⟨vs,H1,I1,r1,q1⟩=>?_) hs rfl))
 obtain ⟨j,e,q1,q2,q⟩:=q1;subst e;cases r1 with
 | cons r rr=>
  cases rr
  obtain ⟨t,rfl⟩:=r;exact call_range_1 (jf I1 (by omega) (by omega) q1 q2 (by simpa using q))
def tFor (wi:TI)(g:TG)(tb:TS):TS:=λ D σ H=>wi σ H λ J H1=>∃W:Nat->Nat->St->Hp->Prop,(∃m,W 0 m σ H1)/\∀i m σ H,W i m σ H->
 (J.stop i H/\D.nx σ H)\/(J.go i H/\∃N:St->Hp->Prop,(∀σ' H',N σ' H'->∃m',m' < m/\W (i+1) m' σ' H')/\∀x H',J.yld i H x H'->g x σ H' λ σ2 H2=>tb { D with nx:=N,ct:=N,bk:=D.nx } σ2 H2)
def pinsAt (fp:List Addr)(h:Heap):List (Addr×Obj):=fp.filterMap λ b=>(h.get? b).map λ o=>(b,o)
theorem Oh {fp:List Addr}{h:Heap}{b:Addr}{o:Obj}(hb:b∈fp)(e:h.get? b=some o):(b,o)∈pinsAt fp h:=List.mem_filterMap.mpr ⟨b,hb,by rw [e];rfl⟩
theorem jk {fp:List Addr}{h:Heap}{p:Addr×Obj}(hp:p∈pinsAt fp h):p.1∈fp/\h.get? p.1=some p.2:=by
 obtain ⟨b,hb,e⟩:=List.mem_filterMap.mp hp;cases q:h.get? b with
 | none=>rw [q] at e;cases e
 | some o=>
  rw [q] at e;have e':(b,o)=p:=Option.some.inj e;subst e';exact ⟨hb,q⟩
theorem Inv.pinned {pins:List (Addr×Obj)}{σ:St}{H:Hp}{s:Shared}{fp:List Addr}(I:Inv X pins σ H s)(hf:∀b∈fp,FpOk X pins H b)(ho:∀b∈fp,∃o,s.heap.get? b=some o/\∀v,o.data≠.cell v):Inv X (pins++pinsAt fp s.heap) σ H s:=
 I.pins_of λ p hp=>(List.mem_append.mp hp).elim (λ z=>I.pin p (List.mem_append_right _ z)) λ z=>by
  obtain ⟨hb,e⟩:=jk z;obtain ⟨f0,f1,f2,_⟩:=hf p.1 hb;obtain ⟨o,e',d⟩:=ho p.1 hb;rw [e] at e';cases e';exact ⟨e,f0,f1,f2,d⟩
theorem Inv.unpinned {pins pl:List (Addr×Obj)}{σ:St}{H:Hp}{s:Shared}(I:Inv X (pins++pl) σ H s):Inv X pins σ H s:=I.pins_of λ p hp=>I.pin p (List.mem_append_right _ (List.mem_append_left _ hp))
theorem DW {iter:Expr}{body:List Stmt}{wi:TI}{g:TG}{tb:TS}{pos:Pos}(hp:PassesOwn (model X.prog X.w) X.A X.env X.xe)(hc:X.calm=true)(hi:PI X tg iter wi)(hg:PG X tg g)(hb:PSs X body tb)
  (hs:∀x,foldedSetIterable iter X.env x=pure x:=by intro _;rfl):PS X (.For tg iter body [] pos) (tFor wi g tb):=by
 intro pins s σ H D I h;refine wpAny_For (thn (hi pins s σ H _ I h) λ v s1 h1=>thn h1 λ itv s2 h2=>?_) hs
 obtain ⟨it,fp,tn,J,H2,e,I2,T,st2,f2,W,⟨m0,w0⟩,turn⟩:=h2;subst e;have stat:∀{H':Hp},(∀b∈fp,H' b=none)->∀b∈fp,FpOk X pins H' b:=λ hn b hb=>⟨hn b hb,(f2 b hb).2⟩
 refine codeAny_forLoop_any (λ n s'=>∃i σ' H',Inv X pins σ' H' s'/\tn i s'.heap/\(∀b∈fp,H' b=none)/\W i n σ' H') ?_ m0 ⟨0,σ,H2,I2,st2,λ b hb=>(f2 b hb).1,w0⟩
 rintro n s3 ⟨i,σ3,H3,I3,st3,fr3,w3⟩
 rcases turn i n σ3 H3 w3 with ⟨stop,qn⟩ | ⟨go,N,hN,step⟩
 ·refine wpAny_passesOwn hp (thn (T.done X rfl rfl rfl hc i pins s3 σ3 H3 X.xe I3 (stat fr3) st3 stop) λ r s4 ⟨hr,I4⟩=>?_)
  subst hr;exact wpAny_execs_nil ⟨σ3,H3,I4,qn⟩
 ·refine wpAny_passesOwn hp (thn (T.item X rfl rfl rfl hc i pins s3 σ3 H3 X.xe I3 (stat fr3) st3 go) λ r s4 ⟨u,hr,h4⟩=>?_)
  subst hr;refine wpAny_passesOwn hp (thn h4 λ _ s5 ⟨x,H5,I5,r5,y5,st5,fr5⟩=>?_)
  have I5':=I5.pinned (stat fr5) (T.obj _ _ st5);refine wpAny_passesOwn hp (thn (hg _ s5 σ3 H5 x u _ I5' r5 (step x H5 y5)) λ _ s6 ⟨σ6,H6,I6,q6⟩=>?_)
  refine wpAny_passesOwn hp (thn (hb _ s6 σ6 H6 _ I6 q6) λ f s7 q7=>?_)
  have again:∀{σ7:St} {H7:Hp},Inv X (pins++pinsAt fp s5.heap) σ7 H7 s7->N σ7 H7->∃m,m < n/\∃i σ' H',Inv X pins σ' H' s7/\tn i s7.heap/\(∀b∈fp,H' b=none)/\W i m σ' H':=λ {σ7 H7} I7 n7=>by
   obtain ⟨m',hm,w7⟩:=hN σ7 H7 n7;refine ⟨m',hm,i+1,σ7,H7,I7.unpinned,T.keep _ _ _ st5 λ b hb o e=>(I7.pin (b,o) (List.mem_append_right _ (List.mem_append_right _ (Oh hb e)))).1,λ b hb=>?_,w7⟩
   obtain ⟨o,e,d⟩:=T.obj _ _ st5 b hb;exact (I7.pin (b,o) (List.mem_append_right _ (List.mem_append_right _ (Oh hb e)))).2.1
  cases f with
  | next=>obtain ⟨σ7,H7,I7,n7⟩:=q7;exact again I7 n7
  | cont=>obtain ⟨σ7,H7,I7,n7⟩:=q7;exact again I7 n7
  | brk=>obtain ⟨σ7,H7,I7,q7⟩:=q7;exact ⟨σ7,H7,I7.unpinned,q7⟩
  | ret v=>obtain ⟨x7,σ7,H7,I7,r7,q7⟩:=q7;exact ⟨x7,σ7,H7,I7.unpinned,r7,q7⟩
end
theorem Fg {K:FrG}{a:Addr}{xs:List V}{g:TG}{tb:TS}{D:Ends}{σ:St}{H:Hp}(Pv:Nat->St->Hp->Prop)(h0:Pv 0 σ H)(hl:∀i σ H,i<=xs.length->Pv i σ H->SqL K H a xs)
  (hs:∀i x σ H,xs[i]?=some x->Pv i σ H->g x σ H λ σ2 H2=>tb { D with nx:=Pv (i+1),ct:=Pv (i+1),bk:=D.nx } σ2 H2) (hd:∀σ H,Pv xs.length σ H->D.nx σ H):
  ∃W:Nat->Nat->St->Hp->Prop,(∃m,W 0 m σ H)/\∀i m σ H,W i m σ H->
   ((Itl K a).stop i H/\D.nx σ H)\/((Itl K a).go i H/\∃N:St->Hp->Prop,(∀σ' H',N σ' H'->∃m',m' < m/\W (i+1) m' σ' H')/\∀x H',(Itl K a).yld i H x H'->g x σ H' λ σ2 H2=>tb { D with nx:=N,ct:=N,bk:=D.nx } σ2 H2):=by
 refine ⟨λ i m σ H=>m=xs.length - i/\i<=xs.length/\Pv i σ H,⟨xs.length,by simp,Nat.zero_le _,h0⟩,?_⟩
 rintro i m σ H ⟨rfl,hi,p⟩
 have q:=hl i σ H hi p;by_cases hlt:i < xs.length
 ·refine .inr ⟨⟨xs,xs[i],q,by simp [hlt]⟩,Pv (i+1),λ σ' H' p'=>⟨xs.length - (i+1),by omega,rfl,hlt,p'⟩,λ x H' y=>?_⟩
  obtain ⟨e,y⟩:=y;subst e;exact hs i x σ _ (y xs q) p
 ·have e:i=xs.length:=by omega
  subst e;exact .inl ⟨⟨xs,q,Nat.le_refl _⟩,hd σ H p⟩
theorem QW {lo:Int}{n:Nat}{g:TG}{tb:TS}{D:Ends}{σ:St}{H:Hp}(Pv:Nat->St->Hp->Prop)(h0:Pv 0 σ H)
  (hs:∀i σ H,i < n->Pv i σ H->g (.int (lo+i)) σ H λ σ2 H2=>tb { D with nx:=Pv (i+1),ct:=Pv (i+1),bk:=D.nx } σ2 H2) (hd:∀σ H,Pv n σ H->D.nx σ H):
  ∃W:Nat->Nat->St->Hp->Prop,(∃m,W 0 m σ H)/\∀i m σ H,W i m σ H->
   ((Itr lo n).stop i H/\D.nx σ H)\/((Itr lo n).go i H/\∃N:St->Hp->Prop,(∀σ' H',N σ' H'->∃m',m' < m/\W (i+1) m' σ' H')/\∀x H',(Itr lo n).yld i H x H'->g x σ H' λ σ2 H2=>tb { D with nx:=N,ct:=N,bk:=D.nx } σ2 H2):=by
 refine ⟨λ i m σ H=>m=n - i/\i<=n/\Pv i σ H,⟨n,by simp,Nat.zero_le _,h0⟩,?_⟩
 rintro i m σ H ⟨rfl,hi,p⟩
 by_cases hlt:i < n
 ·refine .inr ⟨hlt,Pv (i+1),λ σ' H' p'=>⟨n - (i+1),by omega,rfl,hlt,p'⟩,λ x H' y=>?_⟩
  obtain ⟨e,y⟩:=y;subst e y;exact hs i σ _ hlt p
 ·have e:i=n:=by omega
  subst e;exact .inl ⟨Nat.le_refl _,hd σ H p⟩
abbrev R2:=V->V->Hp->VK->Prop
def OpR (X:Cx)(f:Value->Value->Sem Value)(r:R2):Prop:=
 ∀(pins:List (Addr×Obj)) (s:Shared) (σ:St) (H:Hp) (x y:V) (v u:Value) (Q:VK),Inv X pins σ H s->RelV x v->RelV y u->r x y H Q->
  wpAny (model X.prog X.w) X.A (f v u) (EP X pins σ Q) X.xe s
def UnR (X:Cx)(f:Value->Sem Value)(r:V->Hp->VK->Prop):Prop:=
 ∀(pins:List (Addr×Obj)) (s:Shared) (σ:St) (H:Hp) (x:V) (v:Value) (Q:VK),Inv X pins σ H s->RelV x v->r x H Q->
  wpAny (model X.prog X.w) X.A (f v) (EP X pins σ Q) X.xe s
def CallR (X:Cx)(f:Value)(r:List V->Hp->VK->Prop):Prop:=
 ∀(pins:List (Addr×Obj)) (s:Shared) (σ:St) (H:Hp) (xs:List V) (us:List Value) (Q:VK),Inv X pins σ H s->Vals xs us->r xs H Q->
  wpAny (model X.prog X.w) X.A (call f us) (EP X pins σ Q) X.xe s
def tOp (r:R2)(ta tb:TE):TE:=λ σ H Q=>ta σ H λ x H1=>tb σ H1 λ y H2=>r x y H2 Q
def tUn (r:V->Hp->VK->Prop)(ta:TE):TE:=λ σ H Q=>ta σ H λ x H1=>r x H1 Q
def rI (C:Int->Int->Prop)(g:Int->Int->V):R2:=λ x y H Q=>∃i j,x=.int i/\y=.int j/\C i j/\Q (g i j) H
def rI0 (g:Int->Int->V):R2:=λ x y H Q=>∃i j,x=.int i/\y=.int j/\Q (g i j) H
def rU (g:Int->V):V->Hp->VK->Prop:=λ x H Q=>∃i,x=.int i/\Q (g i) H
section
variable {X:Cx}{a b c:Expr}{ta tb tc:TE}{pos:Pos}
theorem binT (ha:PE X a ta)(hb:PE X b tb){pins:List (Addr×Obj)}{s:Shared}{σ:St}{H:Hp}{R:V->V->Hp->Prop}(I:Inv X pins σ H s)
  (h:ta σ H λ x H1=>tb σ H1 λ y H2=>R x y H2) {Q:Value->Shared->Prop} {f:Value->Value->Sem Value}
  (hf:∀v u s2 x y H2,Inv X pins σ H2 s2->RelV x v->RelV y u->R x y H2->wpAny (model X.prog X.w) X.A (f v u) Q X.xe s2):
  wpAny (model X.prog X.w) X.A (eval a X.env) (λ v s₁=>wpAny (model X.prog X.w) X.A (eval b X.env) (λ u s₂=>wpAny (model X.prog X.w) X.A (f v u) Q X.xe s₂) X.xe s₁) X.xe s:=by
 refine thn (ha pins s σ H _ I h) λ v s1 ⟨x,H1,I1,r1,q1⟩=>?_
 refine thn (hb pins s1 σ H1 _ I1 q1) λ u s2 ⟨y,H2,I2,r2,q2⟩=>?_
 exact hf v u s2 x y H2 I2 r1 r2 q2
theorem Ay {op:Operator}{r:R2}(ho:OpR X (binaryOp op) r)(ha:PE X a ta)(hb:PE X b tb):PE X (.BinOp a op b pos) (tOp r ta tb):=by
 intro pins s σ H Q I h;exact wpAny_BinOp (binT ha hb I h λ v u s2 x y H2 I2 rx ry q=>ho pins s2 σ H2 x y v u Q I2 rx ry q)
theorem Jv {op:UnaryOp}{r:V->Hp->VK->Prop}(ho:UnR X (unaryOp op) r)(ha:PE X a ta):PE X (.UnaryOp op a pos) (tUn r ta):=by
 intro pins s σ H Q I h;exact UnaryOp_ (thn (ha pins s σ H _ I h) λ v s1 ⟨x,H1,I1,r1,q1⟩=>ho pins s1 σ H1 x v Q I1 r1 q1)
theorem opI {f:Value->Value->Sem Value}{C:Int->Int->Prop}{g:Int->Int->Int}
  (rule:∀(i j:Int) (t u:Tok) (s:Shared) (Q:Value->Shared->Prop) (E:Value->Shared->Prop),C i j->Q (.int (g i j) s.toks) { s with toks:=s.toks+1 }->wpAny (model X.prog X.w) X.A (f (.int i t) (.int j u)) Q E s):
  OpR X f (rI C λ i j=>.int (g i j)):=by
 intro pins s σ H x y v u Q I rx ry h;obtain ⟨i,j,rfl,rfl,hc,q⟩:=h;obtain ⟨t,rfl⟩:=rx;obtain ⟨t',rfl⟩:=ry;exact rule i j t t' s _ _ hc ⟨.int (g i j),H,I.tok _,⟨_,rfl⟩,q⟩
theorem opI0 {f:Value->Value->Sem Value}{g:Int->Int->Int}
  (rule:∀(i j:Int) (t u:Tok) (s:Shared) (Q:Value->Shared->Prop) (E:Value->Shared->Prop),Q (.int (g i j) s.toks) { s with toks:=s.toks+1 }->wpAny (model X.prog X.w) X.A (f (.int i t) (.int j u)) Q E s):
  OpR X f (rI0 λ i j=>.int (g i j)):=by
 intro pins s σ H x y v u Q I rx ry h;obtain ⟨i,j,rfl,rfl,q⟩:=h;obtain ⟨t,rfl⟩:=rx;obtain ⟨t',rfl⟩:=ry;exact rule i j t t' s _ _ ⟨.int (g i j),H,I.tok _,⟨_,rfl⟩,q⟩
theorem opB0 {f:Value->Value->Sem Value}{g:Int->Int->Bool}
  (rule:∀(i j:Int) (t u:Tok) (s:Shared) (Q:Value->Shared->Prop) (E:Value->Shared->Prop),Q (.bool (g i j)) s->wpAny (model X.prog X.w) X.A (f (.int i t) (.int j u)) Q E s):
  OpR X f (rI0 λ i j=>.bl (g i j)):=by
 intro pins s σ H x y v u Q I rx ry h;obtain ⟨i,j,rfl,rfl,q⟩:=h;obtain ⟨t,rfl⟩:=rx;obtain ⟨t',rfl⟩:=ry;exact rule i j t t' s _ _ ⟨.bl (g i j),H,I,rfl,q⟩
def CDiv (i j:Int):Prop:=0 < j/\j < 1073741824
def CMul (i j:Int):Prop:=(-(2 ^ 64) < i/\i < 2 ^ 64)\/(-(2 ^ 64) < j/\j < 2 ^ 64)
theorem CMul.ok {i j:Int}(h:CMul i j):IntMulOk i j:=by
 rcases h with ⟨h1,h2⟩ | ⟨h1,h2⟩
 ·exact .of_left (intBits_le_64 h1 h2)
 ·exact .of_right (intBits_le_64 h1 h2)
theorem Gi:OpR X (binaryOp .Add) (rI0 λ i j=>.int (i+j)):=opI0 λ _ _ _ _ _ _ _ q=>add_int q
theorem Ec:OpR X (binaryOp .Sub) (rI0 λ i j=>.int (i - j)):=opI0 λ _ _ _ _ _ _ _ q=>sub_int q
theorem K7:OpR X (binaryOp .Mult) (rI CMul λ i j=>.int (i * j)):=opI λ _ _ _ _ _ _ _ hc q=>mul_int q hc.ok
theorem Eo:OpR X (binaryOp .FloorDiv) (rI CDiv λ i j=>.int (i / j)):=opI λ i j _ _ _ _ _ hc q=>by
 have h1:(0:Int) < j:=hc.1;have h2:j < 1073741824:=hc.2;exact floordiv_int (by omega) (by rw [Int.fdiv_eq_ediv_of_nonneg i (by omega)];exact q) (.inl (PyProof.noPylong_small (by omega)))
theorem Cu:OpR X (binaryOp .Mod) (rI (λ _ j=>0 < j) λ i j=>.int (i % j)):=opI λ i j _ _ _ _ _ hc q=>by
 have h1:(0:Int) < j:=hc;exact mod_int' (by omega) (by rw [Int.fmod_eq_emod_of_nonneg i (by omega)];exact q)
theorem unI {f:Value->Sem Value}{g:Int->Int}
  (rule:∀(i:Int) (t:Tok) (s:Shared) (Q:Value->Shared->Prop) (E:Value->Shared->Prop),Q (.int (g i) s.toks) { s with toks:=s.toks+1 }->wpAny (model X.prog X.w) X.A (f (.int i t)) Q E s):
  UnR X f (rU λ i=>.int (g i)):=by
 intro pins s σ H x v Q I rx h;obtain ⟨i,rfl,q⟩:=h;obtain ⟨t,rfl⟩:=rx;exact rule i t s _ _ ⟨.int (g i),H,I.tok _,⟨_,rfl⟩,q⟩
theorem Ju:UnR X (unaryOp .USub) (rU λ i=>.int (-i)):=unI λ _ _ _ _ _ q=>neg_int q
end
def scal:V->V->Bool
 | .non,.non=>true | .non,.int _=>true | .int _,.non=>true | .non,.bl _=>true | .bl _,.non=>true | .non,.str _=>true | .str _,.non=>true
 | .int _,.int _=>true | .bl _,.bl _=>true | .str _,.str _=>true | .byt _,.byt _=>true
 | .int _,.str _=>true | .str _,.int _=>true | .bl _,.str _=>true | .str _,.bl _=>true
 | _,_=>false
def rEq:R2:=λ x y H Q=>scal x y=true/\Q (.bl (decide (x=y))) H
def rNe:R2:=λ x y H Q=>scal x y=true/\Q (.bl (!decide (x=y))) H
theorem X6 {i j:Int}:decide (V.int i=V.int j)=(i == j):=by
 rw [Bool.eq_iff_iff];simp
theorem Xw {i j:Bool}:decide (V.bl i=V.bl j)=(i == j):=by
 rw [Bool.eq_iff_iff];simp
theorem aO {i j:Str}:decide (V.str i=V.str j)=(i == j):=by
 rw [Bool.eq_iff_iff];simp
theorem Z7 {i j:Array UInt8}:decide (V.byt i=V.byt j)=(i.toList == j.toList):=by
 rw [Bool.eq_iff_iff];cases i
 cases j
 simp
section
variable {X:Cx}{a b c:Expr}{ta tb tc:TE}{pos:Pos}
theorem CN {pins:List (Addr×Obj)}{σ:St}{H:Hp}{s:Shared}{Q:VK}{k k':Bool}(I:Inv X pins σ H s)(q:Q (.bl k) H)(e:k=k'):EP X pins σ Q (.bool k') s:=by
 subst e;exact ⟨.bl k,H,I,rfl,q⟩
theorem DX:OpR X (compareOp .Eq) rEq:=by
 intro pins s σ H x y v u Q I rx ry h;obtain ⟨hs,q⟩:=h;cases x with
 | non=>
  cases rx
  cases y with
  | non=>cases ry;exact PySem.EqNone.eq_none_none (CN I q (by simp))
  | bl j=>cases ry;exact PySem.EqNone.eq_none_bool (CN I q (by simp))
  | int j=>obtain ⟨t',rfl⟩:=ry;exact PySem.EqNone.eq_none_int (CN I q (by simp))
  | str j=>obtain ⟨t',rfl⟩:=ry;exact PySem.EqNone.eq_none_str (CN I q (by simp))
  | _=>exact absurd (show false=true from hs) Bool.false_ne_true
 | bl i=>
  cases rx
  cases y with
  | non=>cases ry;exact PySem.EqNone.eq_bool_none (CN I q (by simp))
  | bl j=>cases ry;exact eq_bool (CN I q Xw)
  | str j=>obtain ⟨t',rfl⟩:=ry;exact PySem.EqMixed.eq_bool_str (CN I q (by simp))
  | _=>exact absurd (show false=true from hs) Bool.false_ne_true
 | int i=>
  obtain ⟨t,rfl⟩:=rx;cases y with
  | non=>cases ry;exact PySem.EqNone.eq_int_none (CN I q (by simp))
  | int j=>obtain ⟨t',rfl⟩:=ry;exact eq_int (CN I q X6)
  | str j=>obtain ⟨t',rfl⟩:=ry;exact PySem.EqMixed.eq_int_str (CN I q (by simp))
  | _=>exact absurd (show false=true from hs) Bool.false_ne_true
 | str i=>
  obtain ⟨t,rfl⟩:=rx;cases y with
  | non=>cases ry;exact PySem.EqNone.eq_str_none (CN I q (by simp))
  | bl j=>cases ry;exact PySem.EqMixed.eq_str_bool (CN I q (by simp))
  | int j=>obtain ⟨t',rfl⟩:=ry;exact PySem.EqMixed.eq_str_int (CN I q (by simp))
  | str j=>obtain ⟨t',rfl⟩:=ry;exact eq_str (CN I q aO)
  | _=>exact absurd (show false=true from hs) Bool.false_ne_true
 | byt i=>
  obtain ⟨t,rfl⟩:=rx;cases y with
  | byt j=>obtain ⟨t',rfl⟩:=ry;exact PySem.W.eq_bytes (CN I q Z7)
  | _=>exact absurd (show false=true from hs) Bool.false_ne_true
 | _=>cases y<;>exact absurd (show false=true from hs) Bool.false_ne_true
theorem Hb:OpR X (compareOp .NotEq) rNe:=by
 intro pins s σ H x y v u Q I rx ry h;obtain ⟨hs,q⟩:=h;cases x with
 | non=>
  cases rx
  cases y with
  | non=>cases ry;exact PySem.EqNone.ne_none_none (CN I q (by simp))
  | bl j=>cases ry;exact PySem.EqNone.ne_none_bool (CN I q (by simp))
  | int j=>obtain ⟨t',rfl⟩:=ry;exact PySem.EqNone.ne_none_int (CN I q (by simp))
  | str j=>obtain ⟨t',rfl⟩:=ry;exact PySem.EqNone.ne_none_str (CN I q (by simp))
  | _=>exact absurd (show false=true from hs) Bool.false_ne_true
 | bl i=>
  cases rx
  cases y with
  | non=>cases ry;exact PySem.EqNone.ne_bool_none (CN I q (by simp))
  | bl j=>cases ry;exact ne_bool (CN I q (congrArg not Xw))
  | str j=>obtain ⟨t',rfl⟩:=ry;exact PySem.EqMixed.ne_bool_str (CN I q (by simp))
  | _=>exact absurd (show false=true from hs) Bool.false_ne_true
 | int i=>
  obtain ⟨t,rfl⟩:=rx;cases y with
  | non=>cases ry;exact PySem.EqNone.ne_int_none (CN I q (by simp))
  | int j=>obtain ⟨t',rfl⟩:=ry;exact ne_int (CN I q (congrArg not X6))
  | str j=>obtain ⟨t',rfl⟩:=ry;exact PySem.EqMixed.ne_int_str (CN I q (by simp))
  | _=>exact absurd (show false=true from hs) Bool.false_ne_true
 | str i=>
  obtain ⟨t,rfl⟩:=rx;cases y with
  | non=>cases ry;exact PySem.EqNone.ne_str_none (CN I q (by simp))
  | bl j=>cases ry;exact PySem.EqMixed.ne_str_bool (CN I q (by simp))
  | int j=>obtain ⟨t',rfl⟩:=ry;exact PySem.EqMixed.ne_str_int (CN I q (by simp))
  | str j=>obtain ⟨t',rfl⟩:=ry;exact ne_str (CN I q (congrArg not aO))
  | _=>exact absurd (show false=true from hs) Bool.false_ne_true
 | byt i=>
  obtain ⟨t,rfl⟩:=rx;cases y with
  | byt j=>obtain ⟨t',rfl⟩:=ry;exact PySem.W.ne_bytes (CN I q (congrArg not Z7))
  | _=>exact absurd (show false=true from hs) Bool.false_ne_true
 | _=>cases y<;>exact absurd (show false=true from hs) Bool.false_ne_true
theorem JM:OpR X (compareOp .Lt) (rI0 λ i j=>.bl (decide (i < j))):=opB0 λ _ _ _ _ _ _ _ q=>lt_int q
theorem dJ:OpR X (compareOp .LtE) (rI0 λ i j=>.bl (decide (i<=j))):=opB0 λ _ _ _ _ _ _ _ q=>le_int q
theorem JQ:OpR X (compareOp .Gt) (rI0 λ i j=>.bl (decide (j < i))):=opB0 λ _ _ _ _ _ _ _ q=>gt_int q
theorem Y8:OpR X (compareOp .GtE) (rI0 λ i j=>.bl (decide (j<=i))):=opB0 λ _ _ _ _ _ _ _ q=>ge_int q
theorem La:OpR X (compareOp .Is) (λ x y H Q=>y=.non/\Q (.bl (decide (x=.non))) H):=by
 intro pins s σ H x y v u Q I rx ry h;obtain ⟨rfl,q⟩:=h;cases ry
 refine is_none_gen (CN I q ?_);cases x<;>first
  | (cases rx;rfl)
  | (obtain ⟨t,rfl⟩:=rx;rfl)
theorem Xx:OpR X (compareOp .IsNot) (λ x y H Q=>y=.non/\Q (.bl (!decide (x=.non))) H):=by
 intro pins s σ H x y v u Q I rx ry h;obtain ⟨rfl,q⟩:=h;cases ry
 refine isnot_none_gen (CN I q ?_);cases x<;>first
  | (cases rx;rfl)
  | (obtain ⟨t,rfl⟩:=rx;rfl)
theorem nomark (b:Expr){op:CmpOp}(h:op≠.In:=by decide)(h2:op≠.NotIn:=by decide):behindInMarks op b=false:=by
 have e1:(op == CmpOp.In)=false:=by cases op<;>first | rfl | exact absurd rfl h
 have e2:(op == CmpOp.NotIn)=false:=by cases op<;>first | rfl | exact absurd rfl h2
 cases b<;>simp [behindInMarks,e1,e2]
theorem Eg {op:CmpOp}{r:R2}(ho:OpR X (compareOp op) r)(ha:PE X a ta)(hb:PE X b tb)(hm:behindInMarks op b=false):PE X (.Compare a [op] [b] pos) (tOp r ta tb):=by
 intro pins s σ H Q I h;exact wpAny_Compare1 (binT ha hb I h λ v u s2 x y H2 I2 rx ry q=>ho pins s2 σ H2 x y v u Q I2 rx ry q) hm
def tTest (t:TE):TT:=λ σ H Q=>t σ H λ x H'=>∃k,x=.bl k/\Q k H'
theorem Bo {op:CmpOp}{r:R2}(ho:OpR X (compareOp op) r)(ha:PE X a ta)(hb:PE X b tb)(hm:behindInMarks op b=false):PT X (.Compare a [op] [b] pos) (tTest (tOp r ta tb)):=by
 intro pins s σ H Q I h;refine wpAny_isTrue_Compare1 (thn (ha pins s σ H _ I h) λ v s1 ⟨x,H1,I1,r1,q1⟩=>thn (hb pins s1 σ H1 _ I1 q1) λ u s2 ⟨y,H2,I2,r2,q2⟩=>
  thn (ho pins s2 σ H2 x y v u _ I2 r1 r2 q2) λ c s3 ⟨z,H3,I3,r3,k,e,q3⟩=>?_) hm
 subst e;cases r3
 exact wpAny_truthy_bool ⟨H3,I3,q3⟩
def tChain (r r':R2)(ta tb tc:TE):TE:=λ σ H Q=>ta σ H λ x H1=>tb σ H1 λ y H2=>r x y H2 λ z H3=>∃k,z=.bl k/\
 (if k=true then tc σ H3 λ w' H4=>r' y w' H4 Q else Q (.bl false) H3)
theorem oX {op op':CmpOp}{r r':R2}(ho:OpR X (compareOp op) r)(ho':OpR X (compareOp op') r')(ha:PE X a ta)(hb:PE X b tb)(hc:PE X c tc)
  (hm:lastMarks [op,op'] [b,c]=false:=by with_unfolding_all rfl):PT X (.Compare a [op,op'] [b,c] pos) (tTest (tChain r r' ta tb tc)):=by
 intro pins s σ H Q I h;refine isTrue_chain (thn (ha pins s σ H _ I h) λ v s1 ⟨x,H1,I1,r1,q1⟩=>test_link (thn (hb pins s1 σ H1 _ I1 q1) λ u s2 ⟨y,H2,I2,r2,q2⟩=>
  thn (ho pins s2 σ H2 x y v u _ I2 r1 r2 q2) λ d s3 ⟨z,H3,I3,r3,k,e,q3⟩=>?_)) hm
 subst e;cases r3
 refine wpAny_truthy_bool ?_;cases k with
 | false=>
  obtain ⟨k',e',q'⟩:=q3;cases e'
  exact ite_ff ⟨H3,I3,q'⟩
 | true=>
  refine ite_tt (test_last (thn (hc pins s3 σ H3 _ I3 q3) λ w' s4 ⟨z',H4,I4,r4,q4⟩=>thn (ho' pins s4 σ H4 y z' u w' _ I4 r2 r4 q4) λ d' s5 ⟨z2,H5,I5,r5,k2,e2,q5⟩=>?_))
  subst e2;cases r5
  exact wpAny_truthy_bool ⟨H5,I5,q5⟩
theorem line63:(sizeLine:Nat) < 2 ^ 63:=by rw [sizeLine_eq];decide
theorem vals1 {x:V}{us:List Value}(r:Vals [x] us):∃u,us=[u]/\RelV x u:=by
 cases r with
 | cons r1 r2=>cases r2;exact ⟨_,rfl,r1⟩
theorem vals2 {x y:V}{us:List Value}(r:Vals [x,y] us):∃u w',us=[u,w']/\RelV x u/\RelV y w':=by
 cases r with
 | cons r1 r2=>
  cases r2 with
  | cons r3 r4=>cases r4;exact ⟨_,_,rfl,r1,r3⟩
theorem QB:CallR X (.builtin "abs") (λ xs H Q=>∃i,xs=[.int i]/\Q (.int (if i < 0 then -i else i)) H):=by
 intro pins s σ H xs us Q I r h;obtain ⟨i,rfl,q⟩:=h;obtain ⟨u,rfl,t,rfl⟩:=vals1 r;exact call_abs_int λ u tk=>⟨.int (if i < 0 then -i else i),H,I.tok _,⟨_,rfl⟩,q⟩
theorem jW:CallR X (.type "str") (λ xs H Q=>∃i,xs=[.int i]/\i.natAbs.log2 < 1920/\Q (.str (toString i)) H):=by
 intro pins s σ H xs us Q I r h;obtain ⟨i,rfl,hz,q⟩:=h;obtain ⟨u,rfl,t,rfl⟩:=vals1 r;exact PySem.P.str_of_int hz ⟨.str _,H,I.tok _,⟨_,rfl⟩,q⟩
end
structure ObjM (h:Heap)(x dx C:Addr)(mA:Str->Option Value):Prop where
 obj:h.get? x=some (PySem.W.instObj C dx)
 ns:h.Ns1 dx mA
 ne:dx≠x
theorem cD {h:Heap}{dx:Addr}{mA:Str->Option Value}(n:h.Ns1 dx mA):∃od,h.get? dx=some od/\∀name,PySem.W.lookIn name od=some (mA name):=by
 obtain ⟨o,es,ep,ho,hd,hk,_,hm⟩:=n;refine ⟨o,ho,λ name=>?_⟩
 have e:=hm name;unfold nsFind findBy at e;rw [<- Array.find?_toList] at e;unfold PySem.W.lookIn;rw [hd];dsimp only
 split
 ·rename_i y q
  rw [q] at e;exact congrArg some e
 ·rename_i q
  rw [q] at e;have a:es.toList.any (·.refKey)=false:=by
   rw [List.any_eq_false];intro y hy;obtain ⟨z,t,hkey⟩:=hk y (Array.mem_toList_iff.mp hy);simp [DictEntry.refKey,hkey]
  have a':¬ es.toList.any (·.refKey)=true:=by rw [a];exact Bool.false_ne_true
  rw [if_neg a'];exact congrArg some e
theorem ObjM.look {h:Heap}{x dx C:Addr}{mA:Str->Option Value}(I:ObjM h x dx C mA):∃od,PySem.W.InstAt h x (PySem.W.instObj C dx) C (some od)/\∀name,PySem.W.lookIn name od=some (mA name):=
 let ⟨od,ho,hl⟩:=cD I.ns
 ⟨od,⟨I.obj,rfl,rfl,ho⟩,hl⟩
section
variable {prog:Program}{w:World}{A:Around}{E:Value->Shared->Prop}{s:Shared}{K:FrG}{x dx C f:Addr}{mA:Str->Option Value}{name:Str}{v:Value}
theorem xf {expr:Bool}{Q:Value->Shared->Prop}(X:K.In s.heap)(I:ObjM s.heap x dx C mA)(hg:PySem.W.plainGet K C name=true)(hh:PySem.W.hasDictIn K C=true)
  (ha:PySem.W.findIn K (.ref C) name=some none) (hv:mA name=some v) (hv':PySem.W.handedIn v=true) (h:Q v { s with toks:=s.toks+1 }):
  wpAny (model prog w) A (getAttr (.ref x) name expr) Q E s:=by
 obtain ⟨od,J,hl⟩:=I.look;exact PySem.W.get_value X J (PySem.W.plainGet_of hg).1 (PySem.W.findObj_own hh ha rfl (by rw [hl,hv])) hv' h
theorem yK {pl:Sem Bool}{Q:Value×List Value->Shared->Prop}(X:K.In s.heap)(I:ObjM s.heap x dx C mA)(hg:PySem.W.plainGet K C name=true)
  (hf:PySem.W.findIn K (.ref C) name=some (some (.ref f))) (ht:PySem.W.isFn K (.ref f)=true) (hv:mA name=none) (h:Q (.ref f,[.ref x]) s):
  wpAny (model prog w) A (getMethod (.ref x) name pl) Q E s:=by
 obtain ⟨od,J,hl⟩:=I.look;exact PySem.W.method_fn X J (PySem.W.plainGet_of hg).1 (PySem.W.plainGet_of hg).2 hf (beq_iff_eq.mp ht) (by show (PySem.W.lookIn name od).map (·.isSome)=some false;rw [hl,hv];rfl) h
theorem yJ {ns:List Str}{Q:Unit->Shared->Prop}(X:K.In s.heap)(I:ObjM s.heap x dx C mA)
  (hs:PySem.W.findIn K (.ref C) "__setattr__"=some (some (.builtin "object.__setattr__"))) (hp:PySem.W.plainOver K C=true) (ht:PySem.W.takerIn K C name=some none) (hh:PySem.W.hasDictIn K C=true)
  (hw:PySem.Within mA ns) (hsz:ns.length<=sizeLine)
  (h:∀h',ObjM h' x dx C (λ y=>if y=name then some v else mA y)->Heap.SameBut dx s.heap h'->Q () { s with heap:=h',toks:=s.toks+2 }):
  wpAny (model prog w) A (setAttr (.ref x) name v) Q E s:=by
 obtain ⟨od,J,hl⟩:=I.look;refine PySem.W.set_plain X J hs (PySem.W.osa_open (s:={ s with toks:=s.toks+1 }) (r:=none) X J hp ht λ b=>?_)
 obtain ⟨cd,hc,hd'⟩:=PySem.W.any_some hh;have hx:s.heap.get? x=some ⟨.ref C,some dx,.plain,#[]⟩:=I.obj;refine wpAny_bind (wpAny_pure (wpAny_bind (wpAny_bind (wpAny_loadPart hx (wpAny_bind (PySem.W.Looks.here (s:={ s with toks:=s.toks+1 }) (PySem.W.looks_clsIn X hc) ?_))))))
 rw [hd'];refine wpAny_pure (a:=some dx) (wpAny_bind (wpAny_pure (wpAny_bind ?_)));refine wpAny_nsSet1 (s:={ s with toks:=s.toks+1 }) I.ns λ h' hn2 hs2=>?_
 obtain ⟨oD,esD,epD,hoD,hdD,hcD⟩:=hn2.count (PySem.Within.cons name v hw);refine wpAny_bind (wpAny_lookBehind hoD (by rw [hdD];exact pastItsLine_dict (Nat.le_trans hcD (by rw [List.length_cons];omega))) ?_)
 exact wpAny_pure (h _ ⟨(hs2.2 _ (Ne.symm I.ne)).trans I.obj,hn2,I.ne⟩ hs2)
theorem jA {R:Result->Shared->Prop}{vs:List Value}{kw:List (Str×Value)}(X:K.In s.heap)(hm:PySem.W.makesIn K C=true)
  (hi:PySem.W.findIn K (.ref C) "__init__"=some (some (.ref f))) (hf:PySem.W.typeIn K (.ref f)=some (.type "function"))
  (h:codeAny (model prog w) (A.under (.builtin "type.__call__" ⟨.ref C::vs,kw⟩)) (.call (.ref f) ⟨.ref (s.heap.objs.size+1)::vs,kw⟩) (PySem.W.InitBack (s.heap.objs.size+1) R)
   { s with heap:=(s.heap.push PySem.W.emptyDict).push (PySem.W.instObj C s.heap.objs.size) }):
  codeAny (model prog w) A (.call (.ref C) ⟨vs,kw⟩) R s:=by
 obtain ⟨hh,g,d,t,os⟩:=s;exact PySem.W.make_core (PySem.W.makes_of X hm) (PySem.W.looks_findIn X hi) (λ self=>PySem.W.bind_fn X self hf) (.inl rfl) h
end
def putF (f:Str)(v:V):List (Str×V)->List (Str×V)
 | []=>[(f,v)]
 | (g,x)::r=>if g=f then (g,v)::r else (g,x)::putF f v r
theorem Ze (f g:Str)(v:V):∀fs:List (Str×V),(putF f v fs).lookup g=if g=f then some v else fs.lookup g
 | []=>by
  show List.lookup g [(f,v)]=_;by_cases h:g=f
  ·have hb:(g == f)=true:=beq_iff_eq.mpr h;simp only [List.lookup,hb,if_pos h]
  ·have hb:(g == f)=false:=beq_eq_false_iff_ne.mpr h;simp only [List.lookup,hb,if_neg h]
 | (k,x)::r=>by
  have ih:=Ze f g v r;rw [show putF f v ((k,x)::r)=(if k=f then (k,v)::r else (k,x)::putF f v r) from rfl]
  by_cases hk:k=f
  ·rw [if_pos hk];by_cases h:g=k
   ·have hb:(g == k)=true:=beq_iff_eq.mpr h;simp only [List.lookup,hb,if_pos (h.trans hk)]
   ·have hb:(g == k)=false:=beq_eq_false_iff_ne.mpr h;simp only [List.lookup,hb,if_neg (λ e:g=f=>h (e.trans hk.symm))]
  ·rw [if_neg hk];by_cases h:g=k
   ·have hb:(g == k)=true:=beq_iff_eq.mpr h;simp only [List.lookup,hb,if_neg (λ e:g=f=>hk (h.symm.trans e))]
   ·have hb:(g == k)=false:=beq_eq_false_iff_ne.mpr h;simp only [List.lookup,hb];exact ih
theorem Qm (f:Str)(v:V):∀fs:List (Str×V),f∈(putF f v fs).map (·.1)/\∀g,g∈fs.map (·.1)->g∈(putF f v fs).map (·.1)
 | []=>⟨by simp [putF],λ g h=>by simp at h⟩
 | (k,x)::r=>by
  obtain ⟨i1,i2⟩:=Qm f v r;rw [show putF f v ((k,x)::r)=(if k=f then (k,v)::r else (k,x)::putF f v r) from rfl]
  by_cases hk:k=f
  ·rw [if_pos hk];subst hk;exact ⟨by simp,λ g h=>by simpa using h⟩
  ·rw [if_neg hk];refine ⟨?_,λ g h=>?_⟩
   ·rw [List.map_cons];exact List.mem_cons_of_mem _ i1
   ·rw [List.map_cons] at h ⊢;rcases List.mem_cons.mp h with e | e
    ·exact List.mem_cons.mpr (.inl e)
    ·exact List.mem_cons_of_mem _ (i2 g e)
theorem YQ (f:Str)(v:V):∀fs:List (Str×V),(putF f v fs).length<=fs.length+1
 | []=>by simp [putF]
 | (k,x)::r=>by
  have ih:=YQ f v r;rw [show putF f v ((k,x)::r)=(if k=f then (k,v)::r else (k,x)::putF f v r) from rfl]
  by_cases hk:k=f
  ·rw [if_pos hk,List.length_cons,List.length_cons];omega
  ·rw [if_neg hk,List.length_cons,List.length_cons];omega
theorem RelO.some_of {v:V}{o:Option Value}(r:RelO (some v) o):∃u,o=some u/\RelV v u:=by
 cases o with
 | none=>exact (show False from r).elim
 | some u=>exact ⟨u,rfl,r⟩
theorem RelO.none_of {o:Option Value}(r:RelO none o):o=none:=by
 cases o with
 | none=>rfl
 | some u=>exact (show False from r).elim
theorem ZQ {v:V}{u:Value}(r:RelV v u):PySem.W.handedIn u=true:=by
 cases v with
 | non=>cases (show u=Value.none from r);rfl
 | bl b=>cases (show u=Value.bool b from r);rfl
 | int i=>obtain ⟨t,e⟩:=(show ∃t,u=Value.int i t from r);cases e;rfl
 | str x=>obtain ⟨t,e⟩:=(show ∃t,u=Value.str x t from r);cases e;rfl
 | byt b=>obtain ⟨t,e⟩:=(show ∃t,u=Value.bytes b t from r);cases e;rfl
 | flt b=>obtain ⟨t,e⟩:=(show ∃t,u=Value.float b t from r);cases e;rfl
 | ref a=>cases (show u=Value.ref a from r);rfl
 | ty n=>cases (show u=Value.type n from r);rfl
section
variable {P:Program}{w:World}{H H':Hp}{h h':Heap}{a C dx:Addr}{fs fs':List (Str×V)}
theorem N6 (hok:HOk P w H h)(e:H a=some (.ins C dx fs)):∃mA,ObjM h a dx C mA/\(∀f,RelO (fs.lookup f) (mA f))/\PySem.Within mA (fs.map (·.1))/\fs.length<=1000/\H dx=some (.own a):=by
 obtain ⟨d,z,ne,ob,mA,n,r,q⟩:=(show ObjOk P w H h a (.ins C dx fs) from hok a _ e)
 exact ⟨mA,⟨ob,n,ne⟩,r,q,z,d⟩
end
structure Cls (K:FrG)(C:Addr):Prop where
 pg:PySem.W.plainGet K C Str.empty=true
 hd:PySem.W.hasDictIn K C=true
 po:PySem.W.plainOver K C=true
 sa:PySem.W.findIn K (.ref C) "__setattr__"=some (some (.builtin "object.__setattr__"))
theorem Cls.get {K:FrG}{C:Addr}(c:Cls K C)(f:Str):PySem.W.plainGet K C f=true:=c.pg
def NoAttr (K:FrG)(C:Addr)(f:Str):Prop:=PySem.W.findIn K (.ref C) f=some none
theorem NoAttr.taker {K:FrG}{C:Addr}{f:Str}(n:NoAttr K C f):PySem.W.takerIn K C f=some none:=by
 unfold PySem.W.takerIn;rw [show PySem.W.findIn K (.ref C) f=some none from n]
 rfl
structure Meth (K:FrG)(C:Addr)(m:Str)(f:Addr):Prop where
 at_:PySem.W.findIn K (.ref C) m=some (some (.ref f))
 fn:PySem.W.isFn K (.ref f)=true
 kp:PySem.W.keepIn K (.ref f)=true
section
variable {X:Cx}{pins:List (Addr×Obj)}{σ:St}{H:Hp}{s:Shared}{a C dx:Addr}{fs:List (Str×V)}{f:Str}{v:V}{A:Around}{E:Value->Shared->Prop}
theorem Xf {b:Bool}{Q:Value->Shared->Prop}(I:Inv X pins σ H s)(e:H a=some (.ins C dx fs))(c:Cls X.K C)(n:NoAttr X.K C f)(l:fs.lookup f=some v)
  (h:∀u s',Inv X pins σ H s'->RelV v u->Q u s'):wpAny (model X.prog X.w) A (getAttr (.ref a) f b) Q E s:=by
 obtain ⟨mA,O,r,_,_,_⟩:=N6 I.hok e;obtain ⟨u,hu,ru⟩:=RelO.some_of (v:=v) (o:=mA f) (by rw [<- l];exact r f)
 exact xf I.kIn O (c.get f) c.hd n hu (ZQ ru) (h u _ (I.tok _) ru)
theorem Xo {m:Str}{g:Addr}{pl:Sem Bool}{Q:Value×List Value->Shared->Prop}(I:Inv X pins σ H s)(e:H a=some (.ins C dx fs))(c:Cls X.K C)(k:Meth X.K C m g)(l:fs.lookup m=none)
  (h:Q (.ref g,[.ref a]) s):wpAny (model X.prog X.w) A (getMethod (.ref a) m pl) Q E s:=by
 obtain ⟨mA,O,r,_,_,_⟩:=N6 I.hok e;have hn:mA m=none:=RelO.none_of (by rw [<- l];exact r m)
 exact yK I.kIn O (c.get m) k.at_ k.fn hn h
theorem Ye {y:V}{u:Value}{Q:Unit->Shared->Prop}(I:Inv X pins σ H s)(e:H a=some (.ins C dx fs))(c:Cls X.K C)(n:NoAttr X.K C f)(hl:fs.length < 1000)(ry:RelV y u)
  (h:∀s',Inv X pins σ (upd H a (.ins C dx (putF f y fs))) s'->Q () s'):wpAny (model X.prog X.w) A (setAttr (.ref a) f u) Q E s:=by
 obtain ⟨mA,O,r,wi,_,ho⟩:=N6 I.hok e;have hz:(fs.map (·.1)).length<=sizeLine:=by rw [List.length_map,sizeLine_eq];omega
 refine yJ I.kIn O c.sa c.po n.taker c.hd wi hz λ h' O' sb=>h _ ?_
 have hd:∃o,h'.get? dx=some o:=let ⟨o,_,_,e',_⟩:=O'.ns;⟨o,e'⟩
 refine I.write (x:=a) (e:=dx) (by rw [e];exact True.intro) (.inr ho) (λ b q hb z=>(sb.2 b hb).trans z) hd ?_
 refine ⟨by rw [Av O.ne];exact ho,?_,O.ne,O'.obj,_,O'.ns,λ g=>?_,λ g hg=>?_⟩
 ·have:=YQ f y fs;omega
 ·show RelO ((putF f y fs).lookup g) (if g=f then some u else mA g)
  rw [Ze];by_cases q:g=f
  ·rw [if_pos q,if_pos q];exact ry
  ·rw [if_neg q,if_neg q];exact r g
 ·by_cases q:g=f
  ·rw [q];exact (Qm f y fs).1
  ·refine (Qm f y fs).2 g (wi g λ z=>hg ?_)
   show (if g=f then some u else mA g)=none
   rw [if_neg q];exact z
theorem Inv.made (I:Inv X pins σ H s):Inv X pins σ (upd (upd H s.heap.objs.size (.own (s.heap.objs.size+1))) (s.heap.objs.size+1) (.ins C s.heap.objs.size []))
  { s with heap:=(s.heap.push PySem.W.emptyDict).push (PySem.W.instObj C s.heap.objs.size) }:=by
 have e1:(s.heap.push PySem.W.emptyDict).get? s.heap.objs.size=some PySem.W.emptyDict:=Heap.get?_push_size s.heap rfl;have e2:((s.heap.push PySem.W.emptyDict).push (PySem.W.instObj C s.heap.objs.size)).get? (s.heap.objs.size+1)=some (PySem.W.instObj C s.heap.objs.size):=by
  have:=Heap.get?_push_size (s.heap.push PySem.W.emptyDict) (o:=PySem.W.instObj C s.heap.objs.size) rfl
  rwa [Heap.size_push] at this
 have e3:(s.heap.push PySem.W.emptyDict).Ns s.heap.objs.size (λ _=>none):=⟨PySem.W.emptyDict,#[],_,e1,rfl,(λ e he=>absurd he (by simp)),λ _=>rfl⟩
 have I1:=I.laid (a:=s.heap.objs.size) (o:=.own (s.heap.objs.size+1)) (h':=s.heap.push PySem.W.emptyDict) (t':=s.toks) (λ b u q=>Heap.get?_push_of_some _ q) (Nat.le_refl _) ⟨_,e1⟩
 refine I1.laid (a:=s.heap.objs.size+1) (o:=.ins C s.heap.objs.size []) (t':=s.toks) (λ b u q=>Heap.get?_push_of_some _ q) (Nat.le_of_eq (Heap.size_push _ _)) ?_
 have ne:s.heap.objs.size≠s.heap.objs.size+1:=Nat.ne_of_lt (Nat.lt_succ_self _);refine ⟨by rw [Av ne,Aq],Nat.zero_le _,ne,e2,λ _=>none,(Heap.Ns1.of_empty e3).at λ o q=>Heap.get?_push_of_some _ q,λ _=>True.intro,λ y hy=>absurd rfl hy⟩
theorem Yo {prog:Program}{w:World}{env:Env}{e:Expr}{f:Str}{pos:Pos}{s:Shared}{Q:Value->Shared->Prop}(hb:attributeBase e f env (eval e env)=eval e env)
  (h:wpAny (model prog w) A (eval e env) (λ o s₁=>wpAny (model prog w) A (getAttr o f true) Q E s₁) E s):wpAny (model prog w) A (eval (.Attribute e f pos) env) Q E s:=
 Attribute_any_ h (by rw [arm_eval_Attribute,hb])
end
def tFld (K:FrG)(ta:TE)(f:Str):TE:=λ σ H Q=>ta σ H λ x H1=>∃a C dx fs v,x=.ref a/\H1 a=some (.ins C dx fs)/\Cls K C/\NoAttr K C f/\fs.lookup f=some v/\Q v H1
def sFld (K:FrG)(ta tv:TE)(f:Str):TS:=λ D σ H=>tv σ H λ y H1=>ta σ H1 λ x H2=>∃a C dx fs,x=.ref a/\H2 a=some (.ins C dx fs)/\Cls K C/\NoAttr K C f/\fs.length < 1000/\
 D.nx σ (upd H2 a (.ins C dx (putF f y fs)))
def InOp (X:Cx)(op:Operator)(rd:V->V->Hp->VK->Prop):Prop:=
 ∀(pins:List (Addr×Obj)) (s:Shared) (σ:St) (H:Hp) (x y:V) (u v:Value) (Q:VK),Inv X pins σ H s->RelV x u->RelV y v->rd x y H Q->wpAny (model X.prog X.w) X.A (inplaceOp op u v) (EP X pins σ Q) X.xe s
def sFldAug (K:FrG)(ta tv:TE)(rd:V->V->Hp->VK->Prop)(f:Str):TS:=λ D σ H=>ta σ H λ x H1=>∃a C dx fs v,x=.ref a/\H1 a=some (.ins C dx fs)/\Cls K C/\NoAttr K C f/\fs.lookup f=some v/\
 tv σ H1 λ y H2=>rd v y H2 λ z H3=>∃dx' fs',H3 a=some (.ins C dx' fs')/\fs'.length < 1000/\D.nx σ (upd H3 a (.ins C dx' (putF f z fs')))
section
variable {X:Cx}{o e value:Expr}{f:Str}{pos pos' tpos:Pos}{ta tv:TE}
theorem uA (he:PE X e ta)(hb:attributeBase e f X.env (eval e X.env)=eval e X.env):PE X (.Attribute e f pos) (tFld X.K ta f):=by
 intro pins s σ H Q I h;refine Yo hb (thn (he pins s σ H _ I h) λ u s1 ⟨x,H1,I1,rx,a,C,dx,fs,v,ex,ea,c,n,l,q⟩=>?_)
 subst ex;obtain rfl:u=Value.ref a:=rx;exact Xf I1 ea c n l λ u' s2 I2 ru=>⟨v,H1,I2,ru,q⟩
theorem lU (ha:PE X o ta)(hv:PE X value tv)(hs:swapsWith value (some (.Attribute o f pos')) pos.line X.env=pure false):PS X (.Assign [.Attribute o f pos'] value pos) (sFld X.K ta tv f):=by
 intro pins s σ H D I h;refine plainObj_wpAny_Assign_Attribute (thn (hv pins s σ H _ I h) λ u s1 ⟨y,H1,I1,ry,q⟩=>thn (ha pins s1 σ H1 _ I1 q) λ ov s2 ⟨x,H2,I2,rx,a,C,dx,fs,ex,ea,c,n,l,q2⟩=>?_) hs
 subst ex;obtain rfl:ov=Value.ref a:=rx;exact Ye I2 ea c n l ry λ s3 I3=>⟨σ,_,I3,q2⟩
theorem ZC {op:Operator}{rd:V->V->Hp->VK->Prop}(ha:PE X o ta)(hv:PE X value tv)(hop:InOp X op rd):PS X (.AugAssign (.Attribute o f tpos) op value pos) (sFldAug X.K ta tv rd f):=by
 intro pins s σ H D I h;refine wpAny_AugAssign_AttributeAny (thn (ha pins s σ H _ I h) λ ov s1 ⟨x,H1,I1,rx,a,C,dx,fs,v,ex,ea,c,n,l,q⟩=>?_)
 subst ex;obtain rfl:ov=Value.ref a:=rx;refine Xf I1 ea c n l λ u s2 I2 ru=>thn (hv pins s2 σ H1 _ I2 q) λ w3 s3 ⟨y,H2,I3,ry,q3⟩=>thn (hop pins s3 σ H2 v y u w3 _ I3 ru ry q3) λ w4 s4 ⟨z,H3,I4,rz,dx',fs',ea',l',q4⟩=>?_
 exact Ye I4 ea' c n l' rz λ s5 I5=>⟨σ,_,I5,q4⟩
def rAdd:V->V->Hp->VK->Prop:=λ x y H Q=>∃i j,x=.int i/\y=.int j/\Q (.int (i+j)) H
theorem cz:InOp X .Add rAdd:=by
 rintro pins s σ H x y u v Q I rx ry ⟨i,j,rfl,rfl,q⟩
 obtain ⟨t,rfl⟩:=(show ∃t,u=Value.int i t from rx)
 obtain ⟨t',rfl⟩:=(show ∃t',v=Value.int j t' from ry)
 exact PyProof.Rows.iadd_int ⟨.int (i+j),H,I.tok _,⟨_,rfl⟩,q⟩
end
section
variable {X:Cx}{pins:List (Addr×Obj)}{σ:St}{H:Hp}{s:Shared}{A:Around}{E:Value->Shared->Prop}{Q:Value->Shared->Prop}{c:Value}{b:Bool}
inductive TyOf (K:FrG)(H:Hp):V->Value->Prop where
 | non:TyOf K H .non (.type "NoneType")
 | bl (x:Bool):TyOf K H (.bl x) (.type "bool")
 | int (i:Int):TyOf K H (.int i) (.type "int")
 | str (x:Str):TyOf K H (.str x) (.type "str")
 | flt (x:UInt64):TyOf K H (.flt x) (.type "float")
 | lst {a:Addr} {xs:List V} (e:H a=some (.lst xs)):TyOf K H (.ref a) (.type "list")
 | frz {a:Addr} {o:Obj} {xs:List V} (e:H a=some (.frz o (.lst xs))):TyOf K H (.ref a) (.type "list")
 | tup {a:Addr} {xs:List V} (e:H a=some (.tup xs)):TyOf K H (.ref a) (.type "tuple")
 | dK {a:Addr} {kvs:List (Key×V)} (e:H a=some (.dK kvs)):TyOf K H (.ref a) (.type "dict")
 | dT {a:Addr} {kvs:List (List Key×V)} (e:H a=some (.dT kvs)):TyOf K H (.ref a) (.type "dict")
 | ins {a C dx:Addr} {fs:List (Str×V)} (e:H a=some (.ins C dx fs)) (cl:Cls K C) (ha:PySem.W.findIn K (.ref C) "__class__"=some (some (.builtin "object.__class__")))
   (hn:PySem.W.specialIn K (.builtin "object.__class__") "__get__"=some (some (.builtin "getset_descriptor.__get__"))) (htk:PySem.W.takesIn K (.builtin "object.__class__")=some true)
   (hm:PySem.W.mroIn K C (.type "object")=some true):TyOf K H (.ref a) (.ref C)
theorem Lx {x:V}{u t:Value}(I:Inv X pins σ H s)(rx:RelV x u)(ty:TyOf X.K H x t)(e:PySem.W.kitOne X.K t c=some b)(h:∀tk,Q (.bool b) { s with toks:=tk }):
  wpAny (model X.prog X.w) A (call (.builtin "isinstance") [u,c]) Q E s:=by
 cases ty with
 | non=>cases (show u=Value.none from rx);exact PySem.W.kia_one PySem.W.kitx_none I.kIn True.intro e (λ z=>nomatch z) h
 | bl y=>cases (show u=Value.bool y from rx);exact PySem.W.kia_one PySem.W.kitx_bool I.kIn True.intro e (λ z=>nomatch z) h
 | int i=>obtain ⟨t,q⟩:=(show ∃t,u=Value.int i t from rx);cases q;exact PySem.W.kia_one PySem.W.kitx_int I.kIn True.intro e (λ z=>nomatch z) h
 | str y=>obtain ⟨t,q⟩:=(show ∃t,u=Value.str y t from rx);cases q;exact PySem.W.kia_one PySem.W.kitx_str I.kIn True.intro e (λ z=>nomatch z) h
 | flt y=>obtain ⟨t,q⟩:=(show ∃t,u=Value.float y t from rx);cases q;exact PySem.W.kia_one PySem.W.kitx_float I.kIn True.intro e (λ z=>nomatch z) h
 | @lst a xs ea=>
  cases (show u=Value.ref a from rx)
  obtain ⟨_,_,n,_,h1⟩:=(show ObjOk X.prog X.w H s.heap a (.lst xs) from I.hok a _ ea)
  exact PySem.W.kia_one PySem.W.kitx_list I.kIn ⟨_,h1,rfl⟩ e (λ z=>nomatch z) h
 | @frz a ob xs ea=>
  cases (show u=Value.ref a from rx)
  obtain ⟨_,_,_,n,_,h1⟩:=(show ObjOk X.prog X.w H s.heap a (.frz ob (.lst xs)) from I.hok a _ ea)
  exact PySem.W.kia_one PySem.W.kitx_list I.kIn ⟨_,h1,rfl⟩ e (λ z=>nomatch z) h
 | @tup a xs ea=>
  cases (show u=Value.ref a from rx)
  obtain ⟨_,_,_,p⟩:=(show ObjOk X.prog X.w H s.heap a (.tup xs) from I.hok a _ ea)
  obtain ⟨o,h1,h2,_⟩:=p;exact PySem.W.kia_one PySem.W.kitx_tuple I.kIn ⟨o,h1,h2⟩ e (λ z=>nomatch z) h
 | @dK a kvs ea=>
  cases (show u=Value.ref a from rx)
  obtain ⟨_,_,vs,_,p⟩:=(show ObjOk X.prog X.w H s.heap a (.dK kvs) from I.hok a _ ea)
  obtain ⟨o,es,ep,h1,h2,_⟩:=p;exact PySem.W.kia_one PySem.W.kitx_dict I.kIn ⟨o,h1,h2.1⟩ e (λ z=>nomatch z) h
 | @dT a kvs ea=>
  cases (show u=Value.ref a from rx)
  obtain ⟨_,_,xs,_,o,es,ep,h1,h2,_⟩:=(show ObjOk X.prog X.w H s.heap a (.dT kvs) from I.hok a _ ea)
  exact PySem.W.kia_one PySem.W.kitx_dict I.kIn ⟨o,h1,h2.1⟩ e (λ z=>nomatch z) h
 | @ins a C dx fs ea cl ha hn htk hm=>
  cases (show u=Value.ref a from rx)
  obtain ⟨mA,O,_⟩:=N6 I.hok ea;obtain ⟨od,J,_⟩:=O.look;exact PySem.W.kia_one (PySem.W.kitx_own (cl.get _) cl.hd ha hn htk hm) I.kIn J e (λ z=>nomatch z) h
end
structure Room (k:Nat)(A:Around):Prop where
 hd:A.handled=none
 dp:A.depth+3 * k+5 < recursionLimit
 un:A.units+16 * k+200 < cLine
theorem rO {A:Around}{C:Addr}{us:List Value}{kw:List (Str×Value)}:(A.under (.builtin "type.__call__" ⟨.ref C::us,kw⟩)).depth=A.depth+1:=by
 first | rfl | simp [Around.under,Code.weight,Code.isCreation,Code.isGuard,Code.isCaller,Code.frames,Code.isFrame,guardIds]
theorem gG {A:Around}{C:Addr}{us:List Value}{kw:List (Str×Value)}:(A.under (.builtin "type.__call__" ⟨.ref C::us,kw⟩)).units=A.units+1:=by
 first | rfl | simp [Around.under,Code.cUnits,Code.frames,Code.isFrame]
theorem Room.make {k:Nat}{A:Around}(r:Room (k+1) A)(C:Addr)(us:List Value)(kw:List (Str×Value)):Room k (A.under (.builtin "type.__call__" ⟨.ref C::us,kw⟩)):=
 ⟨r.hd,by have:=r.dp;rw [rO];omega,by have:=r.un;rw [gG];omega⟩
def tNil:TA:=λ _ H Q=>Q [] H
def tCons (ta:TE)(tr:TA):TA:=λ σ H Q=>ta σ H λ x H1=>tr σ H1 λ xs H2=>Q (x::xs) H2
section
variable {X:Cx}{e:Expr}{es:List Expr}{te:TE}{t:TA}{pos:Pos}
theorem Ab:PA X [] tNil:=λ _ _ _ _ H Q I h=>Calls.spliced_nil ⟨[],H,I,.nil,h⟩
theorem Dn (ha:PE X e te)(hr:PA X es t)(hs:starEach (e::es) X.env=(false,eval e X.env)::starEach es X.env:=by rfl):PA X (e::es) (tCons te t):=by
 intro pos pins s σ H Q I h;rw [hs];show wpAny _ _ (spliced ((false,eval e X.env)::backTo pos (starEach es X.env))) _ _ s;refine Calls.spliced_cons (thn (ha pins s σ H _ I h) λ u s1 ⟨x,H1,I1,r1,q1⟩=>?_)
 exact thn (hr pos pins s1 σ H1 _ I1 q1) λ us s2 ⟨xs,H2,I2,r2,q2⟩=>⟨x::xs,H2,I2,.cons r1 r2,q2⟩
def tTup (t:TA):TE:=λ σ H Q=>t σ H λ xs H1=>xs.length<=sizeLine/\∀p,H1 p=none->Q (.ref p) (upd H1 p (.tup xs))
def tLst (t:TA):TE:=λ σ H Q=>t σ H λ xs H1=>xs.length<=sizeLine/\∀p,H1 p=none->Q (.ref p) (upd H1 p (.lst xs))
theorem BK {x1}(h:PA X es t):PE X (.Tuple es x1 pos) (tTup t):=by
 intro pins s σ H Q I hq;refine wpAny_Tuple_spliced (thn (h pos pins s σ H _ I hq) λ us s1 ⟨xs,H1,I1,r,z,q⟩=>⟨by rw [<- r.length];exact z,?_⟩)
 have hf:H1 s1.heap.objs.size=none:=I1.hok.fresh (Nat.le_refl _);refine ⟨.ref s1.heap.objs.size,upd H1 s1.heap.objs.size (.tup xs),I1.laid (t':=s1.toks) (λ b u e=>Heap.get?_push_of_some _ e) (Nat.le_refl _) ?_,rfl,q _ hf⟩
 exact ⟨z,us,r,⟨_,Heap.get?_push_size _ rfl,rfl,_,rfl⟩⟩
theorem Cg (h:PA X es t):PE X (.List es pos) (tLst t):=by
 intro pins s σ H Q I hq;refine wpAny_List_spliced (thn (h pos pins s σ H _ I hq) λ us s1 ⟨xs,H1,I1,r,z,q⟩=>⟨by rw [<- r.length];exact z,?_⟩)
 have hf:H1 s1.heap.objs.size=none:=I1.hok.fresh (Nat.le_refl _);refine ⟨.ref s1.heap.objs.size,upd H1 s1.heap.objs.size (.lst xs),I1.laid (t':=s1.toks) (λ b u e=>Heap.get?_push_of_some _ e) (Nat.le_refl _) ?_,rfl,q _ hf⟩
 exact ⟨z,us,0,r,Heap.get?_push_size _ rfl⟩
end
abbrev Sp:=List V->Hp->VK->XK->Prop
abbrev CXT:=List Env->Hp->Shared->XK->Value->Shared->Prop
structure Env0 (P:Program)(w:World)(K:FrG)(mg:Str->Option Value)(base:Heap)(A:Around)(outer:List Env)(s:Shared)(H:Hp):Prop where
 frames:A.frames=some outer
 mod:Mod K mg base
 bs:∀b o,base.get? b=some o->s.heap.get? b=some o/\H b=none
 bsz:base.objs.size<=s.heap.objs.size
 funs:s.heap.FunFrames base outer
 frf:∀b∈frs outer,H b=none
 hok:HOk P w H s.heap
 bare:AllBare s.gens
def CE (outer:List Env)(P:Program)(w:World)(H:Hp)(s:Shared)(Q:VK)(u:Value)(s':Shared):Prop:=
 ∃v H',s'.os=s.os/\AllBare s'.gens/\Un (frs outer) [] H H' s.heap s'.heap/\HOk P w H' s'.heap/\RelV v u/\Q v H'
def CR (CX:CXT)(outer:List Env)(P:Program)(w:World)(H:Hp)(s:Shared)(Q:VK)(E:XK)(r:Result)(s':Shared):Prop:=
 match r with
 | .ok (.ret u)=>CE outer P w H s Q u s'
 | .ok _=>False
 | .error e=>CX outer H s E e s'
structure FnOk (P:Program)(w:World)(K:FrG)(mg:Str->Option Value)(base:Heap)(CX:CXT)(k:Nat)(f:Addr)(fd:FuncData)(ps:List Str)(sp:Sp):Prop where
 len:∀vs H Q E,sp vs H Q E->vs.length=ps.length
 run:∀(A:Around) (outer:List Env) (s:Shared) (H:Hp) (args:Args) (us:List Value) (vs:List V) (Q:VK) (E:XK),Room k A->Env0 P w K mg base A outer s H->BindsTo s fd args (ps.zip us)->Vals vs us->sp vs H Q E->
  codeAny (model P w) A (.call (.ref f) args) (CR CX outer P w H s Q E) s
theorem Env0.make {P:Program}{w:World}{K:FrG}{mg:Str->Option Value}{base:Heap}{A:Around}{outer:List Env}{s:Shared}{H:Hp}(e:Env0 P w K mg base A outer s H)(C:Addr)(us:List Value)(kw:List (Str×Value)):
  Env0 P w K mg base (A.under (.builtin "type.__call__" ⟨.ref C::us,kw⟩)) outer s H:=⟨by first | exact e.frames | (simpa [Around.under,Code.envs,Code.isFrame,pushEnvs] using e.frames),e.mod,e.bs,e.bsz,e.funs,e.frf,e.hok,e.bare⟩
section
variable {X:Cx}{pins:List (Addr×Obj)}{σ:St}{H:Hp}{s s':Shared}
theorem Inv.env0 (I:Inv X pins σ H s):Env0 X.prog X.w X.K X.mg X.base X.A X.stack s H:=
 ⟨I.ok.frames,I.ok.mod,I.bs,Nat.le_trans I.ok.bsz I.sz,I.stack,I.stkFree,I.hok,I.bare⟩
theorem Inv.after {Q:VK}{u:Value}(I:Inv X pins σ H s)(h:CE X.stack X.prog X.w H s Q u s'):EP X pins σ Q u s':=by
 obtain ⟨v,H',os,bare,un,hok,r,q⟩:=h;obtain ⟨hh,g,d,t,os'⟩:=s';obtain rfl:os'=s.os:=os;exact ⟨v,H',I.call (h':=hh) (g':=g) (d':=d) (t':=t) (ch:=[]) un hok bare (λ b z=>absurd z (by simp)),r,q⟩
end
def tCall (sp:Sp)(dvs:List V)(E:XK)(t:TA):TE:=λ σ H Q=>t σ H λ vs H1=>sp (vs++dvs) H1 Q E
def tMake (C:Addr)(sp:Sp)(dvs:List V)(E:XK)(t:TA):TE:=λ σ H Q=>t σ H λ vs H1=>∀x dx,H1 x=none->H1 dx=none->dx≠x->
 sp (.ref x::(vs++dvs)) (upd (upd H1 dx (.own x)) x (.ins C dx [])) (λ v H2=>v=.non/\Q (.ref x) H2) E
def Binds (K:FrG)(fd:FuncData)(ps:List Str)(ds:List Value):Prop:=
 ∀(s:Shared) (us:List Value),K.In s.heap->(us++ds).length=ps.length->BindsTo s fd ⟨us,[]⟩ (ps.zip (us++ds))
theorem Binds.all {K:FrG}{fd:FuncData}{ps:List Str}(h:∀us:List Value,us.length=ps.length->bindArgs fd ⟨us,[]⟩=pure (ps.zip us)):Binds K fd ps []:=λ s us _ hl=>by
 rw [List.append_nil] at hl ⊢;exact .of_eq (h us hl)
def Passes (CX:CXT)(X:Cx)(E:XK):Prop:=∀(pins:List (Addr×Obj)) (σ:St) (H:Hp) (s:Shared) (e:Value) (s':Shared),Inv X pins σ H s->CX X.stack H s E e s'->X.xe e s'
section
variable {X:Cx}{CX:CXT}{k:Nat}{f C:Addr}{fd:FuncData}{ps:List Str}{sp:Sp}{dvs:List V}{ds:List Value}{E:XK}{x m:Str}{p pos apos:Pos}{e o:Expr}{es:List Expr}{ta:TE}{t:TA}
theorem Xb {pins:List (Addr×Obj)}{σ:St}{H:Hp}{s:Shared}{Q:VK}{us:List Value}{vs:List V}(F:FnOk X.prog X.w X.K X.mg X.base CX k f fd ps sp)(hr:Room k X.A)(hb:Binds X.K fd ps ds)(hd:Vals dvs ds)(hx:Passes CX X E)
  (I:Inv X pins σ H s) (r:Vals vs us) (h:sp (vs++dvs) H Q E):wpAny (model X.prog X.w) X.A (call (.ref f) us) (EP X pins σ Q) X.xe s:=by
 have r2:Vals (vs++dvs) (us++ds):=r.append hd;have hl:(us++ds).length=ps.length:=by rw [<- r2.length];exact F.len _ _ _ _ h
 refine wpAny_call (codeAny_mono (F.run X.A X.stack s H ⟨us,[]⟩ (us++ds) (vs++dvs) Q E hr I.env0 (hb s us I.kIn hl) r2 h) λ r s' hq=>?_)
 cases r with
 | error e=>exact hx pins σ H s e s' I hq
 | ok fl=>
  cases fl with
  | ret u=>exact I.after hq
  | next=>exact False.elim hq
  | brk=>exact False.elim hq
  | cont=>exact False.elim hq
structure Mk (K:FrG)(C f:Addr):Prop where
 makes:PySem.W.makesIn K C=true
 init:PySem.W.findIn K (.ref C) "__init__"=some (some (.ref f))
 fn:PySem.W.isFn K (.ref f)=true
 kp:PySem.W.keepIn K (.ref C)=true
theorem j5 {pins:List (Addr×Obj)}{σ:St}{H:Hp}{s:Shared}{Q:VK}{us:List Value}{vs:List V}(M:Mk X.K C f)(F:FnOk X.prog X.w X.K X.mg X.base CX k f fd ps sp)(hr:Room (k+1) X.A)(hb:Binds X.K fd ps ds)(hd:Vals dvs ds)
  (hx:Passes CX X E) (I:Inv X pins σ H s) (r:Vals vs us)
  (h:∀x dx,H x=none->H dx=none->dx≠x->sp (.ref x::(vs++dvs)) (upd (upd H dx (.own x)) x (.ins C dx [])) (λ v H2=>v=.non/\Q (.ref x) H2) E):
  wpAny (model X.prog X.w) X.A (call (.ref C) us) (EP X pins σ Q) X.xe s:=by
 have hq:=h (s.heap.objs.size+1) s.heap.objs.size (I.hok.fresh (Nat.le_succ _)) (I.hok.fresh (Nat.le_refl _)) (Nat.ne_of_lt (Nat.lt_succ_self _));have I2:=Inv.made (C:=C) I;have r2:Vals (V.ref (s.heap.objs.size+1)::(vs++dvs)) (Value.ref (s.heap.objs.size+1)::(us++ds)):=.cons rfl (r.append hd);have hl:(Value.ref (s.heap.objs.size+1)::us++ds).length=ps.length:=by
  have e:=r2.length;rw [F.len _ _ _ _ hq] at e;exact e.symm
 refine wpAny_call (jA (f:=f) I.kIn M.makes M.init (beq_iff_eq.mp M.fn) (codeAny_mono (F.run _ X.stack _ _ ⟨Value.ref (s.heap.objs.size+1)::us,[]⟩ (Value.ref (s.heap.objs.size+1)::(us++ds)) _ _ E (hr.make C us [])
  (I2.env0.make C us []) (hb _ (Value.ref (s.heap.objs.size+1)::us) I2.kIn hl) r2 hq) λ r s' hq'=>?_))
 cases r with
 | error e=>exact hx pins σ _ _ e s' I2 hq'
 | ok fl=>
  cases fl with
  | ret u=>
   obtain ⟨v,H',I3,rv,ev,q3⟩:=I2.after hq';subst ev;exact ⟨rv,⟨V.ref (s.heap.objs.size+1),H',I3,rfl,q3⟩⟩
  | next=>exact False.elim hq'
  | brk=>exact False.elim hq'
  | cont=>exact False.elim hq'
theorem yC (M:Mk X.K C f)(F:FnOk X.prog X.w X.K X.mg X.base CX k f fd ps sp)(hr:Room (k+1) X.A)(hg:Gl X x)(hm:X.mg x=some (.ref C))(hb:Binds X.K fd ps ds)(hd:Vals dvs ds)(hx:Passes CX X E)
  (ha:PA X (e::es) t) (hdb:(x == ("__debug__":Str))=false:=by decide) (he:starEach (e::es) X.env=(false,eval e X.env)::starEach es X.env:=by rfl) (hpl:(backTo pos (starEach es X.env)).any (·.1)=false:=by rfl):
  PE X (.Call (.Name x p) (e::es) [] pos) (tMake C sp dvs E t):=by
 intro pins s σ H Q I h;refine wpAny_Call_Name_kw (Hw I hg hm ?_ hdb);refine PySem.W.callWith_K (h₀:=X.base) I.ok.mod.kin M.kp (thn (ha pos pins s σ H _ I h) λ us s1 ⟨vs,H1,I1,r,q⟩=>⟨I1.kIn,?_⟩) he hpl
 exact j5 M F hr hb hd hx I1 r q
end
structure FnScope (N P:List Str)(sc:Scope):Prop where
 kind:sc.kind=.function
 co:sc.isCoroutine=false
 gen:sc.isGenerator=false
 nd:N.Nodup
 pre:N.take P.length=P
 par:∀x∈P,sc.names.lookup x=some .local\/sc.names.lookup x=some .cell
 nofree:∀y∈sc.names,y.2≠.free
theorem aZ {kindOf:Str->Option NameKind}{x:Str}:∀{binds:List (Str×Value)} {m:Str->Option Value},(∀v,(x,v)∉binds)->bindL kindOf binds m x=m x
 | [],_,_=>rfl
 | (n,v)::r,m,h=>by
  unfold bindL;rw [aZ λ w hw=>h w (List.mem_cons_of_mem _ hw)]
  split
  ·have:x≠n:=by rintro rfl;exact h v List.mem_cons_self
   simp [this]
  ·rfl
theorem aA {kindOf:Str->Option NameKind}{x:Str}:∀{binds:List (Str×Value)} {m:Str->Option Value},(∀v,(x,v)∉binds)->bindC kindOf binds m x=m x
 | [],_,_=>rfl
 | (n,v)::r,m,h=>by
  unfold bindC;rw [aA λ w hw=>h w (List.mem_cons_of_mem _ hw)]
  split
  ·rfl
  ·have:x≠n:=by rintro rfl;exact h v List.mem_cons_self
   simp [this]
theorem bw {kindOf:Str->Option NameKind}{x:Str}{v:Value}:∀{P:List Str} {vs:List Value} {i:Nat} {m:Str->Option Value},P.Nodup->P[i]?=some x->vs[i]?=some v->kindOf x=some .local->
  bindL kindOf (P.zip vs) m x=some v
 | [],_,_,_,_,h,_,_=>by simp at h
 | _::_,[],_,_,_,_,h,_=>by simp at h
 | p::P,w::vs,0,m,nd,h1,h2,hk=>by
  simp at h1 h2;subst h1;subst h2
  show bindL kindOf ((p,w)::P.zip vs) m p=_;unfold bindL;rw [aZ λ v hv=>(List.nodup_cons.mp nd).1 (List.of_mem_zip hv).1,if_pos hk]
  simp
 | p::P,w::vs,i+1,m,nd,h1,h2,hk=>by
  show bindL kindOf ((p,w)::P.zip vs) m x=_;unfold bindL;exact bw (i:=i) (List.nodup_cons.mp nd).2 (by simpa using h1) (by simpa using h2) hk
theorem cB {kindOf:Str->Option NameKind}{x:Str}{v:Value}:∀{P:List Str} {vs:List Value} {i:Nat} {m:Str->Option Value},P.Nodup->P[i]?=some x->vs[i]?=some v->kindOf x≠some .local->
  bindC kindOf (P.zip vs) m x=some v
 | [],_,_,_,_,h,_,_=>by simp at h
 | _::_,[],_,_,_,_,h,_=>by simp at h
 | p::P,w::vs,0,m,nd,h1,h2,hk=>by
  simp at h1 h2;subst h1;subst h2
  show bindC kindOf ((p,w)::P.zip vs) m p=_;unfold bindC;rw [aA λ v hv=>(List.nodup_cons.mp nd).1 (List.of_mem_zip hv).1,if_neg hk]
  simp
 | p::P,w::vs,i+1,m,nd,h1,h2,hk=>by
  show bindC kindOf ((p,w)::P.zip vs) m x=_;unfold bindC;exact cB (i:=i) (List.nodup_cons.mp nd).2 (by simpa using h1) (by simpa using h2) hk
def start (N:List Str)(vs:List V):St:=vs.map some++List.replicate (N.length - vs.length) none
def cxOf (CX:CXT)(P:Program)(w:World)(K:FrG)(mg:Str->Option Value)(base:Heap)(N:List Str)(qual:Str)(scope:Scope)(f:Addr)(cd:Value)(A:Around)(outer:List Env)(s:Shared)(H:Hp)(E:XK):Cx where
 prog:=P
 w:=w
 K:=K
 mg:=mg
 base:=base
 A:=A.deeper (envOfC qual scope s.heap.objs.size f cd)
 N:=N
 s₀:=s
 H₀:=H
 env:=envOfC qual scope s.heap.objs.size f cd
 outer:=outer
 stack:=envOfC qual scope s.heap.objs.size f cd::outer
 ex:=[]
 calm:=true
 fn:=λ _=>true
 pn:=[]
 xe:=λ e s'=>wpAny (model P w) (A.deeper (envOfC qual scope s.heap.objs.size f cd)) (leaving (envOfC qual scope s.heap.objs.size f cd) e) (λ _ s''=>CX outer H s E e s'') (λ e' s''=>CX outer H s E e' s'') s'
theorem R1 {sc:Scope}{n:Nat}{x:Str}(h:sc.names.lookup x=some .cell):∃c,(cellsFrom n sc.names []).lookup x=some c:=by
 have q:=PySem.W.cellsFrom_some sc.names n [] (.inl h);exact Option.isSome_iff_exists.mp q
section
variable {X:Cx}{x:Str}{p pos:Pos}{e:Expr}{es:List Expr}{t:TA}{id T:String}{r:List V->Hp->VK->Prop}
def tCB (r:List V->Hp->VK->Prop)(t:TA):TE:=λ σ H Q=>t σ H λ vs H1=>r vs H1 Q
theorem CP (hc:CallR X (.builtin id) r)(hg:Gl X x)(hm:X.mg x=none)(hv:bootBuiltins x=some (.builtin id))(ha:PA X (e::es) t)(hn:x≠"__name__":=by decide)(hdb:(x == ("__debug__":Str))=false:=by decide)
  (he:starEach (e::es) X.env=(false,eval e X.env)::starEach es X.env:=by rfl) (hpl:(backTo pos (starEach es X.env)).any (·.1)=false:=by rfl):PE X (.Call (.Name x p) (e::es) [] pos) (tCB r t):=by
 intro pins s σ H Q I h;refine wpAny_Call_Name_kw (Ji I hg hm hv ?_ hn hdb);exact PyProof.Rows.callWith_builtin1 (thn (ha pos pins s σ H _ I h) λ us s1 ⟨vs,H1,I1,r1,q1⟩=>hc pins s1 σ H1 vs us Q I1 r1 q1) he hpl
theorem Rq (hc:CallR X (.type T) r)(hg:Gl X x)(hm:X.mg x=none)(hv:bootBuiltins x=some (.type T))(ha:PA X (e::es) t)(hn:x≠"__name__":=by decide)(hdb:(x == ("__debug__":Str))=false:=by decide)
  (he:starEach (e::es) X.env=(false,eval e X.env)::starEach es X.env:=by rfl) (hpl:(backTo pos (starEach es X.env)).any (·.1)=false:=by rfl):PE X (.Call (.Name x p) (e::es) [] pos) (tCB r t):=by
 intro pins s σ H Q I h;refine wpAny_Call_Name_kw (Ji I hg hm hv ?_ hn hdb);exact PyProof.Rows.callWith_type1 (thn (ha pos pins s σ H _ I h) λ us s1 ⟨vs,H1,I1,r1,q1⟩=>hc pins s1 σ H1 vs us Q I1 r1 q1) he hpl
end
end L2
namespace HT
open PySem PyProof.Rows
section
variable {prog:Program}{w:World}{A:Around}{E:Value->Shared->Prop}{s:Shared}
def sIx (n d:Nat):Option Int->Nat
 | none=>d
 | some v=>if v < 0 then (v+(n:Int)).toNat else min v.toNat n
theorem Ui (n d:Nat):sIx n d none=d:=rfl
theorem Ld (n d k:Nat):sIx n d (some (k:Int))=min k n:=by
 show (if (k:Int) < 0 then ((k:Int)+(n:Int)).toNat else min (k:Int).toNat n)=min k n
 rw [if_neg (by omega),Int.toNat_natCast]
theorem qe (n d:Nat)(hd:d<=n)(o:Option Int):sIx n d o<=n:=by
 cases o with
 | none=>exact hd
 | some v=>
  show (if v < 0 then (v+(n:Int)).toNat else min v.toNat n)<=n
  by_cases hv:v < 0
  ·rw [if_pos hv];omega
  ·rw [if_neg hv];exact Nat.min_le_right _ _
theorem Ym (v:Int)(n d:Nat):(if v < 0 then max (v+(n:Int)) 0 else min v (n:Int))=((sIx n d (some v):Nat):Int):=by
 show (if v < 0 then max (v+(n:Int)) 0 else min v (n:Int))=(((if v < 0 then (v+(n:Int)).toNat else min v.toNat n):Nat):Int)
 by_cases hv:v < 0
 ·simp only [if_pos hv];omega
 ·simp only [if_neg hv];omega
theorem dZ (lo hi:Option Int)(n:Nat):Builtin.Slice.sliceAdjust lo hi 1 (n:Int)=(((sIx n 0 lo:Nat):Int),((sIx n n hi:Nat):Int)):=by
 have h1:¬ ((1:Int) < 0):=by omega
 unfold Builtin.Slice.sliceAdjust;simp only [h1,if_false];refine Prod.ext ?_ ?_
 ·cases lo with
  | none=>rfl
  | some v=>exact Ym v n 0
 ·cases hi with
  | none=>rfl
  | some v=>exact Ym v n n
theorem uW (i j:Nat):Builtin.Slice.slicePlaces (i:Int) (j:Int) 1=j - i:=by
 unfold Builtin.Slice.slicePlaces;have h1:(1:Int) > 0:=by omega
 simp only [h1,if_true,Int.ediv_one]
 split<;>omega
theorem Wz {v:Value}{o:Option Int}{Q:Option Int->Shared->Prop}(p:IsPart v o)(h:Q o s):wpAny (model prog w) A (Builtin.Slice.slicePartIndex v) Q E s:=by
 cases p with
 | none=>exact slicePart_none h
 | int i t=>exact slicePart_int h
theorem tu {sl:Addr}{vl vu:Value}{lo hi:Option Int}{n:Nat}{Q:Int×Int×Nat->Shared->Prop}(hs:s.heap.IsSliceOf sl vl vu .none)(pl:IsPart vl lo)(pu:IsPart vu hi)
  (h:Q (((sIx n 0 lo:Nat):Int),1,sIx n n hi - sIx n 0 lo) s):wpAny (model prog w) A (Builtin.Slice.sliceApplied (.ref sl) (pure (n:Int))) Q E s:=by
 obtain ⟨os,hos,hcs,hds⟩:=id hs;unfold Builtin.Slice.sliceApplied Builtin.Slice.sliceFields;refine wpAny_bind (wpAny_bind (wpAny_field hos hds (x:=vl) rfl (wpAny_bind (wpAny_field hos hds (x:=vu) rfl (wpAny_bind (wpAny_field hos hds (x:=.none) rfl (wpAny_pure ?_)))))));refine wpAny_bind (slicePart_none ?_);show wpAny _ _ (if ((1:Int) == 0)=true then _ else _) _ _ s
 rw [if_neg (by decide)]
 refine wpAny_bind (Wz pl (wpAny_bind (Wz pu (wpAny_bind (wpAny_pure ?_)))));show wpAny _ _ (match Builtin.Slice.sliceAdjust lo hi 1 (n:Int) with | (lo,hi)=>pure (lo,(1:Int),Builtin.Slice.slicePlaces lo hi 1)) _ _ s
 rw [dZ lo hi n];show wpAny _ _ (pure (((sIx n 0 lo:Nat):Int),(1:Int),Builtin.Slice.slicePlaces ((sIx n 0 lo:Nat):Int) ((sIx n n hi:Nat):Int) 1)) _ _ s;rw [uW];exact wpAny_pure h
theorem wF (xs:Array Value)(i k:Nat):((List.range k).filterMap λ (m:Nat)=>xs[((i:Int)+(m:Int) * 1).toNat]?).toArray=((xs.toList.drop i).take k).toArray:=by
 have e:(λ (m:Nat)=>xs[((i:Int)+(m:Int) * 1).toNat]?)=λ m=>xs[i+m]?:=by
  funext m
  have:((i:Int)+(m:Int) * 1).toNat=i+m:=by omega
  rw [this]
 rw [e];have:=pick_run xs i k;rw [List.filterMap_map] at this;have e2:((λ x=>xs[x]?) ∘ λ x=>i+x)=λ m=>xs[i+m]?:=rfl
 rw [e2] at this;rw [this]
theorem oY {t sl:Addr}{items:Array Value}{vl vu:Value}{lo hi:Option Int}{Q:Value->Shared->Prop}(ht:IsTup s.heap t items)(hs:s.heap.IsSliceOf sl vl vu .none)(pl:IsPart vl lo)(pu:IsPart vu hi)
  (hw:¬ (sIx items.size 0 lo=0/\sIx items.size items.size hi=items.size))
  (h:Q (.ref s.heap.objs.size) { s with heap:=s.heap.push { cls:=.type "tuple",data:=.seq ((items.toList.drop (sIx items.size 0 lo)).take (sIx items.size items.size hi - sIx items.size 0 lo)).toArray } })
  (hsz:items.size<=sizeLine):wpAny (model prog w) A (getItem (.ref t) (.ref sl)) Q E s:=by
 have htake:sizeOk (.seq ((items.toList.drop (sIx items.size 0 lo)).take (sIx items.size items.size hi - sIx items.size 0 lo)).toArray):=by
  show ((items.toList.drop (sIx items.size 0 lo)).take (sIx items.size items.size hi - sIx items.size 0 lo)).toArray.size<=sizeLine;rw [List.size_toArray,List.length_take,List.length_drop,Array.length_toList];omega
 have hj:sIx items.size items.size hi<=items.size:=qe _ _ (Nat.le_refl _) hi;obtain ⟨os,hos,hcs,hds⟩:=id hs;have hTs:s.TypeIs (.ref sl) "slice":=⟨os,hos,hcs⟩;unfold getItem
 try with_reducible refine wpAny_holding ?_
 first | refine wpAny_bind (wpAny_pure ?_) | skip
 refine wpAny_bind (wpAny_sequenceKey ht.typeIs (by decide) ?_)
 refine wpAny_bind (wpAny_callSpecial?_slot (name:=Str.ofString "__getitem__") ht.typeIs PyProof.Rows.slot_tuple_getitem
  (wpAny_call_entry PyProof.Rows.slot_tuple_getitem ht.typeIs entry_tuple_getitem ?_ (args_tuple_getitem _ _)))
 show wpAny _ _ (Builtin.Tuple.tupleItemsOf (.ref t) >>= _) _ _ s;refine wpAny_bind (tupleItemsOf_ ht ?_);refine wpAny_bind (wpAny_typeOf hTs ?_);rw [if_pos (by decide)]
 refine wpAny_bind (tu hs pl pu ?_);have hno:¬ ((((sIx items.size 0 lo:Nat):Int) == 0 && (1:Int) == 1 && (sIx items.size items.size hi - sIx items.size 0 lo) == items.size)=true):=by
  intro q;rw [Bool.and_eq_true,Bool.and_eq_true] at q;have q1:((sIx items.size 0 lo:Nat):Int)=0:=eq_of_beq q.1.1;have q2:sIx items.size items.size hi - sIx items.size 0 lo=items.size:=eq_of_beq q.2;exact hw ⟨by omega,by omega⟩
 show wpAny _ _ (if (((sIx items.size 0 lo:Nat):Int) == 0 && (1:Int) == 1 && (sIx items.size items.size hi - sIx items.size 0 lo) == items.size)=true then _ else _) _ _ s
 rw [if_neg hno,wF]
 first
  | exact wpAny_bind (m:=Builtin.Tuple.tupleExact _) (wpAny_newObj_type (wpAny_pure ⟨_,rfl,wpAny_pure h⟩) htake)
  | exact wpAny_bind (m:=Builtin.Tuple.tupleExact _) (wpAny_newObj_type (wpAny_bind (wpAny_pure (wpAny_pure ⟨_,rfl,wpAny_pure h⟩))) htake)
  | exact wpAny_bind (wpAny_bind (m:=Builtin.Tuple.tupleExact _) (wpAny_newObj_type (wpAny_pure (wpAny_pure ⟨_,rfl,wpAny_pure h⟩)) htake))
  | exact wpAny_bind (wpAny_bind (m:=Builtin.Tuple.tupleExact _) (wpAny_newObj_type (wpAny_pure ⟨_,rfl,wpAny_pure h⟩) htake))
end
end HT
namespace L2
open PySem PySem.Spec PyProof.Rows
abbrev TO:=St->Hp->(Option Int->Hp->Prop)->Prop
def PO (X:Cx)(e:Option Expr)(t:TO):Prop:=
 ∀(pins:List (Addr×Obj)) (s:Shared) (σ:St) (H:Hp) (Q:Option Int->Hp->Prop),Inv X pins σ H s->t σ H Q->
  wpAny (model X.prog X.w) X.A (evalPart e X.env) (λ u s'=>∃o H',Inv X pins σ H' s'/\IsPart u o/\Q o H') X.xe s
def tNoPart:TO:=λ _ H Q=>Q none H
def tPart (t:TE):TO:=λ σ H Q=>t σ H λ x H1=>∃i,x=.int i/\Q (some i) H1
section
variable {X:Cx}{e:Expr}{te:TE}{lo hi:Option Expr}{tl th:TO}{pos p2:Pos}
theorem K9:PO X none tNoPart:=by
 intro pins s σ H Q I h;rw [evalPart_none];exact wpAny_pure ⟨none,H,I,.none,h⟩
theorem Ho (h:PE X e te):PO X (some e) (tPart te):=by
 intro pins s σ H Q I hw;rw [evalPart_some];refine thn (h pins s σ H _ I hw) λ u s1 ⟨x,H1,I1,r1,q1⟩=>?_
 obtain ⟨i,rfl,q⟩:=q1;obtain ⟨t,rfl⟩:=r1;exact ⟨some i,H1,I1,.int i t,q⟩
def SlR (X:Cx)(r:V->Option Int->Option Int->Hp->VK->Prop):Prop:=
 ∀(pins:List (Addr×Obj)) (s:Shared) (σ:St) (H:Hp) (x:V) (v vl vu:Value) (lo hi:Option Int) (sl:Addr) (Q:VK),Inv X pins σ H s->RelV x v->s.heap.IsSliceOf sl vl vu .none->IsPart vl lo->IsPart vu hi->r x lo hi H Q->
  ∃T id,typeLookup (.type T) "__getitem__"=pure (some (.builtin id))/\s.TypeIs v T/\wpAny (model X.prog X.w) X.A (getItem v (.ref sl)) (EP X pins σ Q) X.xe s
def tSl (r:V->Option Int->Option Int->Hp->VK->Prop)(te:TE)(tl th:TO):TE:=λ σ H Q=>te σ H λ x H1=>tl σ H1 λ l H2=>th σ H2 λ u H3=>r x l u H3 Q
theorem JS {r:V->Option Int->Option Int->Hp->VK->Prop}(hr:SlR X r)(he:PE X e te)(hl:PO X lo tl)(hu:PO X hi th):PE X (.Subscript e (.Slice lo hi none p2) pos) (tSl r te tl th):=by
 intro pins s σ H Q I h;refine Subscript_ (thn (he pins s σ H _ I h) λ v s1 ⟨x,H1,I1,r1,q1⟩=>?_)
 refine wpAny_Slice (thn (hl pins s1 σ H1 _ I1 q1) λ vl s2 ⟨l,H2,I2,pl,q2⟩=>thn (hu pins s2 σ H2 _ I2 q2) λ vu s3 ⟨u,H3,I3,pu,q3⟩=>?_)
 rw [evalPart_none];refine wpAny_pure ?_;have I4:Inv X pins σ H3 { s3 with heap:=s3.heap.push { cls:=.type "slice",data:=.fields #[vl,vu,.none] } }:=I3.kept (t':=s3.toks) λ b ob q=>Heap.get?_push_of_some _ q
 obtain ⟨T,id,hT,ht,hg⟩:=hr pins { s3 with heap:=s3.heap.push { cls:=.type "slice",data:=.fields #[vl,vu,.none] } } σ H3 x v vl vu l u s3.heap.objs.size Q I4 r1 (Heap.IsSliceOf.new ..) pl pu q3
 show wpAny (model X.prog X.w) X.A (subscriptTail e (.Slice lo hi none p2) v (.ref s3.heap.objs.size)) (EP X pins σ Q) X.xe { s3 with heap:=s3.heap.push { cls:=.type "slice",data:=.fields #[vl,vu,.none] } }
 exact tail_any (ops:=[.ref s3.heap.objs.size,v]) ht hT hg (by with_unfolding_all rfl)
def cutV (xs:List V)(lo hi:Option Int):List V:=(xs.drop (HT.sIx xs.length 0 lo)).take (HT.sIx xs.length xs.length hi - HT.sIx xs.length 0 lo)
theorem Zk (xs:List V)(lo hi:Option Int):(cutV xs lo hi).length<=xs.length:=by
 unfold cutV;rw [List.length_take,List.length_drop];omega
def rSlT (K:FrG):V->Option Int->Option Int->Hp->VK->Prop:=λ x lo hi H Q=>∃a xs,x=.ref a/\SqT K H a xs/\
 ¬ (HT.sIx xs.length 0 lo=0/\HT.sIx xs.length xs.length hi=xs.length)/\∀p,H p=none->Q (.ref p) (upd H p (.tup (cutV xs lo hi)))
theorem aN:SlR X (rSlT X.K):=by
 intro pins s σ H x v vl vu lo hi sl Q I rx hs pl pu h;obtain ⟨a,xs,rfl,hx,hw,q⟩:=h;cases rx
 obtain ⟨its,r,ht,hz⟩:=I.tuple hx;have hlen:its.toArray.size=xs.length:=by rw [List.size_toArray];exact r.length.symm
 refine ⟨"tuple",_,PyProof.Rows.slot_tuple_getitem.lookup,ht.typeIs,?_⟩;refine HT.oY ht hs pl pu (by rw [hlen];exact hw) ?_ (by rw [hlen];exact hz)
 rw [hlen];refine ⟨.ref s.heap.objs.size,_,I.laid (t':=s.toks) (o:=.tup (cutV xs lo hi)) (λ b ob q=>Heap.get?_push_of_some _ q) (Nat.le_refl _) ?_,rfl,q _ (I.hok.fresh (Nat.le_refl _))⟩
 exact ⟨Nat.le_trans (Zk xs lo hi) hz,_,(r.drop (HT.sIx xs.length 0 lo)).take (HT.sIx xs.length xs.length hi - HT.sIx xs.length 0 lo),IsTup.new _ _⟩
end
def ixN (n:Nat)(i:Int):Option Nat:=if 0<=i then (if i < n then some i.toNat else none) else if -(n:Int)<=i then some (i+n).toNat else none
def atI {α:Type}(xs:List α)(i:Int):Option α:=(ixN xs.length i).bind λ j=>xs[j]?
theorem YZ {n:Nat}{i:Int}{j:Nat}(h:ixN n i=some j):seqIndex? i n=some j/\j < n/\-(n:Int)<=i/\i < n:=by
 unfold ixN at h;by_cases h0:0<=i
 ·rw [if_pos h0] at h;by_cases h1:i < n
  ·rw [if_pos h1] at h;have e:i.toNat=j:=Option.some.inj h;exact ⟨by rw [seqIndex_of h0 h1,e],by omega,by omega,h1⟩
  ·rw [if_neg h1] at h;cases h
 ·rw [if_neg h0] at h;by_cases h1:-(n:Int)<=i
  ·rw [if_pos h1] at h;have e:(i+n).toNat=j:=Option.some.inj h;exact ⟨by rw [seqIndex_neg (by omega) h1,e],by omega,h1,by omega⟩
  ·rw [if_neg h1] at h;cases h
theorem X5 {α:Type}{xs:List α}{i:Int}{v:α}(h:atI xs i=some v):∃j,seqIndex? i xs.length=some j/\xs[j]?=some v/\j < xs.length/\-(xs.length:Int)<=i/\i < xs.length:=by
 unfold atI at h;cases e:ixN xs.length i with
 | none=>rw [e] at h;cases h
 | some j=>
  rw [e] at h;obtain ⟨h1,h2,h3,h4⟩:=YZ e;exact ⟨j,h1,h,h2,h3,h4⟩
theorem Eh {α:Type}{xs:List α}{j:Nat}{v:α}(h:xs[j]?=some v):atI xs (j:Int)=some v:=by
 have hj:j < xs.length:=(List.getElem?_eq_some_iff.mp h).1;have e:ixN xs.length (j:Int)=some j:=by
  unfold ixN;rw [if_pos (by omega),if_pos (by omega)];simp
 unfold atI;rw [e];exact h
theorem iU {α:Type}(xs:List α)(v:α):atI (xs++[v]) (-1)=some v:=by
 have hl:(xs++[v]).length=xs.length+1:=by simp
 have e:ixN (xs++[v]).length (-1)=some xs.length:=by
  unfold ixN;rw [hl,if_neg (by decide),if_pos (by omega)]
  congr 1
  omega
 unfold atI;rw [e];show (xs++[v])[xs.length]?=some v;simp
def PlainIx (b:Expr):Prop:=∀o i,subscripted b false o i=operate [o,i] (getItem o i)
def IxR (X:Cx)(r:R2):Prop:=
 ∀(value slice:Expr) (pins:List (Addr×Obj)) (s:Shared) (σ:St) (H:Hp) (x y:V) (v u:Value) (Q:VK),Inv X pins σ H s->RelV x v->RelV y u->r x y H Q->
  subscripted slice false v u=operate [v,u] (getItem v u)->wpAny (model X.prog X.w) X.A (subscriptTail value slice v u) (EP X pins σ Q) X.xe s
def MtR (X:Cx)(id:String)(r:V->List V->Hp->VK->Prop):Prop:=
 ∀(pins:List (Addr×Obj)) (s:Shared) (σ:St) (H:Hp) (x:V) (xs:List V) (v:Value) (us:List Value) (Q:VK),Inv X pins σ H s->RelV x v->Vals xs us->r x xs H Q->
  wpAny (model X.prog X.w) X.A (call (.builtin id) (v::us)) (EP X pins σ Q) X.xe s
section
variable {X:Cx}{a b:Expr}{ta tb:TE}{pos:Pos}
theorem Ag {r:R2}(hr:IxR X r)(ha:PE X a ta)(hb:PE X b tb)(hs:PlainIx b):PE X (.Subscript a b pos) (tOp r ta tb):=by
 intro pins s σ H Q I h;exact Subscript_ (binT ha hb I h λ v u s2 x y H2 I2 rx ry q=>hr a b pins s2 σ H2 x y v u Q I2 rx ry q (hs _ _))
def rIxL (K:FrG):R2:=λ x y H Q=>∃p xs i v,x=.ref p/\y=.int i/\SqL K H p xs/\atI xs i=some v/\Q v H
def rIxT (K:FrG):R2:=λ x y H Q=>∃p xs i v,x=.ref p/\y=.int i/\SqT K H p xs/\atI xs i=some v/\Q v H
theorem CV:IxR X (rIxL X.K):=by
 intro value slice pins s σ H x y v u Q I rx ry h hs;obtain ⟨p,xs,i,z,rfl,rfl,hq,he,q⟩:=h;cases rx
 obtain ⟨t,rfl⟩:=ry;obtain ⟨its,r,pl,hz⟩:=I.list hq;obtain ⟨j,h1,h2,h3,h4,h5⟩:=X5 he;obtain ⟨w,ew,rw'⟩:=r.get h2;have hl:=r.length;have hn:=line63;have fin:EP X pins σ Q w s:=⟨z,H,I,rw',q⟩;by_cases h0:0<=i
 ·have hj:i.toNat=j:=by
   rw [seqIndex_of h0 h5] at h1;exact Option.some.inj h1
  exact item_listR pl.isList h0 (by omega) (by rw [hj];simpa using ew) fin hs
 ·have hj:(i+(its.toArray.size:Int)).toNat=j:=by
   rw [seqIndex_neg (by omega) h4] at h1
   rw [List.size_toArray,<- hl];exact Option.some.inj h1
  exact subscriptTail_builtinR (x:=w) pl.isList.typeIs slot_list_getitem.lookup
   (wpAny_getItem_list_neg (Q:=λ r s'=>r=w/\EP X pins σ Q r s') pl.isList (by omega) (by rw [List.size_toArray]<;>omega) (by omega) (by rw [hj];simpa using ew) ⟨rfl,fin⟩) hs
theorem Am:IxR X (rIxT X.K):=by
 intro value slice pins s σ H x y v u Q I rx ry h hs;obtain ⟨p,xs,i,z,rfl,rfl,hq,he,q⟩:=h;cases rx
 obtain ⟨t,rfl⟩:=ry;obtain ⟨its,r,pl,hz⟩:=I.tuple hq;obtain ⟨j,h1,h2,h3,h4,h5⟩:=X5 he;obtain ⟨w,ew,rw'⟩:=r.get h2;have hl:=r.length;have hn:=line63;have fin:EP X pins σ Q w s:=⟨z,H,I,rw',q⟩;exact subscriptTail_builtinR (x:=w) pl.typeIs slot_tuple_getitem.lookup
  (getItem_tuple (j:=j) (Q:=λ r s'=>r=w/\EP X pins σ Q r s') pl (by omega) (by omega) (by rw [List.size_toArray,<- hl];exact h1) (by simpa using ew) ⟨rfl,fin⟩) hs
theorem yU (its:List Value)(n j:Nat)(u:Value):Obj.mapSeq (·.setIfInBounds j u) { cls:=.type "list",data:=.seq its.toArray n }={ cls:=.type "list",data:=.seq (its.set j u).toArray n }:=by
 simp [Obj.mapSeq]
theorem Inv.lst {pins:List (Addr×Obj)}{σ:St}{H:Hp}{s:Shared}{p:Addr}{xs:List V}(I:Inv X pins σ H s)(h:H p=some (.lst xs)):
  ∃(its:List Value) (n:Nat),Vals xs its/\s.heap.get? p=some { cls:=.type "list",data:=.seq its.toArray n }/\xs.length<=sizeLine:=by
 obtain ⟨z,its,n,r,e⟩:=I.hok p _ h;exact ⟨its,n,r,e,z⟩
theorem Inv.lstUpd {pins:List (Addr×Obj)}{σ:St}{H:Hp}{s:Shared}{p:Addr}{xs ys:List V}{its its':List Value}{n n':Nat}{f:Obj->Obj}(I:Inv X pins σ H s)(h:H p=some (.lst xs))
  (ho:s.heap.get? p=some { cls:=.type "list",data:=.seq its.toArray n }) (hf:f { cls:=.type "list",data:=.seq its.toArray n }={ cls:=.type "list",data:=.seq its'.toArray n' }) (r:Vals ys its') (hz:ys.length<=sizeLine) (t:Nat):
  Inv X pins σ (upd H p (.lst ys)) { s with heap:=s.heap.update p f,toks:=t }:=by
 have e:(s.heap.update p f).get? p=some { cls:=.type "list",data:=.seq its'.toArray n' }:=by
  rw [Heap.get?_update_self f ho (by rw [hf]<;>rfl),hf]
 refine I.write (x:=p) (e:=p) (by rw [h];trivial) (.inl rfl) (λ b u hb q=>(Heap.get?_update_other _ _ (Ne.symm hb)).trans q) ⟨_,e⟩ ?_
 exact ⟨hz,its',n',r,e⟩
def rSetL:V->V->V->Hp->(Hp->Prop)->Prop:=λ o i v H Q=>∃p xs k j,o=.ref p/\i=.int k/\H p=some (.lst xs)/\ixN xs.length k=some j/\Q (upd H p (.lst (xs.set j v)))
theorem ZL:PSet X rSetL:=by
 intro pins s σ H o i v ov iv u Q I ro ri rv h;obtain ⟨p,xs,k,j,rfl,rfl,hp,hj,q⟩:=h;cases ro
 obtain ⟨t,rfl⟩:=ri;obtain ⟨its,n,r,ho,hz⟩:=I.lst hp;obtain ⟨h1,h2,h3,h4⟩:=YZ hj;have hl:=r.length;have hn:=line63;have I':Inv X pins σ (upd H p (.lst (xs.set j v))) { s with heap:=s.heap.update p (Obj.mapSeq (·.setIfInBounds j u)) }:=
  I.lstUpd hp ho (yU its n j u) (r.set rv j) (by rw [List.length_set];exact hz) s.toks
 by_cases h0:0<=k
 ·have hk:k.toNat=j:=by
   rw [seqIndex_of h0 h4] at h1;exact Option.some.inj h1
  exact PySem.W.ki_setAt ho h0 (by omega) (by rw [List.size_toArray,<- hl];exact h4) (by rw [hk];exact ⟨_,I',q⟩)
 ·have hk:(k+(its.toArray.size:Int)).toNat=j:=by
   rw [seqIndex_neg (by omega) h3] at h1
   rw [List.size_toArray,<- hl];exact Option.some.inj h1
  exact PySem.W.ki_setBack ho (by omega) (by rw [List.size_toArray,<- hl];exact h3) (by omega) (by rw [hk];exact ⟨_,I',q⟩)
theorem tV (lo hi:Option Int)(n:Nat):(sliceBounds lo hi none n).1=((HT.sIx n 0 lo:Nat):Int)/\(sliceBounds lo hi none n).2.1=((HT.sIx n n hi:Nat):Int)/\(sliceBounds lo hi none n).2.2=1:=by
 refine ⟨?_,?_,rfl⟩
 ·cases lo with
  | none=>simp [sliceBounds,HT.sIx]
  | some i=>
   simp only [sliceBounds,HT.sIx,Option.getD_none,show (1:Int) > 0 by decide,if_true]
   by_cases h:i < 0
   ·simp only [h,if_true]<;>omega
   ·simp only [h,if_false]<;>omega
 ·cases hi with
  | none=>simp [sliceBounds,HT.sIx]
  | some i=>
   simp only [sliceBounds,HT.sIx,Option.getD_none,show (1:Int) > 0 by decide,if_true]
   by_cases h:i < 0
   ·simp only [h,if_true]<;>omega
   ·simp only [h,if_false]<;>omega
theorem wR (its:List Value)(lo hi:Option Int):slicePick its.toArray lo hi none=((its.drop (HT.sIx its.length 0 lo)).take (HT.sIx its.length its.length hi - HT.sIx its.length 0 lo)).toArray:=by
 obtain ⟨h1,h2,h3⟩:=tV lo hi its.toArray.size;unfold slicePick;rw [h1,h2,h3];simp only [sliceRange_one,pick_run,List.size_toArray]<;>rfl
def rSlL (K:FrG):V->Option Int->Option Int->Hp->VK->Prop:=λ x lo hi H Q=>∃a xs,x=.ref a/\SqL K H a xs/\∀p,H p=none->Q (.ref p) (upd H p (.lst (cutV xs lo hi)))
theorem QR:SlR X (rSlL X.K):=by
 intro pins s σ H x v vl vu lo hi sl Q I rx hs pl pu h;obtain ⟨a,xs,rfl,hx,q⟩:=h;cases rx
 obtain ⟨its,r,ht,hz⟩:=I.list hx;have hlen:=r.length;refine ⟨"list",_,slot_list_getitem.lookup,ht.isList.typeIs,?_⟩;refine wpAny_getItem_list_slice ht.isList hs pl pu .none (by simp) ?_ (by rw [List.size_toArray]<;>omega)
 rw [wR,<- hlen];refine ⟨.ref s.heap.objs.size,_,I.laid (t':=s.toks) (o:=.lst (cutV xs lo hi)) (λ b ob q=>Heap.get?_push_of_some _ q) (Nat.le_refl _) ?_,rfl,q _ (I.hok.fresh (Nat.le_refl _))⟩
 exact ⟨Nat.le_trans (Zk xs lo hi) hz,_,0,(r.drop (HT.sIx xs.length 0 lo)).take (HT.sIx xs.length xs.length hi - HT.sIx xs.length 0 lo),Heap.get?_push_size _ rfl⟩
def flatV:V->Bool
 | .non=>true
 | .bl _=>true
 | .int _=>true
 | .str _=>true
 | _=>false
def eqV:V->V->Bool
 | .non,.non=>true
 | .bl a,.bl b=>a == b
 | .bl a,.int b=>(if a then 1 else 0) == b
 | .int a,.bl b=>a == (if b then 1 else 0)
 | .int a,.int b=>a == b
 | .str a,.str b=>a == b
 | _,_=>false
theorem wO {A:Around}{s:Shared}{y x:V}{u v:Value}(ry:RelV y u)(rx:RelV x v)(fy:flatV y=true)(fx:flatV x=true):SeqAt.EqAt A s u v (eqV y x):=by
 cases y with
 | non=>
  cases ry
  cases x with
  | non=>cases rx;exact SeqAt.EqAt.same _
  | bl b=>cases rx;exact SeqAt.EqAt.none_bool b
  | int b=>obtain ⟨t,rfl⟩:=rx;exact SeqAt.EqAt.none_int b t
  | str b=>obtain ⟨t,rfl⟩:=rx;exact SeqAt.EqAt.none_str b t
  | _=>exact absurd (show false=true from fx) Bool.false_ne_true
 | bl a=>
  cases ry
  cases x with
  | non=>cases rx;exact SeqAt.EqAt.bool_none a
  | bl b=>cases rx;exact SeqAt.EqAt.bool_bool a b
  | int b=>obtain ⟨t,rfl⟩:=rx;exact SeqAt.EqAt.bool_int a b t
  | str b=>obtain ⟨t,rfl⟩:=rx;exact SeqAt.EqAt.bool_str a b t
  | _=>exact absurd (show false=true from fx) Bool.false_ne_true
 | int a=>
  obtain ⟨t',rfl⟩:=ry;cases x with
  | non=>cases rx;exact SeqAt.EqAt.int_none a t'
  | bl b=>cases rx;exact SeqAt.EqAt.int_bool a t' b
  | int b=>obtain ⟨t,rfl⟩:=rx;exact SeqAt.EqAt.int_int a t' b t
  | str b=>obtain ⟨t,rfl⟩:=rx;exact SeqAt.EqAt.int_str a t' b t
  | _=>exact absurd (show false=true from fx) Bool.false_ne_true
 | str a=>
  obtain ⟨t',rfl⟩:=ry;cases x with
  | non=>cases rx;exact SeqAt.EqAt.str_none a t'
  | bl b=>cases rx;exact SeqAt.EqAt.str_bool a t' b
  | int b=>obtain ⟨t,rfl⟩:=rx;exact SeqAt.EqAt.str_int a t' b t
  | str b=>obtain ⟨t,rfl⟩:=rx;exact SeqAt.EqAt.str_str a t' b t
  | _=>exact absurd (show false=true from fx) Bool.false_ne_true
 | _=>exact absurd (show false=true from fy) Bool.false_ne_true
def eqU (x:V)(u:Value):Bool:=match u with
 | .none=>eqV .non x
 | .bool b=>eqV (.bl b) x
 | .int i _=>eqV (.int i) x
 | .str z _=>eqV (.str z) x
 | _=>false
theorem Z3 {x y:V}{u:Value}(r:RelV y u)(f:flatV y=true):eqU x u=eqV y x:=by
 cases y with
 | non=>cases r;rfl
 | bl b=>cases r;rfl
 | int i=>obtain ⟨t,rfl⟩:=r;rfl
 | str z=>obtain ⟨t,rfl⟩:=r;rfl
 | _=>exact absurd (show false=true from f) Bool.false_ne_true
theorem QF {x:V}:∀{xs:List V} {us:List Value},Vals xs us->xs.all flatV=true->us.any (eqU x)=xs.any λ y=>eqV y x
 | _,_,.nil,_=>rfl
 | y::xs,u::us,.cons r t,f=>by
  rw [List.all_cons,Bool.and_eq_true] at f;rw [List.any_cons,List.any_cons,Z3 r f.1,QF t f.2]
theorem RG {A:Around}{s:Shared}{x:V}{v:Value}(rx:RelV x v)(fx:flatV x=true):∀{xs:List V} {us:List Value},Vals xs us->xs.all flatV=true->∀u∈us,SeqAt.EqAt A s u v (eqU x u)
 | _,_,.nil,_=>λ u hu=>by cases hu
 | y::xs,u::us,.cons r t,f=>λ u' hu=>by
  rw [List.all_cons,Bool.and_eq_true] at f;rcases List.mem_cons.mp hu with rfl | hu
  ·rw [Z3 r f.1];exact wO r rx f.1 fx
  ·exact RG rx fx t f.2 u' hu
def inV (x:V)(xs:List V):Bool:=xs.any λ y=>eqV y x
def rIn (K:FrG)(neg:Bool):R2:=λ x y H Q=>∃p xs,y=.ref p/\(SqL K H p xs\/SqT K H p xs)/\flatV x=true/\xs.all flatV=true/\Q (.bl (if neg then !inV x xs else inV x xs)) H
theorem uH:OpR X (compareOp .In) (rIn X.K false):=by
 intro pins s σ H x y v u Q I rx ry h;obtain ⟨p,xs,rfl,hq,fx,fs,q⟩:=h;cases ry
 rcases hq with hq | hq
 ·obtain ⟨its,r,pl,hz⟩:=I.list hq;refine SeqAt.in_listAt (eqU x) pl.isList (λ w hw=>RG rx fx r fs w (by simpa using hw)) ⟨.bl _,H,I,rfl,?_⟩
  rw [show its.toArray.any (eqU x)=its.any (eqU x) by simp,QF r fs]
  exact q
 ·obtain ⟨its,r,pl,hz⟩:=I.tuple hq;refine SeqAt.in_tupleAt (eqU x) pl (λ w hw=>RG rx fx r fs w (by simpa using hw)) ⟨.bl _,H,I,rfl,?_⟩
  rw [show its.toArray.any (eqU x)=its.any (eqU x) by simp,QF r fs]
  exact q
theorem Ea:CallR X (.builtin "len") (λ xs H Q=>∃p ys,xs=[.ref p]/\(SqL X.K H p ys\/SqT X.K H p ys)/\Q (.int ys.length) H):=by
 intro pins s σ H xs us Q I r h;obtain ⟨p,ys,rfl,hq,q⟩:=h;obtain ⟨u,rfl,rx⟩:=vals1 r;cases rx
 have hn:=line63;rcases hq with hq | hq
 ·obtain ⟨its,r',pl,hz⟩:=I.list hq;have hlen:=r'.length;exact Calls.call_len_list pl.isList (by simp only [List.size_toArray]<;>omega) ⟨.int ys.length,H,I.tok _,⟨s.toks+1,by rw [List.size_toArray,hlen]⟩,q⟩
 ·obtain ⟨its,r',pl,hz⟩:=I.tuple hq;have hlen:=r'.length;exact len_tuple pl (by simp only [List.size_toArray]<;>omega) ⟨.int ys.length,H,I.tok _,⟨s.toks+1,by rw [List.size_toArray,hlen]⟩,q⟩
theorem my:CallR X (.builtin "len") (λ xs H Q=>∃z,xs=[.str z]/\z.length<=sizeLine/\Q (.int z.length) H):=by
 intro pins s σ H xs us Q I r h;obtain ⟨z,rfl,hz,q⟩:=h;obtain ⟨u,rfl,t,rfl⟩:=vals1 r;have hn:=line63;exact len_str (by omega) ⟨.int z.length,H,I.tok _,⟨_,rfl⟩,q⟩
theorem wD:CallR X (.type "tuple") (λ xs H Q=>∃p ys,xs=[.ref p]/\((SqL X.K H p ys/\∀l,H l=none->Q (.ref l) (upd H l (.tup ys)))\/(SqT X.K H p ys/\Q (.ref p) H))):=by
 intro pins s σ H xs us Q I r h;obtain ⟨p,ys,rfl,h⟩:=h;obtain ⟨u,rfl,rx⟩:=vals1 r;cases rx
 rcases h with ⟨hq,q⟩ | ⟨hq,q⟩
 ·obtain ⟨its,r',pl,hz⟩:=I.list hq;have hlen:=r'.length;refine call_tuple_list pl.isList (λ h' kp=>?_) (by simp only [List.size_toArray]<;>omega)
  have I1:Inv X pins σ H { s with heap:=h' }:=I.kept (t':=s.toks) kp
  have I2:Inv X pins σ (upd H h'.objs.size (.tup ys)) { s with heap:=h'.push { cls:=.type "tuple",data:=.seq its.toArray } }:=
   I1.laid (t':=s.toks) (λ b o e=>Heap.get?_push_of_some _ e) (Nat.le_refl _) (show ObjOk X.prog X.w _ _ _ (.tup ys) from ⟨hz,its,r',IsTup.new _ _⟩)
  exact ⟨.ref h'.objs.size,_,I2,rfl,q _ (I1.hok.fresh (Nat.le_refl _))⟩
 ·obtain ⟨its,r',pl,hz⟩:=I.tuple hq;exact call_tuple_same pl ⟨.ref p,H,I,rfl,q⟩
def tyV (K:FrG)(T:String)(x:V)(H:Hp):Prop:=match x with
 | .str _=>T="str"
 | .int _=>T="int"
 | .ref p=>(T="list"/\∃xs,SqL K H p xs)\/(T="tuple"/\∃o,K.lookup p=some o/\o.cls=.type "tuple"/\o.dict=none)\/
   (T="dict"/\((∃kvs,H p=some (.dK kvs))\/∃kvs,H p=some (.dT kvs)))\/(T="set"/\∃S n,H p=some (.set S n))
 | _=>False
theorem uJ {pins:List (Addr×Obj)}{σ:St}{H:Hp}{s:Shared}{T:String}{x:V}{v:Value}(I:Inv X pins σ H s)(r:RelV x v)(ty:tyV X.K T x H):
  s.TypeIs v T/\∀a,v=.ref a->∃ob,s.heap.get? a=some ob/\ob.dict=none:=by
 cases x with
 | str z=>
  obtain ⟨t,rfl⟩:=r;cases (show T="str" from ty)
  exact ⟨typeIs_str s z t,λ _ e=>nomatch e⟩
 | int i=>
  obtain ⟨t,rfl⟩:=r;cases (show T="int" from ty)
  exact ⟨typeIs_int s i t,λ _ e=>nomatch e⟩
 | ref p=>
  cases r
  rcases ty with ⟨rfl,xs,hq⟩ | ⟨rfl,o,hk,hc,hd⟩ | ⟨rfl,hk⟩ | ⟨rfl,S,n,hk⟩
  ·obtain ⟨its,_,pl,_⟩:=I.list hq;refine ⟨pl.isList.typeIs,λ a e=>?_⟩
   cases e
   obtain ⟨o,n,e,c,hd,_⟩:=pl;exact ⟨o,e,hd⟩
  ·refine ⟨⟨o,I.kIn p o hk,hc⟩,λ a e=>?_⟩
   cases e
   exact ⟨o,I.kIn _ o hk,hd⟩
  ·have z:∃o,s.heap.get? p=some o/\o.ExactDict:=by
    rcases hk with ⟨kvs,hk⟩ | ⟨kvs,hk⟩
    ·obtain ⟨_,_,_,_,o,_,_,e,ex,_⟩:=I.hok p _ hk;exact ⟨o,e,ex⟩
    ·obtain ⟨_,_,_,_,o,_,_,e,ex,_⟩:=I.hok p _ hk;exact ⟨o,e,ex⟩
   obtain ⟨o,e,ex⟩:=z;refine ⟨⟨o,e,ex.1⟩,λ a e2=>?_⟩
   cases e2
   exact ⟨o,e,ex.2.1⟩
  ·obtain ⟨o,_,_,_,e,ex,_⟩:=I.hok p _ hk;refine ⟨⟨o,e,ex.1⟩,λ a e2=>?_⟩
   cases e2
   exact ⟨o,e,ex.2.1⟩
 | _=>exact False.elim ty
def tBM (K:FrG)(T:String)(r:V->List V->Hp->VK->Prop)(to:TE)(t:TA):TE:=λ σ H Q=>to σ H λ x H1=>tyV K T x H1/\t σ H1 λ xs H2=>r x xs H2 Q
variable {o e:Expr}{es:List Expr}{to:TE}{t:TA}{name:Str}{apos cpos:Pos}{T id:String}{r:V->List V->Hp->VK->Prop}
theorem Dc (pa:PlainAttrs T)(slot:Slot T name id)(hty:typeOf (.builtin id)=pure (.type "method_descriptor"))(hm:MtR X id r)(ho:PE X o to)(ha:PA X (e::es) t)
  (hbase:attributeBase o name X.env (eval o X.env)=eval o X.env:=by rfl)
  (hfew:((backTo cpos (starEach (e::es) X.env)).all (λ x=>!x.1) && (backToKw cpos (keywordEach [] X.env)).all (λ x=>x.1.isSome)
   && decide ((e::es).length+([]:List Keyword).length+(if ([]:List Keyword).isEmpty then 0 else 1) < 30))=true:=by rfl)
  (hline:(apos.endLine == cpos.line)=true:=by rfl) (hs:starEach (e::es) X.env=(false,eval e X.env)::starEach es X.env:=by rfl) (hplain:(backTo cpos (starEach es X.env)).any (·.1)=false:=by rfl):
  PE X (.Call (.Attribute o name apos) (e::es) [] cpos) (tBM X.K T r to t):=by
 intro pins s σ H Q I h;refine wpAny_Call_method_late hbase hfew hline rfl (thn (ho pins s σ H _ I h) λ v s1 ⟨x,H1,I1,r1,ty,q1⟩=>?_)
 obtain ⟨h1,h2⟩:=uJ I1 r1 ty;refine ⟨T,id,pa,slot,hty,h1,h2,?_⟩;have hA:=ha cpos pins s1 σ H1 _ I1 q1;rw [hs] at hA ⊢;refine Calls.callWith_builtin (by show (false || (backTo cpos (starEach es X.env)).any (·.1))=false;rw [hplain]<;>rfl) (Calls.evalArgs_plain ?_)
 exact thn hA λ us s2 ⟨vs,H2,I2,r2,q2⟩=>hm pins s2 σ H2 x vs v us Q I2 r1 r2 q2
end
def MtM (X:Cx)(id:String)(r:V->List V->Hp->VK->Prop):Prop:=
 ∀(pins:List (Addr×Obj)) (s:Shared) (σ:St) (H:Hp) (x:V) (xs:List V) (v:Value) (us:List Value) (Q:VK),Inv X pins σ H s->RelV x v->Vals xs us->r x xs H Q->
  wpAny (model X.prog X.w) X.A (call (.builtin id) (v::us)) (EP X pins σ Q) X.xe s
theorem Vals.one:∀{x:V} {us:List Value},Vals [x] us->∃u,us=[u]/\RelV x u
 | _,_,.cons r .nil=>⟨_,rfl,r⟩
theorem Vals.rep {xs:List V}{us:List Value}(h:Vals xs us):∀k:Nat,Vals (List.replicate k xs).flatten (List.replicate k us).flatten
 | 0=>.nil
 | k+1=>by
  rw [List.replicate_succ,List.replicate_succ,List.flatten_cons,List.flatten_cons];exact Vals.append h (Vals.rep h k)
theorem Yb (its:List Value):∀(k:Nat) (acc:List Value),
  List.foldl (λ x1 x2=>x1++x2) acc.toArray (List.replicate k its.toArray)=(acc++(List.replicate k its).flatten).toArray
 | 0,acc=>by simp
 | k+1,acc=>by
  have e:acc.toArray++its.toArray=(acc++its).toArray:=by simp
  have e2:(acc++its)++(List.replicate k its).flatten=acc++(List.replicate (k+1) its).flatten:=by
   rw [List.replicate_succ,List.flatten_cons,List.append_assoc]
  rw [<- e2,<- Yb its k (acc++its),<- e,List.replicate_succ,List.foldl_cons]
section
variable {X:Cx}{pins:List (Addr×Obj)}{σ:St}{H:Hp}{s:Shared}{l b:Addr}{xs ys zs:List V}
theorem Inv.lset {its its':List Value}{n:Nat}{f:Array Value->Array Value}{t':Nat}(I:Inv X pins σ H s)(hH:H l=some (.lst xs))
  (e:s.heap.get? l=some { cls:=.type "list",data:=.seq its.toArray n }) (hf:f its.toArray=its'.toArray) (hv:Vals ys its') (hz:ys.length<=sizeLine):
  Inv X pins σ (upd H l (.lst ys)) { s with heap:=s.heap.update l (Obj.mapSeq f),toks:=t' }:=by
 have q:=PySem.IsL.update e f;rw [hf] at q;refine I.write (x:=l) (e:=l) (by rw [hH];exact trivial) (.inl rfl) (λ b' u hb hu=>(Heap.get?_update_other s.heap (Obj.mapSeq f) (Ne.symm hb)).trans hu) ⟨_,q⟩ ?_
 exact ⟨hz,its',_,hv,q⟩
theorem Inv.lnew {its:List Value}{t':Nat}(I:Inv X pins σ H s)(hv:Vals ys its)(hz:ys.length<=sizeLine):
  Inv X pins σ (upd H s.heap.objs.size (.lst ys)) { s with heap:=s.heap.push { cls:=.type "list",data:=.seq its.toArray },toks:=t' }:=
 I.laid (λ _ _ q=>Heap.get?_push_of_some _ q) (Nat.le_refl _) ⟨hz,its,0,hv,Heap.get?_push_size _ rfl⟩
theorem Inv.fresh (I:Inv X pins σ H s):H s.heap.objs.size=none:=I.hok.fresh (Nat.le_refl _)
theorem Inv.lstM (I:Inv X pins σ H s)(hH:H l=some (.lst xs)):xs.length<=sizeLine/\∃(its:List Value) (n:Nat),Vals xs its/\xs.length=its.length/\s.heap.get? l=some { cls:=.type "list",data:=.seq its.toArray n }:=by
 obtain ⟨z,its,n,r,e⟩:=I.hok l _ hH;exact ⟨z,its,n,r,r.length,e⟩
theorem notLongL {n:Nat}(h:n<=sizeLine):Builtin.List.listTooLong n=false:=by
 unfold Builtin.List.listTooLong;exact decide_eq_false (by omega)
end
section
variable {X:Cx}
def rAppend:V->List V->Hp->VK->Prop:=λ x vs H Q=>∃l xs y,x=.ref l/\vs=[y]/\H l=some (.lst xs)/\xs.length < sizeLine/\Q .non (upd H l (.lst (xs++[y])))
theorem Ft:MtM X "list.append" rAppend:=by
 intro pins s σ H x vs v us Q I rx rv h;obtain ⟨l,xs,y,rfl,rfl,hH,hz,q⟩:=h;cases rx
 obtain ⟨u,rfl,ru⟩:=rv.one;obtain ⟨z,its,n,r,hl,e⟩:=I.lstM hH;refine call_meets F.slot_list_append ⟨_,e,rfl⟩ F.entry_list_append (F.args_list_append_2 _ _) (PySem.list_append l its.toArray n u (by rw [List.size_toArray];omega)) ⟨e,?_⟩
 refine ⟨.non,_,I.lset (its':=its++[u]) hH e (by simp) (r.append (.cons ru .nil)) ?_,rfl,q⟩
 rw [List.length_append,List.length_singleton];omega
def rExtend:V->List V->Hp->VK->Prop:=λ x vs H Q=>∃l b xs zs,x=.ref l/\vs=[.ref b]/\H l=some (.lst xs)/\H b=some (.lst zs)/\xs.length+zs.length<=sizeLine/\Q .non (upd H l (.lst (xs++zs)))
theorem gB:MtM X "list.extend" rExtend:=by
 intro pins s σ H x vs v us Q I rx rv h;obtain ⟨l,b,xs,zs,rfl,rfl,hH,hB,hz,q⟩:=h;cases rx
 obtain ⟨u,rfl,ru⟩:=rv.one;cases ru
 obtain ⟨z,its,n,r,hl,e⟩:=I.lstM hH;obtain ⟨z2,its2,n2,r2,hl2,e2⟩:=I.lstM hB;have hsz:its.toArray.size+its2.toArray.size<=sizeLine:=by rw [List.size_toArray,List.size_toArray];omega
 have hlong:¬ (!its.toArray.isEmpty && Builtin.List.listTooLong (its.toArray.size+its2.toArray.size))=true:=by
  rw [notLongL hsz,Bool.and_false];exact Bool.false_ne_true
 refine call_meets F.slot_list_extend ⟨_,e,rfl⟩ F.entry_list_extend (F.args_list_extend_2 _ _)
  (AutoSeq1.list_extend_list_list_0 l its.toArray n b its2.toArray n2 hlong (by rw [List.size_toArray];omega) (by omega)) ⟨e,e2,?_⟩
 refine ⟨.non,_,I.lset (its':=its++its2) hH e (by simp) (r.append r2) ?_,rfl,q⟩
 rw [List.length_append];omega
def rCat:R2:=λ x y H Q=>∃l b xs zs,x=.ref l/\y=.ref b/\H l=some (.lst xs)/\H b=some (.lst zs)/\xs.length+zs.length<=sizeLine/\∀p,H p=none->Q (.ref p) (upd H p (.lst (xs++zs)))
theorem JD:OpR X (binaryOp .Add) rCat:=by
 intro pins s σ H x y v u Q I rx ry h;obtain ⟨l,b,xs,zs,rfl,rfl,hH,hB,hz,q⟩:=h;cases rx
 cases ry
 obtain ⟨z,its,n,r,hl,e⟩:=I.lstM hH;obtain ⟨z2,its2,n2,r2,hl2,e2⟩:=I.lstM hB;refine PySem.P.add_list e e2 ?_ (by rw [List.size_toArray,List.size_toArray];omega)
 have ea:its.toArray++its2.toArray=(its++its2).toArray:=by simp
 rw [ea];exact ⟨.ref _,_,I.lnew (t':=s.toks) (r.append r2) (by rw [List.length_append];omega),rfl,q _ I.fresh⟩
def rRep:R2:=λ x y H Q=>∃l k xs,x=.ref l/\y=.int k/\H l=some (.lst xs)/\-(2 ^ 63)<=k/\k < 2 ^ 63/\xs.length * k.toNat<=sizeLine/\
 ∀p,H p=none->Q (.ref p) (upd H p (.lst (List.replicate k.toNat xs).flatten))
theorem jX {α:Type}(xs:List α)(k:Nat):(List.replicate k xs).flatten.length=k * xs.length:=by
 induction k with
 | zero=>simp
 | succ k ih=>rw [List.replicate_succ,List.flatten_cons,List.length_append,ih,Nat.succ_mul,Nat.add_comm]
theorem fX:OpR X (binaryOp .Mult) rRep:=by
 intro pins s σ H x y v u Q I rx ry h;obtain ⟨l,k,xs,rfl,rfl,hH,h1,h2,hz,q⟩:=h;cases rx
 obtain ⟨t,rfl⟩:=ry;obtain ⟨z,its,n,r,hl,e⟩:=I.lstM hH;have hlen:its.toArray.size * k.toNat<=sizeLine:=by rw [List.size_toArray,<- hl];exact hz
 have hcap:¬ its.toArray.size * k.toNat > (2 ^ 63 - 1) / 8:=by
  have:(sizeLine:Nat)<=(2 ^ 63 - 1) / 8:=by decide
  omega
 have hfit:¬ (!Builtin.List.listFitsIndex k)=true:=by
  rw [fitsIndex_both h1 h2];exact Bool.false_ne_true
 have hlong:¬ Builtin.List.listTooLong (its.toArray.size * k.toNat)=true:=by
  rw [notLongL hlen];exact Bool.false_ne_true
 have hnew:List.foldl (λ x1 x2=>x1++x2) #[] (List.replicate (if its.toArray.isEmpty=true then 0 else k.toNat) its.toArray)=(List.replicate k.toNat its).flatten.toArray:=by
  have f0:∀m:Nat,List.foldl (λ x1 x2=>x1++x2) #[] (List.replicate m its.toArray)=(List.replicate m its).flatten.toArray:=λ m=>by
   have:=Yb its m [];rw [List.nil_append] at this;exact this
  rw [f0];cases its with
  | nil=>simp
  | cons a r'=>rw [if_neg (by simp)]
 refine wpAny_binaryOp_repeat_ref (T:="list") (U:="int") (by decide) ⟨_,e,rfl⟩ (λ s'=>typeIs_int s' k t) noFill_list_mul F.fills_int_mul F.slot_int_rmul repeat_list F.slot_int_index.lookup
  (call_meets F.slot_int_rmul (typeIs_int s k t) F.entry_int_rmul (F.args_int_rmul_2 _ _) (int___rmul___int_list k t l its.toArray n)
   ⟨e,rfl,⟨_,e,rfl⟩,call_meets F.slot_list_mul ⟨_,e,rfl⟩ F.entry_list_mul (F.args_list_mul_2 _ _) (AutoListH.list___mul___list_int_3 l its.toArray n k t hfit hcap hlong) ⟨e,?_⟩⟩)
 rw [hnew];exact ⟨.ref _,_,I.lnew (t':=s.toks) (r.rep k.toNat) (by rw [jX,Nat.mul_comm];exact hz),rfl,q _ I.fresh⟩
end
end L2
namespace Att
open PySem PySem.W PySem.Calls PyProof.Rows
theorem wV {P:Params}{h:Heap}:∀(ns:List Int) (vs:List Value),WellAll P h vs (ns.map WData.int)->IntsAre vs ns:=by
 intro ns
 induction ns with
 | nil=>
  intro vs w;rw [List.map_nil] at w;cases w
  exact .nil
 | cons n ns ih=>
  intro vs w;rw [List.map_cons] at w;cases w with
  | cons a b=>
   cases a
   exact .cons _ _ (ih _ b)
theorem j4 {l:OpenLaw}{n:Nat}(hn:l.most=some n){P:Params}{h:Heap}{args:List WData}{vals:List Value}
  (hpre:l.row.toRowW.claim.pre args=true) (hwl:WellAll P h vals args):
  ∃a vs ns,vals=[Value.ref a]/\args=[WData.list (ns.map WData.int)]/\h.get? a=some { cls:=.type "list",data:=.seq vs.toArray }/\IntsAre vs ns/\ns.length<=n:=by
 have hsh:WShape.hasAll [] args [.list .int]=true:=(pre_splitW hpre).1;have hc:l.pre.holds [] { args:=args }=true:=(pre_splitW hpre).2;obtain ⟨d,r,rfl,h1,h2⟩:=hasAllW_cons hsh;obtain rfl:=hasAllW_nil h2;obtain ⟨xs,rfl,h3⟩:=hasW_list h1;obtain ⟨ns,rfl⟩:=items_int h3;have hlen:ns.length<=n:=by
  unfold OpenLaw.pre at hc;have h4:(WTm.not (.lt (.lit (.int (n:Int))) (.len (.arg 0)))).holds [] { args:=[.list (ns.map .int)] }=true:=by
   have h4:=(holds_andW hc).1;rw [hn] at h4;exact h4
  have h5:=condW_of h4 (w_not (w_lt w_lit (w_len_list (w_arg rfl))));rw [List.length_map] at h5;refine Nat.le_of_not_lt λ q=>?_
  have q':(n:Int) < ((ns.length:Nat):Int):=by omega
  first
   | (rw [decide_eq_true q'] at h5;exact absurd h5 (by decide))
   | (simp at h5;omega)
 cases hwl with
 | cons w1 w2=>
  cases w2
  cases w1 with
  | list ho hall=>exact ⟨_,_,ns,rfl,rfl,ho,wV ns _ hall,hlen⟩
theorem pY (l:OpenLaw)(args:List WData):l.row.toRowW.claim.post args (.bool true) args=true:=
 postW_of (r:=l.row.toRowW) (X:=(true == true))
  (show WShape.has [] (.bool true) .bool=true by first | rfl | decide | simp [WShape.has,WShape.arms,WShape.armsAll])
  (show (WTm.eq .res (.lit (.bool true))).value [] { args:=args,res:=some (.bool true),after:=args }=some (.bool (true == true)) from w_eq_bool (w_res rfl) w_lit) rfl
theorem oZ {l:OpenLaw}{n:Nat}{q:Program}{loose:List Str}{XP:(Str->Option Value)->Heap->Prop}{YP:World->Heap->Prop}{d:DefRec}
  (hn:l.most=some n) (hdf:d.params.defaults=[])
  (call:∀(w:World) (s₀ s₁:Shared) (mg mb:Str->Option Value) (fa:Addr) (o:Obj) (pm cd doc:Value) (a:Addr) (vs:List Value) (ns:List Int),
   Ground q loose [] XP w s₀ mg mb s₁.heap->YP w s₁.heap->
   s₁.heap.get? fa=some o->o.data=.func (docDef d.name d.params d.body d.scope pm cd doc)->s₁.heap.CodeRec cd d.name->mg d.name=some (.ref fa)->
   s₁.heap.get? a=some { cls:=.type "list",data:=.seq vs.toArray }->IntsAre vs ns->ns.length<=n->s₁.gens=#[]->
   codeAny (model l.prog w) callerA (.call (.ref fa) ⟨[.ref a],[]⟩) (λ r s'=>r=.ok (.ret (.bool true))/\OldK s₁.heap s'.heap/\s'.os=s₁.os/\AllBare s'.gens) s₁):
  WalkO q loose XP YP l.row.toRowW d [] (λ f vs=>PySem.call f vs):=by
 intro w s₀ s₁ mg mb G Y fa o pm cd doc dV kV ho hd hcd hD hmg hg args vals as hpre hlay hrd hwl hlo;obtain rfl:dV=.none:=Dflts.none hD hdf;obtain rfl:kV=.none:=Dflts.noKw hD;obtain ⟨a,vs,ns,rfl,rfl,hobj,hints,hlen⟩:=j4 hn hpre hwl;refine enter_call (codeAny_mono (call w s₀ s₁ mg mb fa o pm cd doc a vs ns G Y ho (fd_plain hd) hcd hmg hobj hints hlen hg) λ r s' hq=>?_)
 obtain ⟨rfl,h2,h3,h4⟩:=hq;exact ⟨.inl ⟨.bool true,.bool true,[],rfl,λ _=>rfl,.bool true,pY l _,λ _=>⟨List.Pairwise.nil,λ _ hm=>(nomatch hm)⟩⟩,h2,h3,h4⟩
end Att
namespace L2
open PySem PySem.Spec PyProof.Rows
theorem bO:∀{vs:List Value} {ns:List Int},IntsAre vs ns->Vals (ns.map V.int) vs
 | _,_,.nil=>.nil
 | _,_,.cons n t h=>.cons ⟨t,rfl⟩ (bO h)
def Only (H:Hp):Prop:=∀b,H b=none\/∃o xs,H b=some (.frz o (.lst xs))
theorem nQ {P:Program}{w:World}{K:FrG}{mg mb:Str->Option Value}{CX:CXT}{k:Nat}{fa a:Addr}{fd:FuncData}{x:Str}{sp:Sp}{s₁:Shared}{vs:List Value}{ns:List Int}
  (KX:K.In s₁.heap) (hns:s₁.heap.Ns mainGlobals mg) (hb:s₁.heap.Ns builtinsNs mb) (hbb:∀x:Str,x≠"__name__"->mb x=bootBuiltins x) (hlim:s₁.heap.NoLimit) (hg:s₁.gens=#[])
  (ha:s₁.heap.get? a=some { cls:=.type "list",data:=.seq vs.toArray }) (hi:IntsAre vs ns) (hl:ns.length<=sizeLine) (hr:Room k callerA)
  (F:∀base:Heap,K.In base->base.Ns mainGlobals mg->FnOk P w K mg base CX k fa fd [x] sp) (hbind:∀(s:Shared) (u:Value),BindsTo s fd ⟨[u],[]⟩ [(x,u)])
  (hsp:∀H:Hp,Only H->SqL K H a (ns.map V.int)->sp [.ref a] H (λ v _=>v=.bl true) λ _ _ _=>False)
  (hCX:∀H e s',CX [] H s₁ (λ _ _ _=>False) e s'->False):
  codeAny (model P w) callerA (.call (.ref fa) ⟨[.ref a],[]⟩) (λ r s'=>r=.ok (.ret (.bool true))/\OldK s₁.heap s'.heap/\s'.os=s₁.os/\AllBare s'.gens) s₁:=by
 have rv:=bO hi;have lenV:=hi.length;have core:∀H:Hp,Only H->SqL K H a (ns.map V.int)->HOk P w H s₁.heap->(∀b,H b≠none->b=a)->(H a≠none->K.lookup a=none)->
   codeAny (model P w) callerA (.call (.ref fa) ⟨[.ref a],[]⟩) (λ r s'=>r=.ok (.ret (.bool true))/\OldK s₁.heap s'.heap/\s'.os=s₁.os/\AllBare s'.gens) s₁:=by
  intro H hO hS hok hA hK;have base_of:∀{b:Addr} {o:Obj},s₁.heap.get? b=some o->H b=none->(hidT s₁.heap H).get? b=some o:=λ e n=>uV e n
  have noA:∀{b:Addr} {o:Obj} {es:Array DictEntry} {ep:Nat},s₁.heap.get? b=some o->o.data=.dict es ep->H b=none:=λ {b o es ep} e d=>by
   cases q:H b with
   | none=>rfl
   | some u=>
    have e':b=a:=hA b (by rw [q];simp)
    subst e';rw [ha] at e;cases e;have d':Data.seq vs.toArray _=Data.dict es ep:=d;cases d'
  have nsK:∀{b:Addr} {m:Str->Option Value},s₁.heap.Ns b m->(hidT s₁.heap H).Ns b m:=λ {b m} ⟨o,es,ep,e,d,r⟩=>⟨o,es,ep,base_of e (noA e d),d,r⟩
  have hKb:K.In (hidT s₁.heap H):=λ b o e=>base_of (KX b o e) (by
   cases q:H b with
   | none=>rfl
   | some u=>
    have e':b=a:=hA b (by rw [q];simp)
    subst e';rw [hK (by rw [q];simp)] at e;cases e)
  have hM:Mod K mg (hidT s₁.heap H):=⟨hKb,nsK hns,⟨mb,nsK hb,hbb⟩,let ⟨mc,h1,h2⟩:=hlim;⟨mc,nsK h1,h2⟩⟩
  have e0:Env0 P w K mg (hidT s₁.heap H) callerA [] s₁ H:=⟨rfl,hM,λ b o e=>kW e,Nat.le_of_eq (ym _ _),trivial,λ b hb=>absurd (show b∈([]:List Addr) from hb) (by simp),hok,.of_eq hg⟩
  refine codeAny_mono ((F _ hKb (nsK hns)).run callerA [] s₁ H ⟨[.ref a],[]⟩ [.ref a] [.ref a] _ _ hr e0 (hbind s₁ (.ref a)) (.cons rfl .nil) (hsp H hO hS)) λ r s' h=>?_
  cases r with
  | error e=>exact (hCX H e s' h).elim
  | ok fl=>
   cases fl with
   | next=>exact False.elim h
   | brk=>exact False.elim h
   | cont=>exact False.elim h
   | ret u=>
    obtain ⟨v,H',os,bare,un,hok',r',q⟩:=h;have q':v=.bl true:=q;subst q';obtain rfl:u=Value.bool true:=r';refine ⟨rfl,OldK.of_keep λ b o e=>?_,os,bare⟩
    cases q:H b with
    | none=>exact un.keep b o e q (by intro z;exact absurd (show b∈([]:List Addr) from z) (by simp)) (by simp)
    | some u=>
     rcases hO b with z | ⟨ob,xs,z⟩
     ·rw [q] at z;cases z
     ·have z2:=un.frzs b ob _ z;obtain ⟨e1,_⟩:=hok b _ z;obtain ⟨e2,_⟩:=hok' b _ z2;rw [e] at e1;cases e1;exact e2
 cases hk:K.lookup a with
 | some o=>
  have e:=KX a o hk;rw [ha] at e;cases e
  refine core (λ _=>none) (λ _=>.inl rfl) (.inr ⟨_,vs.toArray,_,hk,rfl,rfl,rfl,by rw [List.size_toArray,lenV];exact hl,by simpa using rv⟩) (λ b u z=>by have z':(none:Option HO)=some u:=z;cases z') (λ b z=>absurd rfl z) λ z=>absurd rfl z
 | none=>
  refine core (λ b=>if b=a then some (.frz { cls:=.type "list",data:=.seq vs.toArray } (.lst (ns.map V.int))) else none) (λ b=>?_) (.inl (.inr ⟨{ cls:=.type "list",data:=.seq vs.toArray },if_pos rfl⟩)) (λ b u z=>?_) (λ b z=>?_) λ _=>hk
  ·by_cases hb:b=a
   ·exact .inr ⟨_,_,if_pos hb⟩
   ·exact .inl (if_neg hb)
  ·by_cases hb:b=a
   ·have z':=(if_pos hb).symm.trans z;cases z'
    subst hb;exact ⟨ha,by rw [List.length_map];exact hl,vs,_,rv,ha⟩
   ·have z':=(if_neg hb).symm.trans z;cases z'
  ·by_cases hb:b=a
   ·exact hb
   ·exact absurd (if_neg hb) z
abbrev KOf {K:FrG}{h:Heap}(_:K.In h):FrG:=K
theorem walk_of {l:PySem.W.OpenLaw}{n k:Nat}{q:Program}{loose:List Str}{XP:(Str->Option Value)->Heap->Prop}{YP:World->Heap->Prop}{d:DefRec}{K:Params->FrG}{CX:World->CXT}{sp:World->Sp}{x:Str}
  (hn:l.most=some n) (hn2:n<=sizeLine) (hdf:d.params.defaults=[]) (hr:Room k callerA)
  (hY:∀(w:World) (h:Heap),YP w h->(K w.params).In h)
  (F:∀(w:World) (mg:Str->Option Value) (fa:Addr) (h:Heap),(K w.params).In h->h.Ns mainGlobals mg->mg d.name=some (.ref fa)->
   ∃fd:FuncData,(∀(s:Shared) (u:Value),BindsTo s fd ⟨[u],[]⟩ [(x,u)])/\
    ∀base:Heap,(K w.params).In base->base.Ns mainGlobals mg->FnOk l.prog w (K w.params) mg base (CX w) k fa fd [x] (sp w))
  (hsp:∀(w:World) (H:Hp) (a:Addr) (ns:List Int),ns.length<=n->Only H->SqL (K w.params) H a (ns.map V.int)->sp w [.ref a] H (λ v _=>v=.bl true) λ _ _ _=>False)
  (hCX:∀(w:World) (H:Hp) (s:Shared) (e:Value) (s':Shared),CX w [] H s (λ _ _ _=>False) e s'->False):
  PySem.W.WalkO q loose XP YP l.row.toRowW d [] (λ f vs=>PySem.call f vs):=by
 refine Att.oZ hn hdf λ w s₀ s₁ mg mb fa o pm cd doc a vs ns G Y ho hd hcd hmg hobj hints hlen hg=>?_
 have KX:=hY w _ Y;obtain ⟨fd,hb,hF⟩:=F w mg fa _ KX G.T.g hmg;exact nQ KX G.T.g G.T.b G.T.builtins G.T.nolimit hg hobj hints (Nat.le_trans hlen hn2) hr hF hb (λ H hO hS=>hsp w H a ns hlen hO hS) λ H e s'=>hCX w H s₁ e s'
def inClass (s:Stmt)(j:Nat):Stmt:=match s with
 | .ClassDef _ _ _ body _ _ _ _ _ _ _=>body.getD j (.Pass ⟨0,0,0,0⟩)
 | _=>.Pass ⟨0,0,0,0⟩
def defArgs (s:Stmt):Arguments:=match s with
 | .FunctionDef _ a _ _ _ _ _ _ _ _=>a
 | _=>{ posonlyargs:=[],args:=[],vararg:=none,kwonlyargs:=[],kw_defaults:=[],kwarg:=none,defaults:=[] }
def defBody (s:Stmt):List Stmt:=match s with
 | .FunctionDef _ _ b _ _ _ _ _ _ _=>b
 | _=>[]
def defScope (s:Stmt):Scope:=match s with
 | .FunctionDef _ _ _ _ _ _ sc _ _ _=>sc
 | _=>{ kind:=.function,names:=[],isGenerator:=false,isCoroutine:=false }
abbrev E0:XK:=λ _ _ _=>False
structure Fun (K:FrG)(x qual:Str)(st:Stmt)(f:Addr)(fd:FuncData):Prop where
 ex:∃(oc:Value) (od:Option Addr) (kV doc pm:Value) (an:Option Addr) (cdv ct:Value) (osl:Array (Option Value)),
  fd=PySem.W.fnOf x qual (defArgs st) (defBody st) (defScope st) .none kV doc pm an cdv ct/\K.lookup f=some ⟨oc,od,.func fd,osl⟩/\PySem.W.codeIn K cdv qual=true
 kp:PySem.W.keepIn K (.ref f)=true
section
variable {P:Program}{w:World}{K:FrG}{mg:Str->Option Value}{base:Heap}
theorem Fun.binds {x qual:Str}{st:Stmt}{f:Addr}{fd:FuncData}{ps:List Str}(F:Fun K x qual st f fd)
  (h:∀(kV doc pm:Value) (an:Option Addr) (cdv ct:Value) (us:List Value),us.length=ps.length->bindArgs (PySem.W.fnOf x qual (defArgs st) (defBody st) (defScope st) .none kV doc pm an cdv ct) ⟨us,[]⟩=pure (ps.zip us)):Binds K fd ps []:=by
 obtain ⟨oc,od,kV,doc,pm,an,cdv,ct,osl,rfl,lk,hcd⟩:=F.ex;exact .all (h kV doc pm an cdv ct)
theorem Dv {x qual:Str}{st:Stmt}{f:Addr}{oc:Value}{od an:Option Addr}{osl:Array (Option Value)}{kV doc pm cdv ct:Value}(l:K.lookup f=some ⟨oc,od,.func (PySem.W.fnOf x qual (defArgs st) (defBody st) (defScope st) .none kV doc pm an cdv ct),osl⟩)
  (c:PySem.W.codeIn K cdv qual=true) (k:PySem.W.keepIn K (.ref f)=true):Fun K x qual st f (PySem.W.fnOf x qual (defArgs st) (defBody st) (defScope st) .none kV doc pm an cdv ct):=⟨⟨oc,od,kV,doc,pm,an,cdv,ct,osl,rfl,l,c⟩,k⟩
end
theorem small1000 {n:Nat}(h:n<=1000):n < sizeLine:=Nat.lt_of_le_of_lt h (by decide)
section
variable {X:Cx}
theorem pv (i:Nat){x:Str}{pos:Pos}(hN:X.N[i]?=some x:=by rfl)(hv:Vis X.env.scope x:=by first | exact Or.inl rfl | exact Or.inr (Or.inl rfl) | exact Or.inr (Or.inr rfl))(hd:(x == ("__debug__":Str))=false:=by decide)
  (hcd:(x == ("__classdict__":Str))=false:=by decide):PE X (.Name x pos) (tVar i):=lR hN hv hd hcd
end
theorem iteF {A B:Prop}(h:B):if false=true then A else B:=by
 rw [if_neg Bool.false_ne_true];exact h
theorem iteT {A B:Prop}(h:A):if true=true then A else B:=by
 rw [if_pos rfl];exact h
theorem ite2 {c A B:Prop}[Decidable c](h1:c->A)(h2:¬ c->B):if c then A else B:=by
 by_cases h:c
 ·rw [if_pos h];exact h1 h
 ·rw [if_neg h];exact h2 h
def Same (H H':Hp):Prop:=∀b o,H b=some o->H' b=some o
theorem Same.refl (H:Hp):Same H H:=λ _ _ h=>h
theorem Same.trans {H H1 H2:Hp}(a:Same H H1)(b:Same H1 H2):Same H H2:=λ c o h=>b c o (a c o h)
theorem Same.free {H H':Hp}(e:Same H H'){l:Addr}(h:H' l=Option.none):H l=Option.none:=by
 cases q:H l with
 | none=>rfl
 | some o=>
  rw [e l o q] at h;cases h
theorem Same.seq {K:FrG}{H H':Hp}{a:Addr}{xs:List V}(e:Same H H')(h:SqL K H a xs):SqL K H' a xs:=by
 rcases h with (h | ⟨o,h⟩) | h
 ·exact .inl (.inl (e _ _ h))
 ·exact .inl (.inr ⟨o,e _ _ h⟩)
 ·exact .inr h
section
variable {X:Cx}
def WL (_ j:Int):Prop:=j≠0/\j.natAbs.log2 < 9000
theorem Mu:OpR X (binaryOp .FloorDiv) (rI WL λ i j=>.int (i.fdiv j)):=opI λ _ _ _ _ _ _ _ hc q=>floordiv_int hc.1 q (.inl (PyProof.noPylong_of_log2 hc.2))
theorem ao {i:Int}{k:Nat}(h:i.natAbs < 2 ^ k):Builtin.Int.intBits i<=k:=by
 unfold Builtin.Int.intBits
 split
 ·exact Nat.zero_le _
 ·rename_i z
  have z':i.natAbs≠0:=λ e=>z (beq_iff_eq.mpr (Int.natAbs_eq_zero.mp e))
  exact (Nat.log2_lt z').mpr h
def CMulW (i j:Int):Prop:=i.natAbs < 2 ^ 10000/\j.natAbs < 2 ^ 10000
theorem CMulW.ok {i j:Int}(h:CMulW i j):IntMulOk i j:=.of_bits (Nat.le_trans (ao h.1) (by decide)) (Nat.le_trans (ao h.2) (by decide))
theorem Dd:OpR X (binaryOp .Mult) (rI CMulW λ i j=>.int (i * j)):=opI λ _ _ _ _ _ _ _ hc q=>mul_int q hc.ok
end
mutual
inductive DV (K:FrG)(H:Hp):V->PyData->Prop
 | non:DV K H .non .none
 | bl (b:Bool):DV K H (.bl b) (.bool b)
 | int (i:Int):DV K H (.int i) (.int i)
 | str (x:Str):DV K H (.str x) (.str x)
 | lst {a:Addr} {xs:List V} {ds:List PyData}:SqL K H a xs->DVs K H xs ds->DV K H (.ref a) (.list ds)
 | tup {a:Addr} {xs:List V} {ds:List PyData}:SqT K H a xs->DVs K H xs ds->DV K H (.ref a) (.tuple ds)
 | dct {a:Addr} {kvs:List (Key×V)}:H a=some (.dK kvs)->DV K H (.ref a) (.dict [])
inductive DVs (K:FrG)(H:Hp):List V->List PyData->Prop
 | nil:DVs K H [] []
 | cons {v:V} {vs:List V} {d:PyData} {ds:List PyData}:DV K H v d->DVs K H vs ds->DVs K H (v::vs) (d::ds)
end
section
variable {X:Cx}{pins:List (Addr×Obj)}{σ:St}{H:Hp}{s:Shared}
mutual
theorem DV.reads (I:Inv X pins σ H s):∀{v:V} {d:PyData},DV X.K H v d->d.canLay0=true->∀{u:Value},RelV v u->∃as,Reads s.heap u d as
 | _,_,.non,_,_,r=>by cases r;exact ⟨_,.none⟩
 | _,_,.bl b,_,_,r=>by cases r;exact ⟨_,.bool b⟩
 | _,_,.int i,_,_,r=>by obtain ⟨t,rfl⟩:=r;exact ⟨_,.int i t⟩
 | _,_,.str x,_,_,r=>by obtain ⟨t,rfl⟩:=r;exact ⟨_,.str x t⟩
 | _,_,.lst h q,c,_,r=>by
  cases r
  obtain ⟨its,rv,pl,_⟩:=I.list h;obtain ⟨as,ra⟩:=DVs.reads I q c rv;obtain ⟨o,ho,hc,n,hd⟩:=id pl.isList;exact ⟨_,.list ho hc hd ra⟩
 | _,_,.tup h q,c,_,r=>by
  cases r
  obtain ⟨its,rv,pl,_⟩:=I.tuple h;obtain ⟨as,ra⟩:=DVs.reads I q c rv;obtain ⟨o,ho,hc,n,hd⟩:=id pl;exact ⟨_,.tuple ho hc hd ra⟩
 | _,_,.dct h,c,_,r=>nomatch c
theorem DVs.reads (I:Inv X pins σ H s):∀{vs:List V} {ds:List PyData},DVs X.K H vs ds->PyData.canLayAll0 ds=true->∀{us:List Value},Vals vs us->∃as,ReadsAll s.heap us ds as
 | _,_,.nil,_,_,r=>by cases r;exact ⟨_,.nil⟩
 | _,_,.cons h q,c,_,r=>by
  rw [PyData.canLayAll0] at c;cases r with
  | cons r1 r2=>
   obtain ⟨a1,z1⟩:=DV.reads I h (Bool.and_eq_true_iff.mp c).1 r1;obtain ⟨a2,z2⟩:=DVs.reads I q (Bool.and_eq_true_iff.mp c).2 r2;exact ⟨_,.cons z1 z2⟩
end
end
section
variable {X:Cx}
def Ot (K:FrG):R2:=λ x y H Q=>∃d e,DV K H x d/\DV K H y e/\SeqAt.shaped d=true/\SeqAt.shaped e=true/\Q (.bl (PyData.eqv d e)) H
def Ru (K:FrG):R2:=λ x y H Q=>∃d e,DV K H x d/\DV K H y e/\SeqAt.shaped d=true/\SeqAt.shaped e=true/\Q (.bl (!PyData.eqv d e)) H
theorem Uk (hu:X.A.units+64 < cLine):OpR X (compareOp .Eq) (Ot X.K):=by
 intro pins s σ H x y v u Q I rx ry h;obtain ⟨d,e,hd,he,sd,se,q⟩:=h;obtain ⟨a1,r1⟩:=hd.reads I (SeqAt.canLay_of_shaped sd) rx;obtain ⟨a2,r2⟩:=he.reads I (SeqAt.canLay_of_shaped se) ry;exact eq_dataH r1 r2 sd se hu ⟨.bl _,H,I,rfl,q⟩
theorem RK (hu:X.A.units+64 < cLine):OpR X (compareOp .NotEq) (Ru X.K):=by
 intro pins s σ H x y v u Q I rx ry h;obtain ⟨d,e,hd,he,sd,se,q⟩:=h;obtain ⟨a1,r1⟩:=hd.reads I (SeqAt.canLay_of_shaped sd) rx;obtain ⟨a2,r2⟩:=he.reads I (SeqAt.canLay_of_shaped se) ry;exact ne_dataH r1 r2 sd se hu ⟨.bl _,H,I,rfl,q⟩
end
structure TopFn (K:FrG)(mg:Str->Option Value)(x:Str)(st:Stmt):Prop where
 ex:∃(f:Addr) (fd:FuncData),Fun K x x st f fd/\mg x=some (.ref f)
theorem Ah {H:Hp}{p:Addr}(h:H p=none)(o:HO):Same H (upd H p o):=λ b u q=>by rw [Av (Bm q h)];exact q
theorem Zf:bootBuiltins "int"=some (.type "int"):=by decide+kernel
theorem lJ:bootBuiltins "bool"=some (.type "bool"):=by decide+kernel
theorem Ox:bootBuiltins "tuple"=some (.type "tuple"):=by decide+kernel
theorem ZR:bootBuiltins "list"=some (.type "list"):=by decide+kernel
theorem Mh:bootBuiltins "str"=some (.type "str"):=by decide+kernel
theorem Dq:bootBuiltins "len"=some (.builtin "len"):=by decide+kernel
theorem V5:bootBuiltins "abs"=some (.builtin "abs"):=by decide+kernel
theorem ZD:bootBuiltins "all"=some (.builtin "all"):=by decide+kernel
theorem GF:bootBuiltins "isinstance"=some (.builtin "isinstance"):=by decide+kernel
def Br (t T:String):Option Bool:=if (Value.type t == Value.type T)=true then some true else if PySem.W.kitMeta T=true then (fastBuiltinMro t).map (·.contains (Value.type T)) else none
theorem yj {K:FrG}{t T:String}{b:Bool}(h:Br t T=some b):PySem.W.kitOne K (.type t) (.type T)=some b:=h
theorem BV {K:FrG}{h:Heap}{mg:Str->Option Value}{x:Str}{st:Stmt}{f:Addr}{oc:Value}{od an:Option Addr}{sl:Array (Option Value)}{kV dc pm cd ct:Value}(X:K.In h)(G:h.Ns mainGlobals mg)
  (a:PySem.W.nsIn K mainGlobals x=some (some (.ref f))) (l:K.lookup f=some ⟨oc,od,.func (PySem.W.fnOf x x (defArgs st) (defBody st) (defScope st) .none kV dc pm an cd ct),sl⟩) (c:PySem.W.codeIn K cd x=true) (k:PySem.W.keepIn K (.ref f)=true):TopFn K mg x st:=
 ⟨f,_,Dv l c k,PySem.W.mg_of X G a⟩
section
variable {X:Cx}{es:List Expr}{te:TE}{t:TA}
theorem BJ {c:Const}{j:Nat}{p:Pos}(ha:PE X (.Constant c j p) te)(hr:PA X es t):PA X (.Constant c j p::es) (tCons te t):=Dn ha hr (by rfl)
theorem Ad {x:Str}{p:Pos}(ha:PE X (.Name x p) te)(hr:PA X es t):PA X (.Name x p::es) (tCons te t):=Dn ha hr (by rfl)
theorem Bb {xs:List Expr}{k:Nat}{p:Pos}(ha:PE X (.Tuple xs k p) te)(hr:PA X es t):PA X (.Tuple xs k p::es) (tCons te t):=Dn ha hr (by rfl)
theorem BX {f:Expr}{as:List Expr}{kw:List Keyword}{p:Pos}(ha:PE X (.Call f as kw p) te)(hr:PA X es t):PA X (.Call f as kw p::es) (tCons te t):=Dn ha hr (by rfl)
theorem Bu {a:Expr}{o:Operator}{b:Expr}{p:Pos}(ha:PE X (.BinOp a o b p) te)(hr:PA X es t):PA X (.BinOp a o b p::es) (tCons te t):=Dn ha hr (by rfl)
theorem LR {o:UnaryOp}{a:Expr}{p:Pos}(ha:PE X (.UnaryOp o a p) te)(hr:PA X es t):PA X (.UnaryOp o a p::es) (tCons te t):=Dn ha hr (by rfl)
theorem Ar {a b:Expr}{p:Pos}(ha:PE X (.Subscript a b p) te)(hr:PA X es t):PA X (.Subscript a b p::es) (tCons te t):=Dn ha hr (by rfl)
theorem gh {a b c:Expr}{p:Pos}(ha:PE X (.IfExp a b c p) te)(hr:PA X es t):PA X (.IfExp a b c p::es) (tCons te t):=Dn ha hr (by rfl)
end
theorem pK (o:Obj)(f:Array Value->Array Value):(o.mapFields f).dict=o.dict:=by
 obtain ⟨c,d,dt,sl⟩:=o;cases dt<;>rfl
inductive Chn (h:Heap):Value->Prop
 | none:Chn h .none
 | ref {b:Addr} {o:Obj} {vs:Array Value} {cx:Value}:h.get? b=some o->o.data=.fields vs->vs[2]?=some cx->Chn h cx->Chn h (.ref b)
theorem Chn.mono {h h':Heap}(k:∀b o vs,h.get? b=some o->o.data=.fields vs->∃o' vs',h'.get? b=some o'/\o'.data=.fields vs'/\vs'[2]?=vs[2]?){v:Value}(c:Chn h v):Chn h' v:=by
 induction c with
 | none=>exact .none
 | ref e d t _ ih=>
  obtain ⟨o',vs',e',d',t'⟩:=k _ _ _ e d;exact .ref e' d' (t'.trans t) ih
def ug (base:Heap)(e:Addr)(c:Value)(d:Option Addr)(fl:Value)(h:Heap):Prop:=
 ∃(o oT:Obj) (vs ts:Array Value) (T:Addr),h.get? e=some o/\o.cls=c/\o.dict=d/\o.data=.fields vs/\vs[1]?=some (.ref T)/\base.get? T=none/\T≠e/\h.get? T=some oT/\oT.data=.fields ts/\ts[3]?=some fl/\∃cx,vs[2]?=some cx/\Chn h cx
def FlyD (base:Heap)(l:List Env)(e:Addr)(c:Value)(d:Option Addr)(fl:Value)(h:Heap):Prop:=
 base.StaysIn h/\base.get? e=none/\h.FunFrames base l/\ug base e c d fl h
theorem FlyD.there {base h:Heap}{l:List Env}{e:Addr}{c:Value}{d:Option Addr}{fl:Value}(x:FlyD base l e c d fl h):∃ob,h.get? e=some ob/\ob.cls=c/\ob.dict=d/\∃vs,ob.data=.fields vs:=by
 obtain ⟨_,_,_,o,_,vs,_,_,h1,h2,h3,h4,_⟩:=x;exact ⟨o,h1,h2,h3,vs,h4⟩
theorem FlyD.pop {base h:Heap}{env:Env}{l:List Env}{e:Addr}{c:Value}{d:Option Addr}{fl:Value}(x:FlyD base (env::l) e c d fl h):FlyD base l e c d fl h:=⟨x.1,x.2.1,x.2.2.1.2.2,x.2.2.2⟩
section
variable {M:Model}{A:Around}{E:Value->Shared->Prop}{s:Shared}{base:Heap}{env:Env}{outer l:List Env}{L e:Addr}{c:Value}{d:Option Addr}
theorem YF {o:Obj}{vs:Array Value}{head:Value}{hn:Bool}{Q:Unit->Shared->Prop}(hfr:A.frames=some (env::outer))(hf:env.frame=some L)(st:base.StaysIn s.heap)(ne:base.get? e=none)
  (fr:s.heap.FunFrames base (env::outer)) (he:s.heap.get? e=some o) (hd:o.data=.fields vs) (hz:1 < vs.size) (hcx:∃cx,vs[2]?=some cx/\Chn s.heap cx)
  (h:∀h',FlyD base (env::outer) e o.cls o.dict (rawInt L) h'->s.heap.UpToSlots h'->Q () { s with heap:=h' }):
  wpAny M A (frameOf env >>= λ a=>entryPlaceOf L hn >>= λ pl=>EntryCells.newEntry head a .none (rawInt L) .none pl >>= λ b=>setField (.ref e) 1 b) Q E s:=by
 have eL:e∉(env::outer).filterMap (·.frame):=λ m=>by
  obtain ⟨_,u,hu,nf⟩:=fr.mem m;rw [he] at hu;cases hu;exact nf vs hd
 refine wpAny_bind (wpAny_frameOf_fun hfr fr hf λ h1 so=>wpAny_bind (wpAny_entryPlaceOf λ pl hp=>?_))
 have he1:h1.get? e=some o:=(so.2.1 e eL).trans he;have Te:h1.objs.size≠e:=Nat.ne_of_gt (Heap.lt_size he1);have st1:base.StaysIn h1:=λ b u q=>(so.2.1 b λ m=>by rw [(fr.mem m).1] at q;cases q).trans (st b u q)
 have key:∀(oT:Obj) (ts:Array Value),oT.data=.fields ts->ts[3]?=some (rawInt L)->wpAny M A (setField (.ref e) 1 (.ref h1.objs.size)) Q E { s with heap:=h1.push oT }:=by
  intro oT ts dT t3;have he2:=Heap.get?_push_of_some (h:=h1) oT he1;have hT2:(h1.push oT).get? h1.objs.size=some oT:=Heap.get?_push_size h1 (Obj.isFreed_of_fields dT);have oth:∀b u,b≠e->h1.get? b=some u->((h1.push oT).update e (Obj.mapFields (·.setIfInBounds 1 (Value.ref h1.objs.size)))).get? b=some u:=λ b u n q=>by
   rw [Heap.get?_update_other _ _ (Ne.symm n)];exact Heap.get?_push_of_some _ q
  have nrec:∀b u,s.heap.get? b=some u->(∀xs,u.data≠.fields xs)->b≠e:=λ b u q nf z=>by
   subst z;rw [he] at q;cases q;exact nf vs hd
  refine wpAny_setField he2 hd hz (h _ ⟨λ b u q=>oth b u (λ z=>by rw [z,ne] at q;cases q) (st1 b u q),ne,fr.of_keeps λ b u q nf=>?_,_,oT,_,ts,h1.objs.size,
   Heap.get?_update_self _ he2 (Obj.isFreed_of_fields (Obj.data_mapFields hd _)),Obj.cls_mapFields _ _,pK _ _,Obj.data_mapFields hd _,by simp [hz],st1.fresh,Te,?_,dT,t3,?_⟩ λ b u q nf=>?_)
  ·obtain ⟨sl,z⟩:=so.2.2 b u q;exact ⟨_,oth b _ (nrec b u q nf) z,rfl⟩
  ·rw [Heap.get?_update_other _ _ (Ne.symm Te)];exact hT2
  ·obtain ⟨cx,c1,c2⟩:=hcx;refine ⟨cx,by rw [Array.getElem?_setIfInBounds_ne (by decide)];exact c1,c2.mono λ b u us q d=>?_⟩
   by_cases hb:b=e
   ·subst hb;rw [he] at q;cases q
    rw [hd] at d;cases d
    exact ⟨_,_,Heap.get?_update_self _ he2 (Obj.isFreed_of_fields (Obj.data_mapFields hd _)),Obj.data_mapFields hd _,Array.getElem?_setIfInBounds_ne (by decide)⟩
   ·have nb:b∉(env::outer).filterMap (·.frame):=λ m=>by
     obtain ⟨_,u',hu,nf⟩:=fr.mem m;rw [q] at hu;cases hu;exact nf us d
    exact ⟨u,us,oth b u hb ((so.2.1 b nb).trans q),d,rfl⟩
  ·obtain ⟨sl,z⟩:=so.2.2 b u q;exact ⟨sl,oth b _ (nrec b u q nf) z⟩
 unfold EntryCells.newEntry newFields;refine wpAny_bind (wpAny_newObj_type (key _ _ rfl ?_) (hp.sizeOk5 _ _ _ _ _));rcases hp with rfl | ⟨_,_,_,_,_,_,_,rfl⟩<;>simp
theorem Mj {fl:Value}{Q:Unit->Shared->Prop}(x:FlyD base l e c d fl s.heap)(h:∀h',FlyD base l e c d .none h'->s.heap.UpToSlots h'->Q () { s with heap:=h' }):
  wpAny M A (setFlight (.ref e) none) Q E s:=by
 obtain ⟨st,ne,fr,o,oT,vs,ts,T,he,hc,hdd,hd,h1,nT,Te,hT,dT,h3,cx,c1,c2⟩:=x;have z3:3 < ts.size:=(Array.getElem?_eq_some_iff.mp h3).1;have oth:∀b,b≠T->(s.heap.update T (Obj.mapFields (·.setIfInBounds 3 Value.none))).get? b=s.heap.get? b:=λ b n=>Heap.get?_update_other _ _ (Ne.symm n)
 have nrec:∀b u,s.heap.get? b=some u->(∀xs,u.data≠.fields xs)->b≠T:=λ b u q nf z=>by
  subst z;rw [hT] at q;cases q;exact nf ts dT
 have kT:Chn (s.heap.update T (Obj.mapFields (·.setIfInBounds 3 Value.none))) cx:=c2.mono λ b u us q d=>by
  by_cases hb:b=T
  ·subst hb;rw [hT] at q;cases q
   exact ⟨_,_,Heap.get?_update_self _ hT (Obj.isFreed_of_fields (Obj.data_mapFields d _)),Obj.data_mapFields d _,Array.getElem?_setIfInBounds_ne (by decide)⟩
  ·exact ⟨u,us,(oth b hb).trans q,d,rfl⟩
 unfold setFlight;refine wpAny_bind (wpAny_field he hd h1 ?_);rw [if_pos (show (Value.ref T != Value.none)=true by simp)]
 refine wpAny_setField hT dT z3 (h _ ⟨λ b u q=>(oth b λ z=>by rw [z,nT] at q;cases q).trans (st b u q),ne,fr.of_keeps λ b u q nf=>⟨u,(oth b (nrec b u q nf)).trans q,rfl⟩,
  o,_,vs,_,T,(oth e (Ne.symm Te)).trans he,hc,hdd,hd,h1,nT,Te,Heap.get?_update_self _ hT (Obj.isFreed_of_fields (Obj.data_mapFields dT _)),Obj.data_mapFields dT _,by simp [z3],cx,c1,kT⟩ λ b u q nf=>⟨u.slots,(oth b (nrec b u q nf)).trans q⟩)
theorem Wx {Q:Unit->Shared->Prop}(hfr:A.frames=some (env::outer))(hf:env.frame=some L)(x:FlyD base (env::outer) e c d .none s.heap)
  (h:∀h',FlyD base (env::outer) e c d (rawInt L) h'->s.heap.UpToSlots h'->Q () { s with heap:=h' }):wpAny M A (noteFrame (.ref e) env) Q E s:=by
 obtain ⟨st,ne,fr,o,oT,vs,ts,T,he,hc,hdd,hd,h1,nT,Te,hT,dT,h3,cx,c1,c2⟩:=x;subst hc hdd;have oth:∀b,b≠T->(s.heap.update T (Obj.mapFields (·.setIfInBounds 3 Value.none))).get? b=s.heap.get? b:=λ b n=>Heap.get?_update_other _ _ (Ne.symm n)
 have nrec:∀b u,s.heap.get? b=some u->(∀xs,u.data≠.fields xs)->b≠T:=λ b u q nf z=>by
  subst z;rw [hT] at q;cases q;exact nf ts dT
 have kT:Chn (s.heap.update T (Obj.mapFields (·.setIfInBounds 3 Value.none))) cx:=c2.mono λ b u us q d=>by
  by_cases hb:b=T
  ·subst hb;rw [hT] at q;cases q
   exact ⟨_,_,Heap.get?_update_self _ hT (Obj.isFreed_of_fields (Obj.data_mapFields d _)),Obj.data_mapFields d _,Array.getElem?_setIfInBounds_ne (by decide)⟩
  ·exact ⟨u,us,(oth b hb).trans q,d,rfl⟩
 unfold noteFrame;simp only [hf];refine wpAny_bind (wpAny_field he hd h1 ?_);rw [if_pos (show (Value.ref T != Value.none)=true by simp)];refine wpAny_bind (wpAny_field hT dT h3 ?_)
 rw [if_neg (show ¬ ((Value.none == rawInt L)=true) by simp [rawInt])];refine wpAny_bind (wpAny_setField hT dT (Array.getElem?_eq_some_iff.mp h3).1 ?_)
 refine YF (s:={ s with heap:=s.heap.update T (Obj.mapFields (·.setIfInBounds 3 Value.none)) }) hfr hf (λ b u q=>(oth b λ z=>by rw [z,nT] at q;cases q).trans (st b u q)) ne (fr.of_keeps λ b u q nf=>⟨u,(oth b (nrec b u q nf)).trans q,rfl⟩)
  ((oth e (Ne.symm Te)).trans he) hd (Array.getElem?_eq_some_iff.mp h1).1 ⟨cx,c1,kT⟩ λ h' f up=>h h' f λ b u q nf=>up b u ((oth b (nrec b u q nf)).trans q) nf
theorem vR {o:Obj}{vs:Array Value}{Q:Unit->Shared->Prop}(hfr:A.frames=some (env::outer))(hf:env.frame=some L)(st:base.StaysIn s.heap)(ne:base.get? e=none)
  (fr:s.heap.FunFrames base (env::outer)) (he:s.heap.get? e=some o) (hd:o.data=.fields vs) (h1:vs[1]?=some .none) (hcx:∃cx,vs[2]?=some cx/\Chn s.heap cx)
  (h:∀h',FlyD base (env::outer) e o.cls o.dict (rawInt L) h'->s.heap.UpToSlots h'->Q () { s with heap:=h' }):wpAny M A (noteFrame (.ref e) env) Q E s:=by
 unfold noteFrame;simp only [hf];refine wpAny_bind (wpAny_field he hd h1 ?_);rw [if_neg (by decide)]
 exact YF hfr hf st ne fr he hd (Array.getElem?_eq_some_iff.mp h1).1 hcx h
theorem gU {o:Obj}{vs:Array Value}{Q:Unit->Shared->Prop}(hfr:A.frames=some (env::outer))(hf:env.frame=some L)(st:base.StaysIn s.heap)(ne:base.get? e=none)
  (fr:s.heap.FunFrames base (env::outer)) (he:s.heap.get? e=some o) (hd:o.data=.fields vs) (h1:vs[1]?=some .none) (hcx:∃cx,vs[2]?=some cx/\Chn s.heap cx)
  (h:∀h',FlyD base outer e o.cls o.dict .none h'->s.heap.UpToSlots h'->Q () { s with heap:=h' }):wpAny M A (leaving env (.ref e)) Q E s:=
 wpAny_bind (vR hfr hf st ne fr he hd h1 hcx λ h1 f1 u1=>Mj (s:={ s with heap:=h1 }) f1 λ h2 f2 u2=>h h2 f2.pop (u1.trans u2))
theorem xF {Q:Unit->Shared->Prop}(hfr:A.frames=some (env::outer))(hf:env.frame=some L)(x:FlyD base (env::outer) e c d .none s.heap)
  (h:∀h',FlyD base outer e c d .none h'->s.heap.UpToSlots h'->Q () { s with heap:=h' }):wpAny M A (leaving env (.ref e)) Q E s:=
 wpAny_bind (Wx hfr hf x λ h1 f1 u1=>Mj (s:={ s with heap:=h1 }) f1 λ h2 f2 u2=>h h2 f2.pop (u1.trans u2))
end
def ExcAt (a C:Addr)(h:Heap):Prop:=∃o,h.get? a=some o/\o.cls=.ref C
theorem ObjOk.some_of {P:Program}{w:World}{H:Hp}{h:Heap}{a:Addr}{o:HO}(x:ObjOk P w H h a o):∃u,h.get? a=some u:=by
 cases o with
 | lst xs=>obtain ⟨_,_,_,_,e⟩:=x;exact ⟨_,e⟩
 | tup xs=>obtain ⟨_,_,_,p⟩:=x;obtain ⟨o,e,_⟩:=p;exact ⟨_,e⟩
 | dK kvs=>obtain ⟨_,_,_,_,o,_,_,e,_⟩:=x;exact ⟨_,e⟩
 | dT kvs=>obtain ⟨_,_,_,_,o,_,_,e,_⟩:=x;exact ⟨_,e⟩
 | set S n=>obtain ⟨o,_,_,_,e,_⟩:=x;exact ⟨_,e⟩
 | ins C dx fs=>obtain ⟨_,_,_,e,_⟩:=x;exact ⟨_,e⟩
 | own y=>obtain ⟨_,e⟩:=x;exact ⟨_,e⟩
 | xd fs=>obtain ⟨_,⟨_,_,_,e,_⟩,_⟩:=x;exact ⟨_,e⟩
 | rng lo hi=>obtain ⟨_,_,_,e⟩:=x;exact ⟨_,e⟩
 | frz ob u=>obtain ⟨e,_⟩:=x;exact ⟨_,e⟩
 | tbl ps=>exact ⟨_,(show h.get? a=some _ from x)⟩
 | met f y=>exact ⟨_,(show h.get? a=some _ from x)⟩
 | ext φ=>obtain ⟨_,⟨_,e⟩,_⟩:=x;exact ⟨_,e⟩
theorem HOk.none_of {P:Program}{w:World}{H:Hp}{h:Heap}{a:Addr}(x:HOk P w H h)(e:h.get? a=none):H a=none:=by
 cases q:H a with
 | none=>rfl
 | some o=>
  obtain ⟨u,z⟩:=(x a o q).some_of;rw [e] at z;cases z
def FQ (P:Program)(w:World):CXT:=λ outer H s E e s'=>∃(a C:Addr) (d:Option Addr) (H':Hp) (B:Heap),e=.ref a/\s'.os=s.os/\AllBare s'.gens/\
 (∀h'':Heap,B.StaysIn h''->s'.heap.UpToSlots h''->Un (frs outer) [] H H' s.heap h''/\HOk P w H' h'')/\FlyD B outer a (.ref C) d .none s'.heap/\H' a=none/\s.heap.get? a=none/\E (.ref C) d H'
structure BodyCx (X:Cx)(E:XK):Prop where
 stk:X.stack=X.env::X.outer
 fr:X.env.frame=some X.env.locals
 ex:X.ex=[]
 xe:X.xe=λ e s'=>wpAny (model X.prog X.w) X.A (leaving X.env e) (λ _ s''=>FQ X.prog X.w X.outer X.H₀ X.s₀ E e s'') (λ e' s''=>FQ X.prog X.w X.outer X.H₀ X.s₀ E e' s'') s'
section
variable {X:Cx}{pins:List (Addr×Obj)}{σ:St}{H:Hp}{s:Shared}
theorem YX {E:XK}(Bd:BodyCx X E){b:Addr}:b∈frs X.stack↔b=X.env.locals\/b∈frs X.outer:=by
 rw [Bd.stk];show b∈List.filterMap (·.frame) (X.env::X.outer)↔_
 rw [List.filterMap_cons,Bd.fr];exact List.mem_cons
theorem Mr {H':Hp}{h'':Heap}{s':Shared}(I:Inv X pins σ H s)(ho:s'.os=s.os)(hg:AllBare s'.gens)(u:Un (frs X.stack) [] H H' s.heap h''/\HOk X.prog X.w H' h''):Inv X pins σ H' { s' with heap:=h'' }:=
 I.call' (s':={ s' with heap:=h'' }) (ch:=[]) ho u.1 u.2 hg λ b z=>nomatch z
theorem cU (I:Inv X pins σ H s)(nx:∀b:Addr,b∉X.ex){a:Addr}(e:s.heap.get? a=none):X.s₀.heap.get? a=none:=by
 cases q:X.s₀.heap.get? a with
 | none=>rfl
 | some o=>
  obtain ⟨o',z⟩:=I.base.there a o q (nx a);rw [e] at z;cases z
theorem UJ {E:XK}(Bd:BodyCx X E):Passes (FQ X.prog X.w) X E:=by
 intro pins σ H s e s' I h;obtain ⟨a,C,t,H',B,rfl,os,bare,clo,fly,na,nw,q⟩:=h;rw [Bd.xe];have hfr:X.A.frames=some (X.env::X.outer):=by rw [<- Bd.stk];exact I.ok.frames
 have fly':FlyD B (X.env::X.outer) a (.ref C) t .none s'.heap:=by rw [<- Bd.stk];exact fly
 refine xF hfr Bd.fr fly' λ h' f1 up=>?_
 have nx:∀b:Addr,b∉X.ex:=λ b z=>by rw [Bd.ex] at z;cases z
 have J0:∀h'':Heap,B.StaysIn h''->h'.UpToSlots h''->Inv X pins σ H' { s' with heap:=h'' }:=λ h'' st up2=>Mr I os bare (clo h'' st (up.trans up2))
 have os0:s'.os=X.s₀.os:=os.trans I.os;refine ⟨a,C,t,H',B,rfl,os0,bare,λ h'' st up2=>?_,f1,na,cU I nx nw,q⟩
 have J:=J0 h'' st up2;have u:=J.base;rw [Bd.ex] at u;exact ⟨u,J.hok⟩
end
theorem uX {K:FrG}{h₀:Heap}{C:Addr}{bmB:List Value}{newId:String}(X:K.In h₀)(q:PySem.W.excIn K C bmB newId=true):
  ∃bm N nm q bs hdct sn sub ab col dd k0 k1 k2 k3 k5 mN,h₀.get? C=some (excClassObj nm q C N bs bm hdct sn sub ab col dd k0 k1 k2 k3 k5 newId)/\h₀.Ns N mN/\mN "__init__"=none/\OwnTail h₀ bmB bm:=by
 unfold PySem.W.excIn at q
 split at q
 ·rename_i dd cd sl ho
  split at q
  ·rename_i C' bm k0 k1 k2 k3 n k5 hm hs
   simp only [Bool.and_eq_true,beq_iff_eq,Bool.not_eq_true'] at q;obtain ⟨⟨⟨⟨⟨rfl,rfl⟩,hdel⟩,ht⟩,hok⟩,hni⟩:=q;obtain ⟨nm,bs,mro,ns,qn,hd,sn,sub,ab,col,del⟩:=cd;dsimp only at hm hdel hok hni
   subst hm hdel;have hsl:sl=#[k0,k1,k2,k3,some (.builtin n),k5]:=by
    obtain ⟨l⟩:=sl;simp only at hs;rw [hs]
   subst hsl;exact ⟨bm,ns,nm,qn,bs,hd,sn,sub,ab,col,dd,k0,k1,k2,k3,k5,_,X _ _ ho,.of_isNs (PySem.W.isNs_of_in X hok),PySem.W.nsMap_none_of_in X hok hni,PySem.W.tail_of_in X ht⟩
  ·cases q
 ·cases q
structure ExcCls (K:FrG)(mg:Str->Option Value)(x:Str)(C:Addr):Prop where
 mg:mg x=some (.ref C)
 ob:PySem.W.excIn K C [.type "ValueError",.type "Exception",.type "BaseException",.type "object"] "ValueError.__new__"=true
structure RoomB (c:Bool)(k:Nat)(A:Around):Prop where
 hd:c=true->A.handled=none
 dp:A.depth+3 * k+5 < recursionLimit
 un:A.units+16 * k+200 < cLine
theorem RoomB.mono {c:Bool}{j k:Nat}{A:Around}(r:RoomB c k A)(h:j<=k):RoomB c j A:=⟨r.hd,by have:=r.dp;omega,by have:=r.un;omega⟩
theorem RoomB.deeper {c:Bool}{k:Nat}{A:Around}(r:RoomB c (k+1) A)(env:Env):RoomB c k (A.deeper env):=
 ⟨r.hd,by have:=r.dp;show A.depth+1+3 * k+5 < _;omega,by have:=r.un;show A.units+3+16 * k+200 < _;omega⟩
theorem RoomB.depth {c:Bool}{k:Nat}{A:Around}(r:RoomB c k A):A.depth < recursionLimit:=by have:=r.dp;omega
theorem RoomB.units {c:Bool}{k:Nat}{A:Around}(r:RoomB c k A):A.units+64 < cLine:=by have:=r.un;omega
theorem Room.b {k:Nat}{A:Around}(r:Room k A):RoomB true k A:=⟨λ _=>r.hd,r.dp,r.un⟩
structure FnB (P:Program)(w:World)(K:FrG)(mg:Str->Option Value)(base:Heap)(c:Bool)(k:Nat)(f:Addr)(fd:FuncData)(ps:List Str)(sp:Sp):Prop where
 len:∀vs H Q E,sp vs H Q E->vs.length=ps.length
 run:∀(A:Around) (outer:List Env) (s:Shared) (H:Hp) (args:Args) (us:List Value) (vs:List V) (Q:VK) (E:XK),RoomB c k A->Env0 P w K mg base A outer s H->BindsTo s fd args (ps.zip us)->Vals vs us->sp vs H Q E->
  codeAny (model P w) A (.call (.ref f) args) (CR (FQ P w) outer P w H s Q E) s
theorem FnB.ok {P:Program}{w:World}{K:FrG}{mg:Str->Option Value}{base:Heap}{k:Nat}{f:Addr}{fd:FuncData}{ps:List Str}{sp:Sp}(F:FnB P w K mg base true k f fd ps sp):FnOk P w K mg base (FQ P w) k f fd ps sp:=
 ⟨F.len,λ A outer s H args us vs Q E hr=>F.run A outer s H args us vs Q E hr.b⟩
def Dy (c:Bool)(P:Program)(w:World)(K:FrG)(mg:Str->Option Value)(base:Heap)(N:List Str)(qual:Str)(scope:Scope)(f:Addr)(cd:Value)(A:Around)(outer:List Env)(s:Shared)(H:Hp)(E:XK):Cx:=
 { cxOf (FQ P w) P w K mg base N qual scope f cd A outer s H E with calm:=c }
theorem OJ {c:Bool}{P:Program}{w:World}{K:FrG}{mg:Str->Option Value}{base:Heap}{N:List Str}{qual:Str}{scope:Scope}{f:Addr}{cd:Value}{A:Around}{outer:List Env}{s:Shared}{H:Hp}{E:XK}:
  BodyCx (Dy c P w K mg base N qual scope f cd A outer s H E) E:=⟨rfl,rfl,rfl,rfl⟩
theorem fC {c:Bool}{P:Program}{w:World}{K:FrG}{mg:Str->Option Value}{base:Heap}{N ps:List Str}{qual:Str}{scope:Scope}{f:Addr}{cd:Value}{A:Around}{outer:List Env}{s s1:Shared}{H:Hp}{E:XK}{us:List Value}{vs:List V}
  (S:FnScope N ps scope) (hd:c=true->A.handled=none) (e0:Env0 P w K mg base A outer s H) (hl:vs.length=ps.length) (r:Vals vs us)
  (x:InCallC s s.heap.objs.size (bindL (envOfC qual scope s.heap.objs.size f cd).kindOf (ps.zip us) λ _=>none) (cellsFrom (s.heap.objs.size+1) scope.names []) (bindC (envOfC qual scope s.heap.objs.size f cd).kindOf (ps.zip us) λ _=>none) s1):
  Inv (Dy c P w K mg base N qual scope f cd A outer s H E) [] (start N vs) H s1:=by
 have hpl:ps.length<=N.length:=by have:=congrArg List.length S.pre;rw [List.length_take] at this;omega
 obtain ⟨h1,tk,rfl,hk⟩:=x.done;have noA:∀b:Addr,b∉(Dy c P w K mg base N qual scope f cd A outer s H E).ex:=λ b z=>absurd (show b∈([]:List Addr) from z) (by simp)
 refine ⟨⟨e0.mod,S.kind,rfl,rfl,Nat.le_refl _,λ y z c h1 h2=>?_,λ y hy=>?_,λ y c _ h=>?_,λ z=>hd z,Around.frames_deeper e0.frames,.inr ⟨rfl,rfl⟩,λ b z=>absurd z (noA b),e0.bs,e0.bsz,λ b _ _=>noA b,λ b z=>absurd z (noA b),e0.funs,e0.frf⟩,
  rfl,e0.bare,Un.kept hk,⟨_,x.toInCall.ns,λ i y v h1 h2 h3=>?_⟩,λ y c h=>⟨_,x.cell y c h⟩,e0.hok.fresh (Nat.le_refl _),λ y c h=>?_,λ p hp=>absurd (show p∈([]:List (Addr×Obj)) from hp) (by simp),e0.hok.kept hk,?_⟩
 ·exact name_of_addr x.apart (PySem.mem_of_lookup h1) (PySem.mem_of_lookup h2)
 ·have hy:scope.names.lookup y=some .cell\/scope.names.lookup y=some .free:=hy;rcases hy with hy | hy
  ·exact R1 hy
  ·exact absurd rfl (S.nofree _ (PySem.mem_of_lookup hy))
 ·exact Nat.le_of_lt (x.above y c (PySem.mem_of_lookup h))
 ·have hi:i < vs.length:=by
   unfold start at h2;by_cases hi:i < vs.length
   ·exact hi
   ·rw [List.getElem?_append_right (by simpa using hi)] at h2
    rw [List.getElem?_replicate] at h2
    split at h2<;>cases h2
  have ha:vs[i]?=some v:=by
   unfold start at h2;rw [List.getElem?_append_left (by simpa using hi),List.getElem?_map] at h2
   cases e:vs[i]? with
   | none=>rw [e] at h2;cases h2
   | some a=>rw [e] at h2;cases h2;rfl
  obtain ⟨u,hu,rv⟩:=r.get ha;have hp:ps[i]?=some y:=by
   rw [<- S.pre,List.getElem?_take_of_lt (by omega)];exact h1
  have ndP:ps.Nodup:=by rw [<- S.pre];exact S.nd.sublist (List.take_sublist _ _)
  refine ⟨u,rv,?_⟩;rcases S.par y (List.mem_of_getElem? hp) with k | k
  ·exact .inl ⟨k,bw ndP hp hu k⟩
  ·obtain ⟨c,e⟩:=R1 (n:=s.heap.objs.size+1) k;refine .inr ⟨.inl k,c,e,?_⟩;have q:=x.cell y c e;rw [cB ndP hp hu (by show scope.names.lookup y≠_;rw [k];decide)] at q
   exact q
 ·exact e0.hok.fresh (Nat.le_of_lt (x.above y c (PySem.mem_of_lookup h)))
 ·unfold start;show _=N.length;rw [List.length_append,List.length_map,List.length_replicate];omega
theorem Jx {c:Bool}{P:Program}{w:World}{K:FrG}{mg:Str->Option Value}{base:Heap}{k:Nat}{f:Addr}{name qual:Str}{params:Arguments}{body:List Stmt}{scope:Scope}{dV kV doc pm cdv ct oc:Value}{an od:Option Addr}
  {osl:Array (Option Value)} {N ps:List Str} {sp:Sp} (lk:K.lookup f=some ⟨oc,od,.func (PySem.W.fnOf name qual params body scope dV kV doc pm an cdv ct),osl⟩) (hcd:PySem.W.codeIn K cdv qual=true) (S:FnScope N ps scope)
  (len:∀vs H Q E,sp vs H Q E->vs.length=ps.length)
  (hbody:∀(A:Around) (outer:List Env) (s:Shared) (H:Hp) (vs:List V) (Q:VK) (E:XK),RoomB c k (A.deeper (envOfC qual scope s.heap.objs.size f cdv))->sp vs H Q E->
   ∃t,PSs (Dy c P w K mg base N qual scope f cdv A outer s H E) body t/\t { nx:=λ _ H'=>Q .non H',rt:=Q } (start N vs) H):
  FnB P w K mg base c (k+1) f (PySem.W.fnOf name qual params body scope dV kV doc pm an cdv ct) ps sp:=by
 refine ⟨len,λ A outer s H args us vs Q E hr e0 hb r hsp=>?_⟩
 have hl:=len _ _ _ _ hsp;have KX:K.In s.heap:=e0.mod.kin.keeps λ b o e=>(e0.bs b o e).1
 have lim:s.heap.NoLimit:=e0.mod.nolimit.keeps λ b o e=>(e0.bs b o e).1
 have hkind:∀y∈ps.zip us,scope.names.lookup y.1=some .local\/(scope.names.lookup y.1=some .cell/\((cellsFrom (s.heap.objs.size+1) scope.names []).lookup y.1).isSome=true):=λ ⟨n,v⟩ hy=>by
  rcases S.par n (List.of_mem_zip hy).1 with q | q
  ·exact .inl q
  ·exact .inr ⟨q,PySem.W.cellsFrom_some _ _ _ (.inl q)⟩
 refine codeAny_call_function hr.depth (KX _ _ lk) rfl S.co S.gen rfl (PySem.W.codeRec_of KX hcd) (hb _ _ _ _ ?_);refine wpAny_newFunctionEnv_cells S.kind hkind λ env he s1 x=>?_
 subst he;refine ⟨lim.keeps x.toInCall.keep,codeAny_func ?_⟩;obtain ⟨t,ht,hq⟩:=hbody A outer s H vs Q E (hr.deeper _) hsp;have I:Inv (Dy c P w K mg base N qual scope f cdv A outer s H E) [] (start N vs) H s1:=fC S hr.hd e0 hl r x;refine wpAny_mono (ht [] s1 (start N vs) H _ I hq) (λ fl s' hs=>?_) λ e s' hs=>hs
 have fin:∀{σ':St} {H':Hp} {v:V} {u:Value},Inv (Dy c P w K mg base N qual scope f cdv A outer s H E) [] σ' H' s'->RelV v u->Q v H'->CE outer P w H s Q u s':=
  λ {σ' H' v u} J rv q=>⟨v,H',J.os,J.bare,J.base,J.hok,rv,q⟩
 cases fl with
 | ret u=>
  obtain ⟨v,σ',H',J,rv,q⟩:=hs;exact fin J rv q
 | next=>
  obtain ⟨σ',H',J,q⟩:=hs;exact fin (v:=V.non) (u:=Value.none) J rfl q
 | brk=>
  obtain ⟨_,_,_,q⟩:=hs;exact False.elim q
 | cont=>
  obtain ⟨_,_,_,q⟩:=hs;exact False.elim q
structure CalB (P:Program)(w:World)(K:FrG)(mg:Str->Option Value)(base:Heap)(c:Bool)(k:Nat)(x:Str)(ps:List Str)(sp:Sp):Prop where
 ex:∃(f:Addr) (fd:FuncData),FnB P w K mg base c k f fd ps sp/\mg x=some (.ref f)/\PySem.W.keepIn K (.ref f)=true/\Binds K fd ps []
theorem TopFn.calB {c:Bool}{P:Program}{w:World}{K:FrG}{mg:Str->Option Value}{base:Heap}{x:Str}{st:Stmt}{N ps:List Str}{k:Nat}{sp:Sp}(T:TopFn K mg x st)(S:FnScope N ps (defScope st))
  (hb:∀(kV doc pm:Value) (an:Option Addr) (cdv ct:Value) (us:List Value),us.length=ps.length->bindArgs (PySem.W.fnOf x x (defArgs st) (defBody st) (defScope st) .none kV doc pm an cdv ct) ⟨us,[]⟩=pure (ps.zip us))
  (len:∀vs H Q E,sp vs H Q E->vs.length=ps.length)
  (hbody:∀(f:Addr) (cdv:Value) (A:Around) (outer:List Env) (s:Shared) (H:Hp) (vs:List V) (Q:VK) (E:XK),RoomB c k (A.deeper (envOfC x (defScope st) s.heap.objs.size f cdv))->sp vs H Q E->
   ∃t,PSs (Dy c P w K mg base N x (defScope st) f cdv A outer s H E) (defBody st) t/\t { nx:=λ _ H'=>Q .non H',rt:=Q } (start N vs) H):CalB P w K mg base c (k+1) x ps sp:=by
 obtain ⟨f,fd,F,hm⟩:=T.ex;obtain ⟨oc,od,kV,doc,pm,an,cdv,ct,osl,rfl,l,cd⟩:=id F.ex;exact ⟨f,_,Jx l cd S len (hbody f cdv),hm,F.kp,F.binds hb⟩
theorem Ai {P:Program}{w:World}{X:Cx}:Passes (FQ P w) X E0:=λ _ _ _ _ _ _ _ h=>by
 obtain ⟨_,_,_,_,_,_,_,_,_,_,_,_,q⟩:=h;exact q.elim
section
variable {X:Cx}{c:Bool}{k:Nat}{ps:List Str}{sp:Sp}{x:Str}{p pos:Pos}{e:Expr}{es:List Expr}{t:TA}{E:XK}
theorem R8 {pins:List (Addr×Obj)}{σ:St}{H:Hp}{s:Shared}{Q:VK}{us:List Value}{vs:List V}{f:Addr}{fd:FuncData}{E':Value->Shared->Prop}(F:FnB X.prog X.w X.K X.mg X.base c k f fd ps sp)(hr:RoomB c k X.A)(hb:Binds X.K fd ps [])
  (I:Inv X pins σ H s) (r:Vals vs us) (h:sp (vs++[]) H Q E) (hx:∀e s',FQ X.prog X.w X.stack H s E e s'->E' e s'):wpAny (model X.prog X.w) X.A (call (.ref f) us) (EP X pins σ Q) E' s:=by
 have r2:Vals (vs++[]) (us++[]):=r.append .nil;have hl:(us++[]).length=ps.length:=by rw [<- r2.length];exact F.len _ _ _ _ h
 refine wpAny_call (codeAny_mono (F.run X.A X.stack s H ⟨us,[]⟩ (us++[]) (vs++[]) Q E hr I.env0 (hb s us I.kIn hl) r2 h) λ r s' hq=>?_)
 cases r with
 | error e=>exact hx e s' hq
 | ok fl=>
  cases fl with
  | ret u=>exact I.after hq
  | next=>exact False.elim hq
  | brk=>exact False.elim hq
  | cont=>exact False.elim hq
theorem Aj (C:CalB X.prog X.w X.K X.mg X.base c k x ps sp)(hr:RoomB c k X.A)(hx:Passes (FQ X.prog X.w) X E)(ha:PA X (e::es) t)(hg:Gl X x:=by rfl)(hdb:(x == ("__debug__":Str))=false:=by decide)
  (he:starEach (e::es) X.env=(false,eval e X.env)::starEach es X.env:=by rfl) (hpl:(backTo pos (starEach es X.env)).any (·.1)=false:=by rfl):
  PE X (.Call (.Name x p) (e::es) [] pos) (tCall sp [] E t):=by
 obtain ⟨f,fd,F,hm,hk,hb⟩:=C.ex;intro pins s σ H Q I h;refine wpAny_Call_Name_kw (Hw I hg hm ?_ hdb);refine PySem.W.callWith_K (h₀:=X.base) I.ok.mod.kin hk (thn (ha pos pins s σ H _ I h) λ us s1 ⟨vs,H1,I1,r,q⟩=>⟨I1.kIn,?_⟩) he hpl
 exact R8 F hr hb I1 r q λ e s' h=>hx pins σ H1 s1 e s' I1 h
end
abbrev Cx.hnd (X:Cx)(a:Addr):Cx:={ X with A:=X.A.mark (some (.ref a)),calm:=false,xe:=λ _ _=>False }
section
variable {X:Cx}{pins:List (Addr×Obj)}{σ:St}{H:Hp}{s:Shared}
theorem Inv.hnd (I:Inv X pins σ H s)(a:Addr):Inv (X.hnd a) pins σ H s:=
 ⟨⟨I.ok.mod,I.ok.kind,I.ok.glob,I.ok.blt,I.ok.above,I.ok.inj,I.ok.has,I.ok.cab,(λ z=>nomatch z),I.ok.frames,I.ok.stk,I.ok.exf,I.ok.bs,I.ok.bsz,I.ok.noex,I.ok.exfs,I.ok.funs,I.ok.frf⟩,I.os,I.bare,I.base,I.loc,I.cell,I.free,I.freeC,I.pin,I.hok,I.len⟩
theorem Inv.unhnd {a:Addr}(I0:X.Ok)(I:Inv (X.hnd a) pins σ H s):Inv X pins σ H s:=⟨I0,I.os,I.bare,I.base,I.loc,I.cell,I.free,I.freeC,I.pin,I.hok,I.len⟩
theorem Oj {M:Model}{A:Around}{E:Value->Shared->Prop}{i:Nat}{n:Str}{pos:Pos}{Q:Unit->Shared->Prop}(I:Inv X pins σ H s)(hN:X.N.Nodup)(hi:X.N[i]?=some n)(hk:X.env.scope.names.lookup n=some .local)
  (h:∀s',Inv X pins (σ.set i none) H s'->Q () s'):wpAny M A (do bindName X.env n .none;unbindBehindTheSuite X.env n pos) Q E s:=by
 obtain ⟨m,hn,hl⟩:=id I.loc;have hcls:(X.env.scope.kind == .class || (X.env.scope.kind == .module && X.env.locals != X.env.globals))=false:=by rw [I.ok.kind];rfl
 have hiσ:i < σ.length:=by rw [I.len];exact (List.getElem?_eq_some_iff.mp hi).1
 have cne:=I.cne;refine wpAny_nameGoes_keeps hk hn hcls λ h' v hn' hs=>?_
 obtain ⟨oL,_,_,hoL,_⟩:=id hn;have tracked:HOk X.prog X.w H h':=λ b ob e=>by
  refine (I.hok b ob e).stay (λ c w' hc q=>(hs.2 c ?_).trans q) (λ _ q=>q) λ _ _ q=>q
  intro z;have hfree:=I.free;rw [<- z] at hfree;rcases hc with hc | hc
  ·rw [hc] at hfree;rw [hfree] at e;cases e
  ·rw [hfree] at hc;cases hc
 refine h _ ⟨I.ok,I.os,I.bare,⟨λ b o e n hb hx=>?_,λ b o e n hb hx=>?_,I.base.free,λ b o e hx=>?_,I.base.tups,I.base.frzs,I.base.tbls⟩,⟨_,hn',λ j y v' e1 e2 e3=>?_⟩,λ y c e=>?_,I.free,I.freeC,λ p hp=>?_,tracked,by simpa using I.len⟩
 ·exact (hs.2 b (Nat.ne_of_lt (Nat.lt_of_lt_of_le (Heap.lt_size e) I.ok.above))).trans (I.base.keep b o e n hb hx)
 ·obtain ⟨sl,e1⟩:=I.base.slot b o e n hb hx;exact ⟨sl,(hs.2 b (Nat.ne_of_lt (Nat.lt_of_lt_of_le (Heap.lt_size e) I.ok.above))).trans e1⟩
 ·obtain ⟨o',e1⟩:=I.base.there b o e hx;exact ⟨o',(hs.2 b (Nat.ne_of_lt (Nat.lt_of_lt_of_le (Heap.lt_size e) I.ok.above))).trans e1⟩
 ·by_cases hj:j=i
  ·subst hj;rw [List.getElem?_set_self hiσ] at e2;cases e2
  ·rw [List.getElem?_set_ne (Ne.symm hj)] at e2;obtain ⟨u',r',q⟩:=hl j y v' e1 e2 e3;refine ⟨u',r',?_⟩;rcases q with ⟨k,e⟩ | ⟨k,c,e,z⟩
   ·refine .inl ⟨k,?_⟩;have:y≠n:=λ e=>hj (Vc hN e1 (e▸hi))
    simp [this,e]
   ·exact .inr ⟨k,c,e,z.sameBut hs (cne y c e)⟩
 ·obtain ⟨w',z⟩:=I.cell y c e;exact ⟨w',z.sameBut hs (cne y c e)⟩
 ·obtain ⟨e,n,ne,nf,d⟩:=I.pin p hp;exact ⟨(hs.2 p.1 ne).trans e,n,ne,nf,d⟩
theorem qM {H':Hp}{h'':Heap}{s':Shared}{a:Addr}{φ:Heap->Prop}(I:Inv X pins σ H s)(ho:s'.os=s.os)(hg:AllBare s'.gens)(u:Un (frs X.stack) [] H H' s.heap h''/\HOk X.prog X.w H' h'')
  (na:H' a=none) (nw:s.heap.get? a=none) (ex:φ h'') (hob:∃o,h''.get? a=some o) (sta:∀h1 h2:Heap,φ h1->(∀o,h1.get? a=some o->h2.get? a=some o)->φ h2):Inv X pins σ (upd H' a (.ext φ)) { s' with heap:=h'' }:=by
 refine Mr I ho hg ⟨⟨u.1.keep,u.1.slot,λ b o e n hx=>?_,u.1.there,λ b xs e=>?_,λ b o x e=>?_,λ b ps e=>?_⟩,λ b o e=>?_⟩
 ·have:b≠a:=λ z=>by rw [z,nw] at e;cases e
  rw [Av this];exact u.1.free b o e n hx
 ·have q:=u.1.tups b xs e;rw [Av (Bm q na)];exact q
 ·have q:=u.1.frzs b o x e;rw [Av (Bm q na)];exact q
 ·obtain ⟨m,q⟩:=u.1.tbls b ps e;exact ⟨m,by rw [Av (Bm q na)];exact q⟩
 ·by_cases hb:b=a
  ·subst hb;rw [Aq] at e;cases e
   exact ⟨ex,hob,sta⟩
  ·rw [Av hb] at e;exact (u.2 b o e).stay (λ c v _ q=>q) (λ c q=>by rw [Av (Bm q na)];exact q) λ c xs q=>by rw [Av (Bm q na)];exact q
theorem PA.any {es:List Expr}{t:TA}(h:PA X.nox es t){E':Value->Shared->Prop}(pos:Pos){Q:List V->Hp->Prop}(I:Inv X pins σ H s)(q:t σ H Q):
  wpAny (model X.prog X.w) X.A (spliced (backTo pos (starEach es X.env))) (AP X pins σ Q) E' s:=
 wpAny_mono (h pos pins s σ H Q (I.wish _) q) (λ us s1 ⟨vs,H1,I1,r,q1⟩=>⟨vs,H1,I1.unwish,r,q1⟩) λ _ _ z=>z.elim
end
abbrev Ends.gone (D:Ends)(i:Nat):Ends:={ nx:=λ σ H=>D.nx (σ.set i none) H,rt:=D.rt,bk:=λ σ H=>D.bk (σ.set i none) H,ct:=λ σ H=>D.ct (σ.set i none) H }
section
variable {X:Cx}{pins:List (Addr×Obj)}{σ:St}{H H2:Hp}{s s':Shared}{a C Bc:Addr}{t:Option Addr}{B:Heap}{D:Ends}{xc n:Str}{np hp:Pos}{b₀:Stmt}{suite:List Stmt}{rest:List ExceptHandler}{ts:TS}{i:Nat}
theorem lu {φ:Heap->Prop}(hφ:∀h o,h.get? a=some o->o.cls=.ref C->o.dict=t->(∃vs,o.data=.fields vs)->φ h)(sta:∀h1 h2:Heap,φ h1->(∀o,h1.get? a=some o->h2.get? a=some o)->φ h2)(I:Inv X pins σ H s)(hst:X.stack=X.env::X.outer)(hf:X.env.frame=some X.env.locals)(os:s'.os=s.os)(bare:AllBare s'.gens)
  (clo:∀h'':Heap,B.StaysIn h''->s'.heap.UpToSlots h''->Un (frs X.stack) [] H H2 s.heap h''/\HOk X.prog X.w H2 h'') (fly:FlyD B X.stack a (.ref C) t .none s'.heap) (na:H2 a=none) (nw:s.heap.get? a=none)
  (hg:Gl X xc) (hcl:X.mg xc=some (.ref Bc)) (hm:PySem.W.exmOne X.K (.ref C) (.ref Bc)=some true) (hs:PSs (X.hnd a) (b₀::suite) ts) (hN:X.N.Nodup) (hi:X.N[i]?=some n) (hloc:X.env.scope.names.lookup n=some .local)
  (q:ts (D.gone i) (σ.set i (some (.ref a))) (upd H2 a (.ext φ))) (hdb:(xc == ("__debug__":Str))=false:=by decide):
  wpAny (model X.prog X.w) X.A (noteFrame (.ref a) X.env) (λ _ s₂=>wpAny (model X.prog X.w) X.A (setFlight (.ref a) none) (λ _ s₃=>
   wpAny (model X.prog X.w) X.A (handleBy (.ref a) X.env (.ExceptHandler (some (.Name xc np)) (some n) (b₀::suite) hp::rest)) (SP X pins D) X.xe s₃) X.xe s₂) X.xe s':=by
 have hfr:X.A.frames=some (X.env::X.outer):=by rw [<- hst];exact I.ok.frames
 have fly':FlyD B (X.env::X.outer) a (.ref C) t .none s'.heap:=by rw [<- hst];exact fly
 refine Wx hfr hf fly' λ h4 held4 up4=>?_
 refine Mj (s:={ s' with heap:=h4 }) held4 λ h5 fly5 up5=>?_
 have J5:Inv X pins σ H2 { s' with heap:=h5 }:=Mr I os bare (clo h5 fly5.1 (up4.trans up5))
 obtain ⟨ob,hob,hobc,_⟩:=fly5.there;have LT:PySem.W.Looks (model X.prog X.w) h5 (typeOf (.ref a)) (.ref C):=hobc▸(PySem.W.Looks.ld hob).andThen .now;refine wpAny_handleBy_cons (codeAny_handlers_test (Hw (X:=X.hnd a) (J5.hnd a) hg hcl ?_ hdb)) (by intro q;cases q)
 refine PySem.W.exm_one (K:=X.K) J5.kIn LT hm _ _ _ _ (λ _ _ e=>e) ?_
 refine codeAny_handlers_suite_as ?_;refine Mj (s:={ s' with heap:=h5 }) fly5 λ h6 fly6 up6=>?_
 obtain ⟨ob6,hob6,hobc6,hobd6,hobv6⟩:=fly6.there;have J7:Inv X pins σ (upd H2 a (.ext φ)) { s' with heap:=h6 }:=qM I os bare (clo h6 fly6.1 ((up4.trans up5).trans up6)) na nw (hφ _ _ hob6 hobc6 hobd6 hobv6) ⟨ob6,hob6⟩ sta
 refine JL (X:=X.hnd a) (J7.hnd a) hN hi (.inl hloc) (show RelV (.ref a) (Value.ref a) from rfl) (λ s8 J8=>?_) (.inr hloc)
 refine wpAny_mono (hs pins s8 _ _ (D.gone i) J8 q) (λ f s9 hq=>?_) (λ x s9 z=>z.elim)
 cases f with
 | next=>
  obtain ⟨σ',H',J,q⟩:=hq;exact Oj (J.unhnd I.ok) hN hi hloc λ s10 J10=>⟨_,_,J10,q⟩
 | ret u=>
  obtain ⟨v,σ',H',J,r,q⟩:=hq;exact Oj (J.unhnd I.ok) hN hi hloc λ s10 J10=>⟨v,_,_,J10,r,q⟩
 | brk=>
  obtain ⟨σ',H',J,q⟩:=hq;exact Oj (J.unhnd I.ok) hN hi hloc λ s10 J10=>⟨_,_,J10,q⟩
 | cont=>
  obtain ⟨σ',H',J,q⟩:=hq;exact Oj (J.unhnd I.ok) hN hi hloc λ s10 J10=>⟨_,_,J10,q⟩
end
section
variable {prog:Program}{w:World}{A:Around}{E:Value->Shared->Prop}{s:Shared}{K:FrG}{x D:Addr}
theorem ExcAt.type {M:Model}{h:Heap}(I:ExcAt x D h):PySem.W.Looks M h (typeOf (.ref x)) (.ref D):=by
 obtain ⟨o,h1,h2⟩:=I;exact h2▸(PySem.W.Looks.ld h1).andThen .now
structure ExcK (K:FrG)(D:Addr):Prop where
 cl:(PySem.W.clsIn K D).isSome=true
 ga:PySem.W.findIn K (.ref D) "__getattribute__"=some (some (.builtin "BaseException.__getattribute__"))
 gt:PySem.W.findIn K (.ref D) "__getattr__"=some none
 ha:PySem.W.findIn K (.ref D) "__class__"=some (some (.builtin "object.__class__"))
 hn:PySem.W.specialIn K (.builtin "object.__class__") "__get__"=some (some (.builtin "getset_descriptor.__get__"))
 ht:PySem.W.takesIn K (.builtin "object.__class__")=some true
 hm:PySem.W.mroIn K D (.type "object")=some true
 hb:PySem.W.mroIn K D (.type "BaseException")=some true
end
end L2
namespace L2
open PySem PySem.Spec PySem.Calls PyProof.Rows PySem.W Builtin Builtin.ObjectAttr Builtin.Getset_descriptor
section
variable {prog:Program}{w:World}{A:Around}{E:Value->Shared->Prop}{s:Shared}{K:FrG}{x D:Addr}
theorem lG {M:Model}{nameV:Value}{Q:Unit->Shared->Prop}(X:K.In s.heap)(I:ExcAt x D s.heap)(F:ExcK K D)(hq:Q () s):wpAny M A (checkBuiltinCall "BaseException.__getattribute__" ⟨[.ref x,nameV],[]⟩) Q E s:=by
 obtain ⟨hh,g,d,t,os⟩:=s;have y0:=ExcAt.type (M:=M) I;have y1:=looks_mroIn (M:=M) X F.hb;have hk:builtinKind "BaseException.__getattribute__"=some .slot:=by decide+kernel
 have hsplit:splitId "BaseException.__getattribute__"=some ("BaseException","__getattribute__"):=by decide+kernel
 have ha:=PySem.F.args_bexc_ga (.ref x) nameV;simp only [checkBuiltinCall,hk,hsplit];refine wpAny_bind ?_;unfold isInstance
 repeat (first | lk | wp_step)
 exact hq
end
end L2
namespace Fr
theorem Tc (i:Int):(if i < 0 then -i else i)=(i.natAbs:Int):=by omega
theorem bR (m n:Nat):Nat.gcd n (m % n)=Nat.gcd m n:=by
 rw [Nat.gcd_comm n (m % n),<- Nat.gcd_rec n m,Nat.gcd_comm]
def gcd (a b:Int):Int:=((Nat.gcd a.natAbs b.natAbs:Nat):Int)
theorem X8 (a b:Int):0<=gcd a b:=Int.natCast_nonneg _
theorem Vj {a b:Int}(h:b≠0):0 < gcd a b:=by
 unfold gcd;have:0 < Nat.gcd a.natAbs b.natAbs:=Nat.gcd_pos_of_pos_right _ (by omega)
 omega
theorem Xq {a b:Int}(h:b≠0):gcd a b<=(b.natAbs:Int):=by
 unfold gcd;have:Nat.gcd a.natAbs b.natAbs<=b.natAbs:=Nat.gcd_le_right _ (by omega)
 omega
theorem UL (a b:Int):gcd a b ∣ a:=by
 unfold gcd;exact Int.ofNat_dvd_left.mpr (Nat.gcd_dvd_left _ _)
theorem Yl (a b:Int):gcd a b ∣ b:=by
 unfold gcd;exact Int.ofNat_dvd_left.mpr (Nat.gcd_dvd_right _ _)
def sg (t b:Int):Int:=if b < 0 then 0 - gcd t b else gcd t b
def lt (t b:Int):Int:=t.fdiv (sg t b)
def lb (t b:Int):Int:=b.fdiv (sg t b)
theorem Jc {t b:Int}(h:b≠0):sg t b≠0:=by
 unfold sg;have:=Vj (a:=t) h
 split<;>omega
theorem Ss {t b:Int}:(sg t b).natAbs=(gcd t b).natAbs:=by
 unfold sg
 split<;>omega
theorem pR (t b:Int):sg t b ∣ t:=by
 unfold sg
 split
 ·rw [Int.zero_sub];exact Int.neg_dvd.mpr (UL t b)
 ·exact UL t b
theorem vy (t b:Int):sg t b ∣ b:=by
 unfold sg
 split
 ·rw [Int.zero_sub];exact Int.neg_dvd.mpr (Yl t b)
 ·exact Yl t b
theorem cG {a g:Int}(h:g ∣ a):a.fdiv g * g=a:=by
 rw [Int.fdiv_eq_ediv_of_dvd h];exact Int.ediv_mul_cancel h
theorem Wo (t b:Int):lt t b * sg t b=t:=cG (pR t b)
theorem Rr (t b:Int):lb t b * sg t b=b:=cG (vy t b)
theorem o7 {t b:Int}(h:b≠0):0 < lb t b:=by
 have e:=Rr t b;have g:=Vj (a:=t) h;have hs:sg t b=if b < 0 then 0 - gcd t b else gcd t b:=rfl
 rcases Int.lt_trichotomy (lb t b) 0 with z | z | z
 ·exfalso;by_cases hb:b < 0
  ·rw [if_pos hb] at hs;have:0 < lb t b * sg t b:=by
    rw [hs];exact Int.mul_pos_of_neg_of_neg z (by omega)
   omega
  ·rw [if_neg hb] at hs;have:lb t b * sg t b < 0:=by
    rw [hs];exact Int.mul_neg_of_neg_of_pos z g
   omega
 ·rw [z] at e;omega
 ·exact z
theorem aa {n k:Nat}(h:n < 2 ^ k)(hk:0 < k):n.log2 < k:=by
 by_cases z:n=0
 ·subst z;simpa using hk
 ·exact (Nat.log2_lt z).mpr h
theorem jN {t b:Int}(h:b≠0):(lb t b).natAbs<=b.natAbs:=by
 have e:=Rr t b;have g:=Jc (t:=t) h;have h1:(lb t b).natAbs * (sg t b).natAbs=b.natAbs:=by rw [<- Int.natAbs_mul,e]
 have h2:1<=(sg t b).natAbs:=by omega
 calc (lb t b).natAbs=(lb t b).natAbs * 1:=(Nat.mul_one _).symm
  _<=(lb t b).natAbs * (sg t b).natAbs:=Nat.mul_le_mul_left _ h2
  _=b.natAbs:=h1
end Fr
namespace Fr
theorem oA (t b:Int):((b.gcd t:Nat):Int)=gcd t b:=by
 unfold gcd Int.gcd;rw [Nat.gcd_comm]
theorem VM {t b:Int}(h:b≠0):lt t b=(Rat.divInt t b).num:=by
 have g0:=Vj (a:=t) h;rw [Rat.num_divInt,oA];have e:=Wo t b;have d:gcd t b ∣ b.sign * t:=Int.dvd_mul_of_dvd_right (UL t b);refine (Int.ediv_eq_of_eq_mul_left (by omega) ?_).symm
 have hs:sg t b=b.sign * gcd t b:=by
  unfold sg;rcases Int.lt_trichotomy b 0 with z | z | z
  ·rw [if_pos z,Int.sign_eq_neg_one_of_neg z];omega
  ·exact absurd z h
  ·rw [if_neg (by omega),Int.sign_eq_one_of_pos z];omega
 have h2:b.sign * b.sign=1:=by
  rcases Int.lt_trichotomy b 0 with z | z | z
  ·rw [Int.sign_eq_neg_one_of_neg z];rfl
  ·exact absurd z h
  ·rw [Int.sign_eq_one_of_pos z];rfl
 calc b.sign * t=b.sign * (lt t b * sg t b):=by rw [e]
  _=(b.sign * b.sign) * (lt t b * gcd t b):=by rw [hs];grind
  _=lt t b * gcd t b:=by rw [h2];omega
theorem Xy {t b:Int}(h:b≠0):lb t b=((Rat.divInt t b).den:Int):=by
 have e1:=Wo t b;have e2:=Rr t b;have s0:=Jc (t:=t) h;have n:=VM (t:=t) h;have c:(Rat.divInt t b).num * b=t * ((Rat.divInt t b).den:Int):=by
  have z:Rat.divInt (Rat.divInt t b).num ((Rat.divInt t b).den:Int)=Rat.divInt t b:=Rat.num_divInt_den _;have d0:(((Rat.divInt t b).den:Nat):Int)≠0:=by
   have:=(Rat.divInt t b).den_nz;omega
  exact (Rat.divInt_eq_divInt_iff d0 h).mp z
 by_cases t0:t=0
 ·subst t0;have:Rat.divInt 0 b=0:=Rat.zero_divInt b;rw [this];have g:gcd 0 b=(b.natAbs:Int):=by unfold gcd;simp
  have bp:=o7 (t:=0) h;have a1:(lb 0 b).natAbs * (sg 0 b).natAbs=b.natAbs:=by rw [<- Int.natAbs_mul,e2]
  rw [Ss,g] at a1;have b0:0 < b.natAbs:=by omega
  have a2:(lb 0 b).natAbs=1:=by
   have:(lb 0 b).natAbs * b.natAbs=1 * b.natAbs:=by simpa using a1
   exact Nat.eq_of_mul_eq_mul_right b0 this
  show lb 0 b=1;omega
 ·rw [<- n] at c;have h1:t * lb t b=t * ((Rat.divInt t b).den:Int):=by
   rw [<- c]
   calc t * lb t b=(lt t b * sg t b) * lb t b:=by rw [e1]
    _=lt t b * (lb t b * sg t b):=by grind
    _=lt t b * b:=by rw [e2]
  exact Int.eq_of_mul_eq_mul_left t0 h1
theorem den_pos (q:Rat):0 < (q.den:Int):=by
 have:=q.den_pos;omega
theorem Fp (q:Rat):Rat.divInt q.num (q.den:Int)=q:=Rat.num_divInt_den q
theorem Fx (q:Rat):(q.den:Int)≠0:=by have:=den_pos q;omega
theorem Wf (p q:Rat):Rat.divInt (p.num * q.den+q.num * p.den) (p.den * q.den)=p+q:=by
 rw [<- Rat.divInt_add_divInt _ _ (Fx p) (Fx q),Fp,Fp]
theorem cZ (p q:Rat):Rat.divInt (p.num * q.den - q.num * p.den) (p.den * q.den)=p - q:=by
 rw [<- Rat.divInt_sub_divInt _ _ (Fx p) (Fx q),Fp,Fp]
theorem VF (p q:Rat):Rat.divInt (p.num * q.num) (p.den * q.den)=p * q:=by
 rw [<- Rat.divInt_mul_divInt,Fp,Fp]
theorem dH (p q:Rat):Rat.divInt (p.num * q.den) (p.den * q.num)=p / q:=by
 rw [Rat.div_def,<- Rat.divInt_mul_divInt,Fp]
 congr 1
 have:=Rat.inv_divInt q.num q.den;rw [Fp] at this;exact this.symm
theorem uL (p q:Rat):p.num * q.den < q.num * p.den↔p < q:=(Rat.lt_iff p q).symm
theorem Yu (q:Rat):q.num=0↔q=0:=Rat.num_eq_zero
end Fr
namespace Fr
theorem uw (t b:Int)(h:b≠0):(lt t b).natAbs<=t.natAbs:=by
 have e:=Wo t b;have g:=Jc (t:=t) h;have h1:(lt t b).natAbs * (sg t b).natAbs=t.natAbs:=by rw [<- Int.natAbs_mul,e]
 have h2:1<=(sg t b).natAbs:=by omega
 calc (lt t b).natAbs=(lt t b).natAbs * 1:=(Nat.mul_one _).symm
  _<=(lt t b).natAbs * (sg t b).natAbs:=Nat.mul_le_mul_left _ h2
  _=t.natAbs:=h1
end Fr
namespace L2
open PySem PySem.Spec PyProof.Rows
theorem TopFn.calN {c:Bool}{P:Program}{w:World}{K:FrG}{mg:Str->Option Value}{base:Heap}{x:Str}{st:Stmt}{N ps:List Str}{k:Nat}{sp:Sp}(T:TopFn K mg x st)(S:FnScope N ps (defScope st))
  (hb:∀(kV doc pm:Value) (an:Option Addr) (cdv ct:Value) (us:List Value),us.length=ps.length->bindArgs (PySem.W.fnOf x x (defArgs st) (defBody st) (defScope st) .none kV doc pm an cdv ct) ⟨us,[]⟩=pure (ps.zip us))
  (len:∀vs H Q E,sp vs H Q E->vs.length=ps.length)
  (hbody:∀(f:Addr) (cdv:Value) (A:Around) (outer:List Env) (s:Shared) (H:Hp) (vs:List V) (Q:VK) (E:XK),RoomB c k (A.deeper (envOfC x (defScope st) s.heap.objs.size f cdv))->sp vs H Q E->
   ∃t,PSs (Dy c P w K mg base N x (defScope st) f cdv A outer s H E).nox (defBody st) t/\t { nx:=λ _ H'=>Q .non H',rt:=Q } (start N vs) H):CalB P w K mg base c (k+1) x ps sp:=
 T.calB S hb len λ f cdv A outer s H vs Q E hr h=>by
  obtain ⟨t,h1,h2⟩:=hbody f cdv A outer s H vs Q E hr h;exact ⟨t,h1.nox,h2⟩
theorem Fun.okB {c:Bool}{P:Program}{w:World}{K:FrG}{mg:Str->Option Value}{base:Heap}{x:Str}{st:Stmt}{f:Addr}{fd:FuncData}{N ps:List Str}{k:Nat}{sp:Sp}(F:Fun K x x st f fd)(S:FnScope N ps (defScope st))
  (len:∀vs H Q E,sp vs H Q E->vs.length=ps.length)
  (hbody:∀(cdv:Value) (A:Around) (outer:List Env) (s:Shared) (H:Hp) (vs:List V) (Q:VK) (E:XK),RoomB c k (A.deeper (envOfC x (defScope st) s.heap.objs.size f cdv))->sp vs H Q E->
   ∃t,PSs (Dy c P w K mg base N x (defScope st) f cdv A outer s H E).nox (defBody st) t/\t { nx:=λ _ H'=>Q .non H',rt:=Q } (start N vs) H):FnB P w K mg base c (k+1) f fd ps sp:=by
 obtain ⟨oc,od,kV,doc,pm,an,cdv,ct,osl,rfl,l,cd⟩:=id F.ex;exact Jx l cd S len λ A outer s H vs Q E hr h=>by
  obtain ⟨t,h1,h2⟩:=hbody cdv A outer s H vs Q E hr h;exact ⟨t,h1.nox,h2⟩
end L2
namespace Lib
open PySem L2
def lim:Nat:=2 ^ 9000
theorem Xa {n:Nat}(h:n < lim):n.log2 < 9000:=Fr.aa h (by decide)
theorem Y7 {n:Nat}(h:n < lim):n < 2 ^ 10000:=Nat.lt_trans h (by unfold lim;decide+kernel)
def xW:Sp:=λ vs H Q _=>∃a b:Int,vs=[.int a,.int b]/\Q (.int (Fr.gcd a b)) H
def spLaw (K:FrG):Sp:=λ vs H Q _=>∃(a:Addr) (ns:List Int),vs=[.ref a]/\SqL K H a (ns.map V.int)/\ns.length<=63/\∀H',Q (.bl true) H'
theorem KR (i j:Int):decide (V.int i=V.int j)=decide (i=j):=by
 by_cases h:i=j
 ·subst h;simp
 ·have:¬ V.int i=V.int j:=λ z=>h (V.int.inj z)
  rw [decide_eq_false h,decide_eq_false this]
theorem Uw {xs:List V}{r:Int}(h0:0<=r)(h1:r < (xs.length:Int)):∃v,atI xs r=some v/\v∈xs:=by
 have hj:r.toNat < xs.length:=by omega
 have e:((r.toNat:Nat):Int)=r:=by omega
 have q:atI xs ((r.toNat:Nat):Int)=some xs[r.toNat]:=Eh (List.getElem?_eq_getElem hj);rw [e] at q;exact ⟨_,q,List.getElem_mem hj⟩
theorem gj (ns:List Int)(lo hi:Option Int):∀x∈cutV (ns.map V.int) lo hi,∃z:Int,x=.int z:=λ x hx=>by
 unfold cutV at hx;have h1:=List.mem_of_mem_drop (List.mem_of_mem_take hx);obtain ⟨z,_,rfl⟩:=List.mem_map.mp h1;exact ⟨z,rfl⟩
theorem tY (a b c d:Int):PyData.eqv (.tuple [.int a,.int b]) (.tuple [.int c,.int d])=(decide (a=c) && decide (b=d)):=by
 simp only [PyData.eqv,PyData.eqvAll,Bool.and_true];by_cases h1:a=c<;>by_cases h2:b=d<;>simp [h1,h2]
abbrev jB (q:Rat):HO:=.tup [.int q.num,.int (q.den:Int)]
def Cp:Nat:=2 ^ 4000
theorem Yr:(10:Nat) ^ 40 < Cp:=by unfold Cp;decide+kernel
theorem bY:Cp < lim:=by unfold lim Cp;decide+kernel
theorem vo:Cp * Cp+Cp * Cp < lim:=by unfold lim Cp;decide+kernel
structure Sm (q:Rat):Prop where
 n:q.num.natAbs < Cp
 d:q.den < Cp
theorem wA {a b:Nat}(ha:a < Cp)(hb:b < Cp):a * b < Cp * Cp:=Nat.mul_lt_mul'' ha hb
theorem Je {x y:Int}(hx:x.natAbs < Cp)(hy:y.natAbs < Cp):(x * y).natAbs < lim:=by
 rw [Int.natAbs_mul];have:=wA hx hy;have:=vo;omega
theorem Ds {x y:Int}(hx:x.natAbs < Cp)(hy:y.natAbs < Cp):CMulW x y:=⟨Y7 (Nat.lt_trans hx bY),Y7 (Nat.lt_trans hy bY)⟩
theorem Sm.dn {q:Rat}(h:Sm q):((q.den:Int)).natAbs < Cp:=by rw [Int.natAbs_natCast];exact h.d
theorem Va (q:Rat):((q.den:Nat):Int)≠0:=by have:=q.den_nz;omega
theorem Lg (q:Rat):(0:Int) < ((q.den:Nat):Int):=by have:=q.den_nz;omega
theorem Hj (p q:Rat):((p.den:Int)) * (q.den:Int)≠0:=Int.mul_ne_zero (Va p) (Va q)
theorem ql {t b:Int}(h:b≠0):(HO.tup [.int (Fr.lt t b),.int (Fr.lb t b)])=jB (Rat.divInt t b):=by
 rw [Fr.VM h,Fr.Xy h]
theorem uf (q:Rat):Fr.gcd q.num (q.den:Int)=1:=by
 unfold Fr.gcd;have:=q.reduced;unfold Nat.Coprime at this;rw [Int.natAbs_natCast,this];rfl
theorem P0 (p q:Rat):PyData.eqv (.tuple [.int p.num,.int (p.den:Int)]) (.tuple [.int q.num,.int (q.den:Int)])=decide (p=q):=by
 rw [tY];by_cases h:p=q
 ·subst h;simp
 ·rw [decide_eq_false h];by_cases h1:p.num=q.num
  ·have h2:¬ ((p.den:Int)=(q.den:Int)):=λ z=>h (Rat.ext h1 (Int.ofNat.inj z))
   simp [h2]
  ·simp [h1]
end Lib
namespace L2
open PySem PySem.Spec PyProof.Rows PySem.Builtin PySem.Builtin.Str
section
variable {X:Cx}
def yL:V->List V->Hp->VK->Prop:=λ x vs H Q=>∃i j,x=.str i/\vs=[.str j]/\Q (.bl (Txt.startswith i j)) H
theorem oK:MtM X "str.startswith" yL:=by
 intro pins s σ H x vs v us Q I rx rv h;obtain ⟨i,j,rfl,rfl,q⟩:=h;obtain ⟨t,rfl⟩:=rx;obtain ⟨u,rfl,ru⟩:=rv.one;obtain ⟨t',rfl⟩:=ru;exact SC.startswith ⟨.bl _,H,I,rfl,q⟩
theorem XR:∀(l:List (Str×Tok)),Vals ((l.map (·.1)).map V.str) (strValues l)
 | []=>.nil
 | p::r=>.cons ⟨p.2,rfl⟩ (XR r)
def sS:V->List V->Hp->VK->Prop:=λ x vs H Q=>∃i j,x=.str i/\vs=[.str j]/\(j.length == 0)=false/\i.length+2<=sizeLine/\∀p,H p=none->Q (.ref p) (upd H p (.lst ((Txt.split i j).map V.str)))
theorem SX:MtM X "str.split" sS:=by
 intro pins s σ H x vs v us Q I rx rv h;obtain ⟨i,j,rfl,rfl,hj,hz,q⟩:=h;obtain ⟨t,rfl⟩:=rx;obtain ⟨u,rfl,ru⟩:=rv.one;obtain ⟨t',rfl⟩:=ru;have hn:(partsBetween i (occurrences i j 0 i.length (i.length+1)) j.length).length<=sizeLine:=by
  have e1:=StrLaws.occ_length_le i j 0 i.length (i.length+1);rw [length_partsBetween];omega
 have fin:∀(l:List (Str×Tok)) (tk:Nat),l.map (·.1)=Txt.split i j->l.length<=sizeLine->EP X pins σ Q (.ref s.heap.objs.size) { s with heap:=s.heap.push { cls:=.type "list",data:=.seq (strValues l).toArray },toks:=tk }:=λ l tk e hl=>by
  refine ⟨.ref s.heap.objs.size,_,?_,rfl,q _ I.fresh⟩;rw [<- e];exact I.lnew (XR l) (by rw [List.length_map,List.length_map];exact hl)
 cases h1:(decide (i.length < j.length) || decide (strKind i < strKind j))
 ·cases hf:(occurrences i j 0 i.length (i.length+1)).isEmpty
  ·refine call_meets F.slot_str_split (typeIs_str _ _ _) F.entry_str_split (F.args_str_split_2 _ _) (meets_str_split_sep i j t t' h1 hj hf (by omega) hn) ?_
   show wants _ _ _ { s with toks:=_,heap:=s.heap.push { cls:=.type "list",data:=.seq (strsFrom s.toks (partsBetween i (occurrences i j 0 i.length (i.length+1)) j.length)).toArray } }
   rw [strsFrom_eq];refine fin (numbered s.toks _) _ ((numbered_texts _ _).trans ((if_neg (ne_true_of_eq_false h1)).trans (if_neg (ne_true_of_eq_false hf))).symm) ?_;have:=congrArg List.length (numbered_texts s.toks (partsBetween i (occurrences i j 0 i.length (i.length+1)) j.length));rw [List.length_map] at this;omega
  ·exact call_meets F.slot_str_split (typeIs_str _ _ _) F.entry_str_split (F.args_str_split_2 _ _) (meets_str_split_not_found i j t t' h1 hj hf)
    (fin [(i,t)] s.toks ((if_neg (ne_true_of_eq_false h1)).trans (if_pos hf)).symm (by show 1<=sizeLine;decide))
 ·exact call_meets F.slot_str_split (typeIs_str _ _ _) F.entry_str_split (F.args_str_split_2 _ _) (meets_str_split_cannot_occur i j t t' h1)
   (fin [(i,t)] s.toks (if_pos h1).symm (by show 1<=sizeLine;decide))
def qI:V->Option Int->Option Int->Hp->VK->Prop:=λ x lo hi H Q=>∃z,x=.str z/\z.length<=sizeLine/\Q (.str (Txt.slice z lo hi)) H
theorem aV:SlR X qI:=by
 intro pins s σ H x v vl vu lo hi sl Q I rx hs pl pu h;obtain ⟨z,rfl,hz,q⟩:=h;obtain ⟨t,rfl⟩:=rx;refine ⟨"str",_,F.slot_str_getitem.lookup,typeIs_str _ _ _,?_⟩;obtain ⟨o,ho,hc,hd⟩:=hs;have fin:∀t' k,EP X pins σ Q (.str (Txt.slice z lo hi) t') { s with toks:=k }:=λ t' k=>⟨.str _,H,I.tok _,⟨t',rfl⟩,q⟩
 have hz':=Nat.le_trans (Txt.slice_le z lo hi) hz;cases pl with
 | none=>
  cases pu with
  | none=>exact wpAny_getItem_str_slice (l:=none) (u:=none) (st:=none) ⟨o,ho,hc,hd⟩ rfl (post_val_or_str ⟨hz',fin⟩)
  | int j tj=>exact wpAny_getItem_str_slice (l:=none) (u:=some (j,tj)) (st:=none) ⟨o,ho,hc,hd⟩ rfl (post_val_or_str ⟨hz',fin⟩)
 | int i ti=>
  cases pu with
  | none=>exact wpAny_getItem_str_slice (l:=some (i,ti)) (u:=none) (st:=none) ⟨o,ho,hc,hd⟩ rfl (post_val_or_str ⟨hz',fin⟩)
  | int j tj=>exact wpAny_getItem_str_slice (l:=some (i,ti)) (u:=some (j,tj)) (st:=none) ⟨o,ho,hc,hd⟩ rfl (post_val_or_str ⟨hz',fin⟩)
def PJ (X:Cx)(es:List Expr)(t:Str->St->Hp->VK->Prop):Prop:=
 ∀(out:Str) (pins:List (Addr×Obj)) (s:Shared) (σ:St) (H:Hp) (Q:VK),Inv X pins σ H s->t out σ H Q->wpAny (model X.prog X.w) X.A (joinParts out (evalEach es X.env)) (EP X pins σ Q) X.xe s
def tK (x:V)(y:Str):Prop:=(∃i:Int,x=.int i/\i.natAbs.log2 < 1920/\y=((toString i:String):Str))\/(x=.str y/\y.length<=sizeLine)
variable {a:Expr}{ta:TE}{es:List Expr}{tr:Str->St->Hp->VK->Prop}{p pos:Pos}
theorem sZ:PJ X [] (λ out _ H Q=>out.length<=sizeLine/\Q (.str out) H):=λ out _ s σ H Q I h=>joinParts_nil ⟨.str out,H,I.tok _,⟨_,rfl⟩,h.2⟩ h.1
theorem dU (ha:PE X a ta)(hr:PJ X es tr):PJ X (.FormattedValue a (-1) none p::es) (λ out σ H Q=>ta σ H λ x H1=>∃y,tK x y/\(out++y).length<=sizeLine/\tr (out++y) σ H1 Q):=by
 intro out pins s σ H Q I h;refine joinParts_cons (FormattedValue_plain (thn (ha pins s σ H _ I h) λ v s1 ⟨x,H1,I1,r1,y,hy,hz,q⟩=>?_))
 rcases hy with ⟨i,rfl,hl,rfl⟩ | ⟨rfl,hl⟩
 ·obtain ⟨t,rfl⟩:=r1;exact formatField_int_small hl ⟨hz,hr _ pins _ σ H1 Q (I1.tok _) q⟩
 ·obtain ⟨t,rfl⟩:=r1;exact formatField_str (λ t' tk=>⟨hz,hr _ pins _ σ H1 Q (I1.tok _) q⟩) hl
theorem iT {z:Str}{k:Nat}(hr:PJ X es tr):PJ X (.Constant (.str z) k p::es) (λ out σ H Q=>(out++z).length<=sizeLine/\tr (out++z) σ H Q):=by
 intro out pins s σ H Q I h;exact joinParts_cons (Calls.Constant_str ⟨h.1,hr _ pins _ σ H Q (I.tok _) h.2⟩)
theorem gw {e1 e2:Expr}{t:Str->St->Hp->VK->Prop}(h:PJ X (e1::e2::es) t):PE X (.JoinedStr (e1::e2::es) pos) (t Str.empty):=λ pins s σ H Q I q=>JoinedStr_many (h _ pins s σ H Q I q)
theorem jO:CallR X (.type "int") (λ xs H Q=>∃x n,xs=[.str x]/\x.length<=640/\PySem.intText? x=some n/\Q (.int n) H):=by
 intro pins s σ H xs us Q I r h;obtain ⟨x,n,rfl,hl,hn,q⟩:=h;obtain ⟨u,rfl,ru⟩:=vals1 r;obtain ⟨t,rfl⟩:=ru;exact call_int_1 (PySem.W.KIN.gives_text hl hn).meets ⟨rfl,⟨.int n,H,I.tok _,⟨_,rfl⟩,q⟩⟩
theorem Xp (hc:X.calm=true):CallR X (.builtin "all") (λ xs H Q=>∃(p:Addr) (bs:List Bool),xs=[.ref p]/\SqL X.K H p (bs.map V.bl)/\Q (.bl (bs.all id)) H):=by
 intro pins s σ H xs us Q I r h;obtain ⟨p,bs,rfl,hp,q⟩:=h;obtain ⟨u,rfl,ru⟩:=vals1 r;cases ru
 obtain ⟨its,rv,pl,hz⟩:=I.list hp;have hlen:its.toArray.size=bs.length:=by
  have:=rv.length;rw [List.length_map] at this;rw [List.size_toArray];exact this.symm
 have hlt:p < s.heap.objs.size:=by
  obtain ⟨o,e,_⟩:=pl.isList;exact Heap.lt_size e
 have hh:X.A.in1.handled=none:=I.ok.hd hc;refine call_all_walk (wpAny_pyIter_list pl.isList ⟨s.heap.objs.size,_,_,_,_,_,λ i=>bs.getD i false,rfl,Walks.list hh s.heap.objs.size p (Nat.ne_of_lt hlt) its.toArray,⟨⟨_,Heap.get?_push_size _ rfl,rfl,rfl⟩,pl.isList.push _⟩,?_,λ h' tk k=>?_⟩)
 ·intro i v s1 Q1 E1 hP hQ;have hg:its[i]?=some v:=by simpa using hP
  have hb:bs[i]?=some (bs.getD i false)/\RelV (.bl (bs.getD i false)) v:=by
   have hi:i < bs.length:=by
    have:=(List.getElem?_eq_some_iff.mp hg).1;rw [<- hlen,List.size_toArray];exact this
   have e1:(bs.map V.bl)[i]?=some (.bl (bs.getD i false)):=by
    rw [List.getElem?_map,List.getD_eq_getElem?_getD,List.getElem?_eq_getElem hi];rfl
   obtain ⟨u,hu,ru⟩:=rv.get e1;rw [hg] at hu;cases hu
   refine ⟨?_,ru⟩;rw [List.getD_eq_getElem?_getD,List.getElem?_eq_getElem hi];rfl
  obtain ⟨_,ru⟩:=hb;cases ru
  exact wpAny_truthy_bool hQ
 ·have e:(List.range its.toArray.size).all (λ i=>bs.getD i false)=bs.all id:=by
   rw [hlen];clear hlen rv q k hp hz
   induction bs with
   | nil=>rfl
   | cons b r ih=>
    rw [List.length_cons,List.range_succ_eq_map,List.all_cons,List.all_map,List.all_cons,<- ih];rfl
  rw [e];exact ⟨.bl _,H,I.kept (h':=h') (t':=tk) λ b o e=>k b o (by
   intro hb;have:b=s.heap.objs.size:=by simpa using hb
   exact absurd (Heap.lt_size e) (by rw [this];exact Nat.lt_irrefl _)) (Heap.get?_push_of_some _ e),rfl,q⟩
end
theorem cX {G:Str}:∀{vs:List Value} {zs:List Str} {rs:List Value},AreOf .str vs zs->Paired (λ v r=>∃z t,v=.str z t/\r=.bool (!(occurrences G z 0 G.length 1).isEmpty)) vs rs->
  Vals (zs.map λ z=>V.bl (!(occurrences G z 0 G.length 1).isEmpty)) rs
 | _,_,_,.nil,r=>by cases r;exact .nil
 | _,_,_,.cons h hs,r=>by
  cases r with
  | cons r1 r2=>
   obtain ⟨t,rfl⟩:=h;obtain ⟨z,t',e,rfl⟩:=r1;cases e
   exact .cons rfl (cX hs r2)
section
variable {X:Cx}
theorem Inv.laidN {pins:List (Addr×Obj)}{σ:St}{H:Hp}{s:Shared}{a:Addr}{o:HO}{h':Heap}{tk:Nat}(I:Inv X pins σ H s)(k:∀b u,s.heap.get? b=some u->h'.get? b=some u)(na:s.heap.get? a=none)
  (new:ObjOk X.prog X.w (upd H a o) h' a o):Inv X pins σ (upd H a o) { s with heap:=h',toks:=tk }:=by
 have hn:H a=none:=I.hok.none_of na;refine Mr (s':={ s with heap:=h',toks:=tk }) I rfl I.bare ⟨⟨λ b u e _ _ _=>k b u e,λ b u e _ _ _=>⟨u.slots,k b u e⟩,λ b u e n _=>?_,λ b u e _=>⟨u,k b u e⟩,λ b xs e=>?_,λ b u x e=>?_,λ b ps e=>?_⟩,λ b u e=>?_⟩
 ·have:b≠a:=λ z=>by rw [z,na] at e;cases e
  rw [Av this];exact n
 ·rw [Av (Bm e hn)];exact e
 ·rw [Av (Bm e hn)];exact e
 ·exact ⟨#[],by rw [Av (Bm e hn),Array.append_empty];exact e⟩
 ·by_cases hb:b=a
  ·subst hb;rw [Aq] at e;cases e
   exact new
  ·rw [Av hb] at e;exact (I.hok b u e).stay (λ c v _ q=>k c v q) (λ c q=>by rw [Av (Bm q hn)];exact q) λ c xs q=>by rw [Av (Bm q hn)];exact q
theorem su {x g:Str}{px p1 p2 p3 pos:Pos}{iter:Expr}{ti:TE}{scope:Scope}{G:Str}{tG:Tok}(hc:X.calm=true)(hi:PE X iter ti)(hm:X.mg g=some (.str G tG))
  (hfree:∀y∈scope.names,y.2≠.free) (hcell:∀y∈scope.names,y.2≠.cell) (hkind:scope.kind=.function) (hnames:∀y∈scope.names,y.2=.local->scope.names.lookup y.1=some .local)
  (hx:scope.names.lookup x=some .local) (hg:scope.names.lookup g=some .globalImplicit) (hd:(x == ("__debug__":Str))=false) (hd2:(g == ("__debug__":Str))=false) (hs:∀x,foldedSetIterable iter X.env x=pure x:=by intro _;rfl) (hmk:behindInMarks .In (.Name g p2)=false:=by rfl):
  PE X (.ListComp (.Compare (.Name x p1) [.In] [.Name g p2] p3) [⟨.Name x px,iter,[],0⟩] scope pos)
   (λ σ H Q=>ti σ H λ v H1=>∃y,v=.str y/\y.length<=sizeLine/\∀p,H1 p=none->Q (.ref p) (upd H1 p (.lst ((signs y).map λ z=>V.bl (!(occurrences G z 0 G.length 1).isEmpty))))):=by
 intro pins s σ H Q I h;refine wpAny_ListComp_walk (λ _=>true) (λ v r=>∃z t,v=.str z t/\r=.bool (!(occurrences G z 0 G.length 1).isEmpty)) hfree hcell hkind hnames hx (thn (hi pins s σ H _ I h) λ xv s1 ⟨v,H1,I1,r1,y,e,hz,q⟩=>?_) hs
 subst e;obtain ⟨t,rfl⟩:=r1;refine wpAny_pyIter_str λ o St W hst=>?_
 have up:∀(h':Heap),(∀b o',b∉[s1.heap.objs.size]->(s1.heap.push o).get? b=some o'->h'.get? b=some o')->∀b o',s1.heap.get? b=some o'->h'.get? b=some o':=
  λ h' hk b o' e=>hk b o' (old_not_new e) (Heap.get?_push_of_some _ e)
 refine ⟨s1.heap.objs.size,[s1.heap.objs.size],[s1.heap.objs.size],y.cps.size,SignAt y,St,rfl,W X.A (I1.ok.hd hc),hz,hst,?_,⟨?_,?_⟩,?_⟩
 ·intro b hb;show b < (s1.heap.push o).objs.size;rw [Heap.size_push,List.mem_singleton.mp hb];exact Nat.lt_succ_self _
 ·intro C i v s₃ m₃ E' hP hn hm' _ _;exact wpAny_pure ⟨rfl,s₃.heap,s₃.toks,rfl,λ _ _ e=>e⟩
 ·intro C i v s₃ m₃ E' hP hp hn hm' k _;obtain ⟨c,u,hcu,rfl⟩:=hP;have ns:s₃.heap.Ns mainGlobals X.mg:=(I1.mod.glob.keeps I1.bk).keeps (up s₃.heap k);refine wpAny_Compare1 (wpAny_Name (wpAny_loadName_local hkind hx hn hm' ?_) hd) hmk;refine Calls.Name_function_global hkind hg (Calls.loadGlobal_global (by show s₃.heap.Ns X.env.globals X.mg;rw [I1.ok.glob];exact ns) hm ?_) hd2
  exact in_str ⟨⟨_,_,rfl,rfl⟩,s₃.heap,s₃.toks,rfl,λ _ _ e=>e⟩
 ·intro D h' tk ys vs hnew hlD hplD hlen hP hF hk;have hD:s1.heap.get? D=none:=by
   cases e:s1.heap.get? D with
   | none=>rfl
   | some ob=>
    have z:(s1.heap.push o).get? D=some ob:=Heap.get?_push_of_some _ e;have hnew':(s1.heap.push o).get? D=none:=hnew;rw [z] at hnew';cases hnew'
  have hF':Paired (λ v r=>∃z t,v=.str z t/\r=.bool (!(occurrences G z 0 G.length 1).isEmpty)) vs ys.toList:=by
   rw [List.filter_eq_self.mpr (λ _ _=>rfl)] at hF
   exact hF
  have rv:=cX (areOf_signs hlen hP) hF';obtain ⟨n0,hn0⟩:=hplD;refine ⟨.ref D,_,I1.laidN (a:=D) (o:=.lst _) (tk:=tk) (up h' hk) hD ⟨?_,ys.toList,n0,rv,?_⟩,rfl,q D (I1.hok.none_of hD)⟩
  ·rw [List.length_map,signs_length];exact hz
  ·rw [hn0]
end
end L2
namespace Tx
open PySem PySem.Builtin PySem.Builtin.Str PySem.NumText PyProof.Rows
abbrev cl (x:PySem.Str):List Nat:=x.cps.toList
theorem ext {x y:PySem.Str}(h:cl x=cl y):x=y:=PySem.Str.ext' (Array.toList_inj.mp h)
theorem Dg (x y:PySem.Str):cl (x++y)=cl x++cl y:=PySem.W.KT.app_list x y
theorem GX (x:PySem.Str):(cl x).length=x.length:=Array.length_toList
def dg (m:Nat):List Nat:=(Nat.toDigits 10 m).map Char.toNat
theorem Lb (m:Nat):AllDigits (dg m):=by
 intro c hc;obtain ⟨ch,hch,e⟩:=List.mem_map.mp hc;have r:=digit_range (Nat.isDigit_of_mem_toDigits (by decide) (by decide) hch)
 rw [<- e];exact r
theorem bD (m:Nat):dg m≠[]:=by
 intro e;have h:=toDigits_len_ge 10 m;rw [List.map_eq_nil_iff.mp e] at h;exact absurd h (by decide)
theorem wu (m:Nat):digitsVal (dg m)=m:=PySem.W.KIN.val_back m
theorem NZ (i:Int):cl (PySem.Str.ofString (toString i))=(if i < 0 then [45] else [])++dg i.natAbs:=by
 cases i with
 | ofNat m=>
  rw [if_neg (by show ¬ ((m:Int) < 0);omega)]
  exact PySem.W.KIN.signs_num m
 | negSucc m=>
  rw [if_pos (by omega),cl,signs_ofString]
  show (("-"++Nat.repr (m+1)).toList.map Char.toNat)=_;rw [String.toList_append,List.map_append,Nat.toList_repr];rfl
def sh (q:Rat):List Nat:=(if q.num < 0 then [45] else [])++dg q.num.natAbs++(if q.den=1 then [] else 47::dg q.den)
def Bk (q:Rat):PySem.Str:=⟨(sh q).toArray⟩
theorem Pb (q:Rat):cl (Bk q)=sh q:=List.toList_toArray
def cut (c:Nat):List Nat->List (List Nat)
 | []=>[[]]
 | a::r=>if a=c then []::cut c r else match cut c r with
  | []=>[[a]]
  | p::ps=>(a::p)::ps
theorem PB {c:Nat}:∀{p:List Nat},c∉p->cut c p=[p]
 | [],_=>rfl
 | a::r,h=>by
  have h1:a≠c:=λ e=>h (e▸List.mem_cons_self ..)
  have h2:c∉r:=λ e=>h (List.mem_cons_of_mem _ e)
  unfold cut;rw [if_neg h1,PB h2]
theorem Qv {c:Nat}(r:List Nat):∀{p:List Nat},c∉p->cut c (p++c::r)=p::cut c r
 | [],_=>by
  show cut c (c::r)=_;rw [cut,if_pos rfl]
 | a::p,h=>by
  have h1:a≠c:=λ e=>h (e▸List.mem_cons_self ..)
  have h2:c∉p:=λ e=>h (List.mem_cons_of_mem _ e)
  show cut c (a::(p++c::r))=_;rw [cut,if_neg h1,Qv r h2]
theorem Wt {c:Nat}:∀{ps:List PySem.Str},ps≠[]->(∀p∈ps,c∉cl p)->cut c (cl (PySem.Str.join ⟨#[c]⟩ ps))=ps.map cl
 | [],h,_=>absurd rfl h
 | [p],_,h=>by
  rw [join_one,PB (h p (List.mem_cons_self ..))];rfl
 | p::q::r,_,h=>by
  rw [join_cons_cons,Dg,Dg];show cut c (cl p++[c]++cl (PySem.Str.join ⟨#[c]⟩ (q::r)))=_;rw [List.append_assoc];show cut c (cl p++c::cl (PySem.Str.join ⟨#[c]⟩ (q::r)))=_;rw [Qv _ (h p (List.mem_cons_self ..)),Wt (by simp) λ p hp=>h p (List.mem_cons_of_mem _ hp)]
  rfl
theorem aM (x:PySem.Str)(c:Nat):(Txt.split x ⟨#[c]⟩).map cl=cut c (cl x):=by
 have h1:=split_pos x ⟨#[c]⟩;have h2:=Wt (c:=c) (ps:=Txt.split x ⟨#[c]⟩) (λ e=>by rw [e] at h1;exact absurd h1 (by decide)) (StrLaws.split_free x c)
 rw [StrLaws.join_split] at h2;exact h2.symm
theorem pC (x:PySem.Str)(c:Nat):Txt.startswith x ⟨#[c]⟩=decide ((cl x).head?=some c):=by
 obtain ⟨⟨l⟩⟩:=x;cases l with
 | nil=>rfl
 | cons a r=>
  show (decide (0+1<=(a::r).toArray.size) && ((a::r).toArray.extract 0 (0+1) == #[c]))=decide (some a=some c);by_cases h:a=c
  ·subst h;simp
  ·simp [h]
theorem Wq:∀r:List Nat,(List.range r.length).filterMap (λ k=>r[k]?)=r
 | []=>rfl
 | a::r=>by
  rw [List.length_cons,List.range_succ_eq_map,List.filterMap_cons_some (by rfl),List.filterMap_map]
  show a::(List.range r.length).filterMap (λ k=>r[k]?)=_
  rw [Wq r]
theorem qu (x:PySem.Str):cl (Txt.slice x (some 1) none)=(cl x).drop 1:=by
 obtain ⟨⟨l⟩⟩:=x;cases l with
 | nil=>rfl
 | cons a r=>
  have e:strSliceIndices (some 1) none 1 (r.length+1)=(List.range r.length).map (·+1):=by
   unfold strSliceIndices sliceRange;simp only [show (1:Int) > 0 by decide,if_true]
   have h1:max 0 (min (if (1:Int) < 0 then 1+((r.length+1:Nat):Int) else 1) ((r.length+1:Nat):Int))=1:=by
    rw [if_neg (by decide)]
    omega
   rw [h1];have h2:(if (1:Int) < ((r.length+1:Nat):Int) then (((r.length+1:Nat):Int) - 1+1 - 1) / 1 else 0).toNat=r.length:=by
    split<;>simp<;>omega
   rw [h2]
   apply List.map_congr_left
   intro k _;omega
  have hl:(PySem.Str.mk (a::r).toArray).length=r.length+1:=by
   show (a::r).toArray.size=_;simp
  show cl (Txt.slice (PySem.Str.mk (a::r).toArray) (some 1) none)=r;unfold Txt.slice;rw [hl,e];rw [if_neg (by simp)]
  show ((((List.range r.length).map (·+1)).filterMap (λ k=>(a::r).toArray[k]?)).toArray).toList=r
  rw [List.toList_toArray,List.filterMap_map];have:((λ k=>(a::r).toArray[k]?) ∘ λ x=>x+1)=λ k=>r[k]?:=by
   funext k
   simp
  rw [this,Wq]
theorem ud (c:Nat):(!(occurrences (PySem.Str.ofString "0123456789") ⟨#[c]⟩ 0 (PySem.Str.ofString "0123456789").length 1).isEmpty)=decide (48<=c/\c<=57):=by
 rw [StrLaws.found_one,signs_ofString];show decide (c∈[48,49,50,51,52,53,54,55,56,57])=_
 apply decide_eq_decide.mpr
 simp only [List.mem_cons,List.not_mem_nil,or_false];omega
theorem MJ {m k:Nat}(hk:0 < k):(dg m).length<=k↔m < 10 ^ k:=by
 unfold dg;rw [List.length_map];exact Nat.length_toDigits_le_iff (by decide) hk
theorem m8 (m:Nat):1<=(dg m).length:=by
 have:=bD m;cases h:dg m with
 | nil=>exact absurd h this
 | cons a r=>simp
structure Short (q:Rat):Prop where
 n:q.num.natAbs < 10 ^ 15
 d:q.den < 10 ^ 15
theorem Q0 (m:Nat):47∉dg m:=λ h=>by have:=Lb m 47 h;omega
theorem jZ (m:Nat):45∉dg m:=λ h=>by have:=Lb m 45 h;omega
theorem o8 (m:Nat)(r:List Nat):(dg m++r).head?≠some 45:=by
 cases h:dg m with
 | nil=>exact absurd h (bD m)
 | cons a l=>
  intro e;have e':some a=some 45:=e;cases e'
  exact jZ m (by rw [h];exact List.mem_cons_self ..)
theorem mD (q:Rat):decide ((sh q).head?=some 45)=decide (q.num < 0):=by
 apply decide_eq_decide.mpr
 unfold sh;by_cases h:q.num < 0
 ·rw [if_pos h];simp [h]
 ·rw [if_neg h,List.nil_append];exact ⟨λ e=>absurd e (o8 _ _),λ e=>absurd e h⟩
def bd (q:Rat):List Nat:=dg q.num.natAbs++(if q.den=1 then [] else 47::dg q.den)
theorem lV (q:Rat):(if q.num < 0 then (sh q).drop 1 else sh q)=bd q:=by
 unfold sh bd;by_cases h:q.num < 0
 ·rw [if_pos h,if_pos h];rfl
 ·rw [if_neg h,if_neg h];rfl
theorem vp (q:Rat):cut 47 (bd q)=if q.den=1 then [dg q.num.natAbs] else [dg q.num.natAbs,dg q.den]:=by
 unfold bd;by_cases h:q.den=1
 ·rw [if_pos h,if_pos h,List.append_nil,PB (Q0 _)]
 ·rw [if_neg h,if_neg h,Qv _ (Q0 _),PB (Q0 _)]
theorem Xu (q:Rat)(h:Short q):(sh q).length<=40:=by
 have h1:=(MJ (m:=q.num.natAbs) (k:=15) (by decide)).mpr h.n
 have h2:=(MJ (m:=q.den) (k:=15) (by decide)).mpr h.d
 unfold sh;rw [List.length_append,List.length_append]
 split<;>split<;>simp only [List.length_cons,List.length_nil]<;>omega
theorem rE (q:Rat):(PySem.Str.empty++PySem.Str.ofString (toString q.num))++(PySem.Str.ofString "/")++PySem.Str.ofString (toString ((q.den:Nat):Int))=(⟨((if q.num < 0 then [45] else [])++dg q.num.natAbs++47::dg q.den).toArray⟩:PySem.Str):=by
 apply ext
 rw [Dg,Dg,Dg,NZ,NZ];show []++_++[47]++_=_;rw [cl,List.toList_toArray,if_neg (show ¬ (((q.den:Nat):Int) < 0) by omega)]
 simp
end Tx
namespace Lib
open PySem L2 Tx PySem.NumText
theorem qC (x:PySem.Str):((PyProof.Rows.signs x).map λ z=>V.bl (!(PySem.Builtin.Str.occurrences (PySem.Str.ofString "0123456789") z 0 (PySem.Str.ofString "0123456789").length 1).isEmpty))=((cl x).map λ c=>decide (48<=c/\c<=57)).map V.bl:=by
 unfold PyProof.Rows.signs;rw [List.map_map,List.map_map]
 apply List.map_congr_left
 intro c _;show V.bl (!(PySem.Builtin.Str.occurrences (PySem.Str.ofString "0123456789") ⟨#[c]⟩ 0 (PySem.Str.ofString "0123456789").length 1).isEmpty)=V.bl (decide (48<=c/\c<=57));rw [ud]
theorem vH (l:List Nat):((l.map λ c=>decide (48<=c/\c<=57)).all id)=true↔AllDigits l:=by
 unfold AllDigits;rw [List.all_map,List.all_eq_true];simp
theorem YM {i:Int}(h:i.natAbs.log2 < 1920):(PySem.Str.ofString (toString i)).length<=2000:=by
 rw [<- GX,NZ,List.length_append];have h1:i.natAbs < 10 ^ 1900:=by
  by_cases z:i.natAbs=0
  ·rw [z];exact Nat.pow_pos (by decide)
  ·have h2:i.natAbs < 2 ^ 1920:=(Nat.log2_lt z).mp h;exact Nat.lt_trans h2 (by decide+kernel)
 have h3:=(MJ (m:=i.natAbs) (k:=1900) (by decide)).mpr h1
 split<;>simp only [List.length_cons,List.length_nil]<;>omega
theorem HW (x y:PySem.Str):(x++y).length=x.length+y.length:=by
 rw [<- GX,Dg,List.length_append,GX,GX]
theorem IK {n:Nat}(h:n<=10000):n<=sizeLine:=Nat.le_trans h (by decide)
end Lib
namespace Tx
theorem uB:PySem.Str.ofString "-"=⟨#[45]⟩:=by rfl
theorem nU:PySem.Str.ofString "/"=⟨#[47]⟩:=by rfl
end Tx
namespace Lib
open PySem L2 Tx PySem.NumText
theorem Z6 {m:Nat}(h:m < 10 ^ 15):m.log2 < 1920:=Fr.aa (Nat.lt_trans h (by decide+kernel)) (by decide)
end Lib
namespace Lib
open PySem L2 Tx
theorem Sm.zero:Sm 0:=⟨by show (0:Int).natAbs < Cp;exact Nat.lt_trans (by decide) Yr,by show 1 < Cp;exact Nat.lt_trans (by decide) Yr⟩
def vz:Sp:=λ vs H Q _=>∃t b:Int,vs=[.int t,.int b]/\b≠0/\b.natAbs < lim/\∀p,H p=none->Q (.ref p) (upd H p (.tup [.int (Fr.lt t b),.int (Fr.lb t b)]))
end Lib
namespace L2
open PySem PySem.Spec PyProof.Rows PySem.Builtin PySem.Builtin.Str
end L2
namespace Tx
open PySem PySem.NumText PySem.Builtin.Str
end Tx
namespace Lib
open PySem L2 Tx PySem.NumText
end Lib
namespace Lib
end Lib
namespace L2
open PySem PySem.Spec PyProof.Rows
end L2
namespace Tx
open PySem PySem.NumText PySem.Builtin.Str
theorem nR (q:Rat):∀c∈sh q,(48<=c/\c<=57)\/c=45\/c=47:=λ c hc=>by
 unfold sh at hc;rcases List.mem_append.mp hc with hc | hc
 ·rcases List.mem_append.mp hc with hc | hc
  ·split at hc
   ·exact .inr (.inl (by simpa using hc))
   ·cases hc
  ·exact .inl (Lb _ _ hc)
 ·split at hc
  ·cases hc
  ·rcases List.mem_cons.mp hc with rfl | hc
   ·exact .inr (.inr rfl)
   ·exact .inl (Lb _ _ hc)
end Tx
namespace Lib
open PySem L2 Tx PySem.NumText
end Lib
namespace L2
open PySem PySem.Spec PyProof.Rows
section
variable {prog:Program}{w:World}{A:Around}{R:Result->Shared->Prop}{s:Shared}
theorem gC {elt target iter:Expr}{ifs:List Expr}{scope:Scope}{pos:Pos}{it acc:Value}{env:Env}(I:Nat->Shared->Prop)
  (turn:∀n s,I n s->wpAny (model prog w) A (pyNext it) (λ r s₁=>match r with
   | none=>R (.ok .next) s₁
   | some v=>wpAny (model prog w) A (letOwnedTupleGo target it v) (λ _ s₁'=>wpAny (model prog w) A (assign target env v) (λ _ s₂=>
     wpAny (model prog w) A (forIn ifs true λ c r=>if r=true then do let ok <- isTrue c env (eval c env);pure (ForInStep.yield ok) else pure (ForInStep.yield r)) (λ ok s₃=>
      if ok=true then wpAny (model prog w) A (eval elt env) (λ x s₄=>
       wpAny (model prog w) A (call (.builtin "list.append") [acc,x]) (λ _ s₅=>∃m,m < n/\I m s₅) (λ _ _=>False) s₄) (λ _ _=>False) s₃
      else ∃m,m < n/\I m s₃) (λ _ _=>False) s₂) (λ _ _=>False) s₁') (λ _ _=>False) s₁) (λ _ _=>False) s)
  (n:Nat) (h:I n s):
  codeAny (model prog w) A (.compLoop (.ListComp elt [⟨target,iter,ifs,0⟩] scope pos) 0 it acc env) R s:=by
 refine codeAny_loop rfl I (λ n s hI=>?_) n h
 show wpAny _ A ((compTurn (.ListComp elt [⟨target,iter,ifs,0⟩] scope pos) 0 it acc env).onRaise (λ x=>do noteFrame x env;theTreesLotGoes x)) _ _ s
 refine wpAny_noted ?_;rw [compTurn_list];refine wpAny_bind (wpAny_standAt (wpAny_bind (wpAny_mono (turn n s hI) (λ r s₁ h₁=>?_) λ _ _ z=>z.elim)))
 cases r with
 | none=>exact wpAny_pure h₁
 | some v=>
  refine wpAny_bind (wpAny_mono h₁ (λ _ s₁' h₁'=>?_) λ _ _ z=>z.elim)
  refine wpAny_bind (wpAny_mono h₁' (λ _ s₂ h₂=>wpAny_bind (wpAny_mono h₂ (λ ok s₃ h₃=>?_) λ _ _ z=>z.elim)) λ _ _ z=>z.elim)
  cases ok with
  | false=>exact wpAny_pure ⟨rfl,h₃⟩
  | true=>
   exact wpAny_bind (wpAny_bind (wpAny_mono h₃ (λ x s₄ h₄=>wpAny_bind (wpAny_mono h₄ (λ _ s₅ h₅=>wpAny_pure (wpAny_pure ⟨rfl,h₅⟩)) λ _ _ z=>z.elim)) λ _ _ z=>z.elim))
end
def CT (X:Cx)(scope:Scope)(cl:List (Str×Addr))(N':List Str)(C:Addr)(fp:List Addr)(pins:List (Addr×Obj))(s2:Shared)(H2:Hp):Cx:=
 { X with N:=N',s₀:=s2,H₀:=H2,env:=compEnvC scope cl C X.env,outer:=X.stack,ex:=fp,fn:=λ _=>false,pn:=X.pn++pins,xe:=λ _ _=>False }
structure CapOk (X:Cx)(scope:Scope)(cl:List (Str×Addr)):Prop where
 clos:closureFor scope X.env=pure cl
 sub:∀y c,cl.lookup y=some c->X.env.cells.lookup y=some c
 has:∀y,((relabel scope X.env).names.lookup y=some .cell\/(relabel scope X.env).names.lookup y=some .free)->∃c,cl.lookup y=some c
theorem lY {scope:Scope}{env:Env}(hfree:∀y∈scope.names,y.2≠.free):(relabel scope env).names=scope.names:=by
 unfold relabel;exact map_eq_self (l:=scope.names) λ x hx=>by
  obtain ⟨n,k⟩:=x;have:(k == NameKind.free)=false:=by simpa using hfree _ hx
  simp [this]
theorem Oo {X:Cx}{scope:Scope}(hfree:∀y∈scope.names,y.2≠.free)(hcell:∀y∈scope.names,y.2≠.cell):CapOk X scope []:=by
 refine ⟨closureFor_none hfree,λ y c e=>(by simp at e),λ y e=>?_⟩
 rw [lY hfree] at e;exfalso;rcases e with e | e
 ·exact hcell _ (PySem.mem_of_lookup e) rfl
 ·exact hfree _ (PySem.mem_of_lookup e) rfl
def JZ (caps:List (Option Nat))(σ:St):St:=caps.map λ o=>o.bind λ j=>(σ[j]?).join
section
variable {X:Cx}{pins:List (Addr×Obj)}{σ:St}{H2:Hp}{s2:Shared}{scope:Scope}{cl:List (Str×Addr)}{N':List Str}{C:Addr}{fp:List Addr}{caps:List (Option Nat)}
theorem Qp (I:Inv X pins σ H2 s2){b:Addr}(h1:b≠X.env.locals)(h2:b∉X.fs):b∉frs X.stack:=λ z=>(List.mem_cons.mp (I.stkSub b z)).elim h1 h2
theorem ie (I:Inv X pins σ H2 s2)(hf:∀b∈fp,FpOk X pins H2 b)(hl:∀b∈fp,b < s2.heap.objs.size)(hk:scope.kind=.function)(cap:CapOk X scope cl)(hC:s2.heap.objs.size<=C){s4:Shared}(os:s4.os=s2.os)(bare:AllBare s4.gens)
  (k:∀b o,s2.heap.get? b=some o->s4.heap.get? b=some o) (ns:s4.heap.Ns C λ _=>none) (hN:caps.length=N'.length)
  (hcap:∀(i j:Nat),caps[i]?=some (some j)->∃y:Str,N'[i]?=some y/\X.N[j]?=some y/\(relabel scope X.env).names.lookup y=some .cell/\X.env.scope.names.lookup y=some .cell):
  Inv (CT X scope cl N' C fp pins s2 H2) [] (JZ caps σ) H2 s4:=by
 have neC:∀b:Addr,b < s2.heap.objs.size->b≠C:=λ b h=>Nat.ne_of_lt (Nat.lt_of_lt_of_le h hC)
 refine ⟨⟨I.ok.mod,?_,I.ok.glob,I.ok.blt,hC,λ y z c h1 h2=>I.ok.inj y z c (cap.sub y c h1) (cap.sub z c h2),λ y h=>cap.has y h,(λ y c z=>nomatch z),I.ok.hd,I.ok.frames,.inl rfl,λ b hb=>⟨neC b (hl b hb),λ y c e=>(hf b hb).2.2.2.2.1 y c (cap.sub y c e)⟩,
  λ b o e=>I.bs b o e,Nat.le_trans I.ok.bsz I.sz,λ b o e hb=>?_,λ b hb=>Qp I (hf b hb).2.1 (hf b hb).2.2.1,I.stack,I.stkFree⟩,
  os,bare,Un.kept k,⟨_,ns,λ i y v h1 h2 h3=>?_⟩,λ y c e=>?_,I.hok.fresh hC,λ y c e=>I.freeC y c (cap.sub y c e),λ p hp=>?_,I.hok.kept k,?_⟩
 ·show (relabel scope X.env).kind=.function;exact hk
 ·rcases (hf b hb).2.2.2.1 with z | z
  ·exact I.ok.noex b o e z
  ·exact absurd (Nat.lt_of_lt_of_le (Heap.lt_size e) (Nat.le_trans I.ok.bsz z)) (Nat.lt_irrefl _)
 ·have h1:N'[i]?=some y:=h1;unfold JZ at h2;rw [List.getElem?_map] at h2;cases hc:caps[i]? with
  | none=>rw [hc] at h2;cases h2
  | some o=>
   rw [hc] at h2;cases o with
   | none=>cases h2
   | some j=>
    obtain ⟨y',e1,e2,e3,e4⟩:=hcap i j hc;rw [h1] at e1;cases e1
    have hj:σ[j]?=some (some v):=by
     have z:(σ[j]?).join=some v:=by simpa using h2
     cases q:σ[j]? with
     | none=>rw [q] at z;cases z
     | some w'=>rw [q] at z;exact congrArg some z
    obtain ⟨m,hn,hm⟩:=I.loc;obtain ⟨u,ru,lk⟩:=hm j y v e2 hj (.inr (.inl e4));refine ⟨u,ru,.inr ⟨.inl e3,?_⟩⟩;rcases lk with ⟨z,_⟩ | ⟨_,c,ec,o',ho',hd'⟩
    ·rw [show X.env.kindOf y=X.env.scope.names.lookup y from rfl,e4] at z;cases z
    ·obtain ⟨c',ec'⟩:=cap.has y (.inl e3);have:=cap.sub y c' ec';rw [ec] at this;cases this
     exact ⟨c,ec',o',k _ _ ho',hd'⟩
 ·obtain ⟨v,o,ho,hd⟩:=I.cell y c (cap.sub y c e);exact ⟨v,o,k _ _ ho,hd⟩
 ·have hp:p∈(X.pn++pins)++[]:=hp;rw [List.append_nil] at hp;obtain ⟨e,n,ne,nf,d⟩:=I.pin p hp;exact ⟨k _ _ e,n,neC _ (Heap.lt_size e),Qp I ne nf,d⟩
 ·show (JZ caps σ).length=N'.length;unfold JZ;rw [List.length_map];exact hN
theorem Xk {pl:List (Addr×Obj)}{σ':St}{H':Hp}{s':Shared}{D:Addr}{items:Array Value}{ys:List V}{h'':Heap}(I:Inv X pins σ H2 s2)(hf:∀b∈fp,FpOk X pins H2 b)(I':Inv (CT X scope cl N' C fp pins s2 H2) pl σ' H' s')
  (hpl:s'.heap.PlainList D items) (nD:H' D=none) (newD:s2.heap.get? D=none) (hDC:D≠C) (rv:Vals ys items.toList) (hz:ys.length<=sizeLine) (sb:Heap.SameBut C s'.heap h''):Inv X pins σ (upd H' D (.lst ys)) { s' with heap:=h'' }:=by
 have hC:s2.heap.objs.size<=C:=I'.ok.above;have neC:∀b o,s2.heap.get? b=some o->b≠C:=λ b o e=>Nat.ne_of_lt (Nat.lt_of_lt_of_le (Heap.lt_size e) hC)
 have nC:H' C=none:=I'.free;obtain ⟨n0,ho⟩:=hpl;refine I.call' (s':={ s' with heap:=h'' }) (ch:=fp) I'.os ⟨λ b o e n hb hx=>sb.extBut b o (neC b o e) (I'.base.keep b o e n hb hx),λ b o e n hb hx=>?_,λ b o e n hx=>?_,λ b o e hx=>?_,λ b xs e=>?_,λ b o u e=>?_,λ b ps e=>?_⟩ (λ b o e=>?_) I'.bare λ b hb=>?_
 ·obtain ⟨sl,q⟩:=I'.base.slot b o e n hb hx;exact ⟨sl,sb.extBut b _ (neC b o e) q⟩
 ·have:b≠D:=λ z=>by rw [z,newD] at e;cases e
  rw [Av this];exact I'.base.free b o e n hx
 ·obtain ⟨o',q⟩:=I'.base.there b o e hx;exact ⟨o',sb.extBut b _ (neC b o e) q⟩
 ·have q:=I'.base.tups b xs e;rw [Av (Bm q nD)];exact q
 ·have q:=I'.base.frzs b o u e;rw [Av (Bm q nD)];exact q
 ·obtain ⟨m,q⟩:=I'.base.tbls b ps e;exact ⟨m,by rw [Av (Bm q nD)];exact q⟩
 ·by_cases hb:b=D
  ·subst hb;rw [Aq] at e;cases e
   exact ⟨hz,items.toList,n0,rv,sb.extBut _ _ hDC ho⟩
  ·rw [Av hb] at e;refine (I'.hok b o e).stay (λ c v hc q=>sb.extBut c v ?_ q) (λ c q=>by rw [Av (Bm q nD)];exact q) λ c xs q=>by rw [Av (Bm q nD)];exact q
   intro z;subst z;rcases hc with z | z
   ·rw [<- z,nC] at e;cases e
   ·rw [nC] at z;cases z
 ·obtain ⟨f0,f1,f2,f3,f4,f5⟩:=hf b hb;exact ⟨f3,f1,f4,f5⟩
end
def CZ (X:Cx)(ifs:List Expr)(t:TT):Prop:=
 ∀(pins:List (Addr×Obj)) (s:Shared) (σ:St) (H:Hp) (Q:Bool->Hp->Prop),Inv X pins σ H s->t σ H Q->
  wpAny (model X.prog X.w) X.A (forIn ifs true λ c r=>if r=true then do let ok <- isTrue c X.env (eval c X.env);pure (ForInStep.yield ok) else pure (ForInStep.yield r)) (TP X pins σ Q) X.xe s
def JC:TT:=λ _ H Q=>Q true H
theorem Gy {X:Cx}:CZ X [] JC:=λ pins s σ H Q I h=>by
 simp only [List.forIn_nil];exact wpAny_pure ⟨H,I,h⟩
theorem qP {X:Cx}{c:Expr}{t:TT}(hc:PT X c t):CZ X [c] t:=λ pins s σ H Q I h=>by
 simp only [List.forIn_cons,List.forIn_nil,if_true];exact wpAny_bind (wpAny_bind (wpAny_mono (hc pins s σ H Q I h) (λ b s' hb=>wpAny_pure (wpAny_pure hb)) λ _ _ x=>x))
def IW (g:TG)(tt:TT)(te:TE)(J:It)(σ:St)(H1:Hp)(Q:VK):Prop:=∃W:Nat->Nat->St->List V->Hp->Prop,(∃m,W 0 m σ [] H1)/\∀i m σ' ys H,W i m σ' ys H->ys.length<=sizeLine/\
 ((J.stop i H/\∀p,H p=none->Q (.ref p) (upd H p (.lst ys)))\/
   (J.go i H/\∀x H',J.yld i H x H'->g x σ' H' λ σ2 H2=>tt σ2 H2 λ b H3=>if b=true then te σ2 H3 λ y H4=>∃m',m' < m/\W (i+1) m' σ2 (ys++[y]) H4 else ∃m',m' < m/\W (i+1) m' σ2 ys H3))
def Lh (wi:TI)(g:TG)(tt:TT)(te:TE)(caps:List (Option Nat)):TE:=λ σ H Q=>wi σ H λ J H1=>IW g tt te J (JZ caps σ) H1 Q
theorem cH {X:Cx}{tg elt iter:Expr}{ifs:List Expr}{scope:Scope}{pos:Pos}{wi:TI}{g:TG}{tt:TT}{te:TE}{cl:List (Str×Addr)}(N':List Str)(caps:List (Option Nat))(hc:X.calm=true)(hi:PI X tg iter wi)
  (hg:∀C fp pins s2 H2,PG (CT X scope cl N' C fp pins s2 H2) tg g) (ht:∀C fp pins s2 H2,CZ (CT X scope cl N' C fp pins s2 H2) ifs tt) (he:∀C fp pins s2 H2,PE (CT X scope cl N' C fp pins s2 H2) elt te)
  (cap:CapOk X scope cl) (hcell:∀y∈scope.names,y.2≠.cell) (hkind:scope.kind=.function) (hnames:∀y∈scope.names,y.2=.local->scope.names.lookup y.1=some .local) (hN:caps.length=N'.length)
  (hcap:∀(i j:Nat),caps[i]?=some (some j)->∃y:Str,N'[i]?=some y/\X.N[j]?=some y/\(relabel scope X.env).names.lookup y=some .cell/\X.env.scope.names.lookup y=some .cell)
  (hs:∀x,foldedSetIterable iter X.env x=pure x) {pins:List (Addr×Obj)} {s:Shared} {σ:St} {H:Hp} {Q:VK} {use:Option (Value->Sem Unit)} {QQ:Value->Shared->Prop}
  (fin:∀(C D:Addr) (fp:List Addr) (s2 s4:Shared) (H2 H4:Hp) (pl:List (Addr×Obj)) (σ':St) (items:Array Value) (ys:List V),Inv X pins σ H2 s2->(∀b∈fp,FpOk X pins H2 b)->Inv (CT X scope cl N' C fp pins s2 H2) pl σ' H4 s4->s4.heap.PlainList D items->H4 D=none->s2.heap.get? D=none->D≠C->
   Vals ys items.toList->ys.length<=sizeLine->(∀p,H4 p=none->Q (.ref p) (upd H4 p (.lst ys)))->compPost (model X.prog X.w) X.A X.xe use QQ (.ref D) C (.ok .next) s4)
  (I:Inv X pins σ H s) (h:Lh wi g tt te caps σ H Q):wpAny (model X.prog X.w) X.A (comprehension (.ListComp elt [⟨tg,iter,ifs,0⟩] scope pos) scope X.env (firstIterPos [⟨tg,iter,ifs,0⟩] pos) (newList []) false (eval iter X.env) use) QQ X.xe s:=by
 refine wpAny_comprehension_free (use:=use) rfl hs cap.clos hkind hnames (thn (hi pins s σ H _ I h) λ xv s₁ h₁=>thn h₁ λ itv s₂ h₂=>?_)
 obtain ⟨it,fp,tn,J,H2,rfl,I2,T,st2,f2,W,⟨m0,w0⟩,turn⟩:=h₂;have hfp:∀b∈fp,b < s₂.heap.objs.size:=λ b hb=>by obtain ⟨o,e,_⟩:=T.obj _ _ st2 b hb;exact Heap.lt_size e
 refine wpAny_newObj_type (wpAny_newFunctionEnv hcell (by intro y hy;simp at hy) (λ h₁ hns₁ hsb₁=>?_) hkind)
 dsimp only at hns₁ hsb₁ ⊢
 generalize hH2:s₂.heap.push { cls:=.type "list",dict:=none,data:=.seq ([]:List Value).toArray }=H2' at hns₁ hsb₁ ⊢;have hC:H2'.objs.size=s₂.heap.objs.size+1:=by rw [<- hH2,Heap.size_push]
 have hDC:s₂.heap.objs.size≠H2'.objs.size:=by rw [hC];exact Nat.ne_of_lt (Nat.lt_succ_self _)
 have hCle:s₂.heap.objs.size<=H2'.objs.size:=by rw [hC];exact Nat.le_succ _
 have below:∀b,b < s₂.heap.objs.size->b≠H2'.objs.size:=λ b hb=>by rw [hC];exact Nat.ne_of_lt (Nat.lt_succ_of_lt hb)
 have old:∀b o,s₂.heap.get? b=some o->h₁.get? b=some o:=λ b o e=>hsb₁.extBut b o (below b (Heap.lt_size e)) (Heap.get?_push_of_some _ (hH2▸Heap.get?_push_of_some _ e))
 have hacc:h₁.PlainList s₂.heap.objs.size #[]:=⟨_,hsb₁.extBut _ _ hDC (Heap.get?_push_of_some _ (hH2▸Heap.get?_push_size _ rfl))⟩;have newD:s₂.heap.get? s₂.heap.objs.size=none:=Heap.get?_none_of_le (Nat.le_refl _);have nD2:H2 s₂.heap.objs.size=none:=I2.hok.fresh (Nat.le_refl _);generalize hDD:s₂.heap.objs.size=D at *;generalize hCC:H2'.objs.size=C at *;have fpD:∀b∈fp,b≠D:=λ b hb=>Nat.ne_of_lt (hfp b hb)
 have statX:∀{H':Hp} {pl:List (Addr×Obj)},(∀p∈pl,p.1=D)->(∀b∈fp,H' b=none)->∀b∈fp,FpOk (CT X scope cl N' C fp pins s₂ H2) pl H' b:=λ {H' pl} hpl hn b hb=>by
  obtain ⟨f0,f1,f2',f3,f4,f5⟩:=f2 b hb;refine ⟨hn b hb,below b (hfp b hb),Qp I2 f1 f2',.inl hb,λ y c e=>f4 y c (cap.sub y c e),λ p hp=>?_⟩
  rcases List.mem_append.mp hp with hp | hp
  ·exact f5 p hp
  ·rw [hpl p hp];exact (fpD b hb).symm
 have ht':∀n s',(∃i σ' ys,∃(items:Array Value),∃H',Inv (CT X scope cl N' C fp pins s₂ H2) [] σ' H' s'/\tn i s'.heap/\(∀b∈fp,H' b=none)/\s'.heap.PlainList D items/\Vals ys items.toList/\H' D=none/\W i n σ' ys H')->
   wpAny (model X.prog X.w) X.A (pyNext (.ref it)) (λ r s₁=>match r with
   | none=>compPost (model X.prog X.w) X.A X.xe use QQ (.ref D) C (.ok .next) s₁
   | some v=>wpAny (model X.prog X.w) X.A (letOwnedTupleGo tg (.ref it) v) (λ _ s₁'=>wpAny (model X.prog X.w) X.A (assign tg (compEnvC scope cl C X.env) v) (λ _ s₂'=>
     wpAny (model X.prog X.w) X.A (forIn ifs true λ c r=>if r=true then do let ok <- isTrue c (compEnvC scope cl C X.env) (eval c (compEnvC scope cl C X.env));pure (ForInStep.yield ok) else pure (ForInStep.yield r)) (λ ok s₃=>
      if ok=true then wpAny (model X.prog X.w) X.A (eval elt (compEnvC scope cl C X.env)) (λ x s₄=>
       wpAny (model X.prog X.w) X.A (call (.builtin "list.append") [.ref D,x]) (λ _ s₅=>∃m,m < n/\∃i σ' ys,∃(items:Array Value),∃H',Inv (CT X scope cl N' C fp pins s₂ H2) [] σ' H' s₅/\tn i s₅.heap/\(∀b∈fp,H' b=none)/\s₅.heap.PlainList D items/\Vals ys items.toList/\H' D=none/\W i m σ' ys H') (λ _ _=>False) s₄) (λ _ _=>False) s₃
      else ∃m,m < n/\∃i σ' ys,∃(items:Array Value),∃H',Inv (CT X scope cl N' C fp pins s₂ H2) [] σ' H' s₃/\tn i s₃.heap/\(∀b∈fp,H' b=none)/\s₃.heap.PlainList D items/\Vals ys items.toList/\H' D=none/\W i m σ' ys H') (λ _ _=>False) s₂') (λ _ _=>False) s₁') (λ _ _=>False) s₁) (λ _ _=>False) s':=by
  rintro n s3 ⟨i,σ3,ys,items,H3,I3,st3,fr3,pl3,rv3,nD3,w3⟩
  obtain ⟨hz,hw⟩:=turn i n σ3 ys H3 w3;obtain ⟨n0,ho⟩:=id pl3;have nfsD:D∉frs X.stack:=λ z=>by
   obtain ⟨_,o,e,_⟩:=I2.stack.mem z;rw [newD] at e;cases e
  have I3p:Inv (CT X scope cl N' C fp pins s₂ H2) [(D,{ cls:=.type "list",data:=.seq items n0 })] σ3 H3 s3:=I3.pins_of λ p hp=>by
   have e:p=(D,{ cls:=.type "list",data:=.seq items n0 }):=by simpa using hp
   subst e;exact ⟨ho,nD3,hDC,nfsD,λ v z=>by cases z⟩
  have one:∀p∈[(D,({ cls:=.type "list",data:=.seq items n0 }:Obj))],p.1=D:=λ p hp=>by
   have e:p=(D,{ cls:=.type "list",data:=.seq items n0 }):=by simpa using hp
   subst e;rfl
  rcases hw with ⟨stop,qn⟩ | ⟨go,step⟩
  ·refine thn (T.done (CT X scope cl N' C fp pins s₂ H2) rfl rfl rfl hc i _ s3 σ3 H3 (λ _ _=>False) I3p (statX one fr3) st3 stop) λ r s4 ⟨hr,I4⟩=>?_
   subst hr;obtain ⟨e4,nD4,_⟩:=I4.pin _ (List.mem_append_right _ (List.mem_singleton.mpr rfl));exact fin C D fp s₂ s4 H2 H3 _ σ3 items ys I2 f2 I4 ⟨n0,e4⟩ nD4 (hDD▸newD) hDC rv3 hz qn
  ·refine thn (T.item (CT X scope cl N' C fp pins s₂ H2) rfl rfl rfl hc i _ s3 σ3 H3 (λ _ _=>False) I3p (statX one fr3) st3 go) λ r s4 ⟨u,hr,h4⟩=>?_
   subst hr;refine thn h4 λ _ s5 ⟨x,H5,I5,r5,y5,st5,fr5⟩=>?_
   have I5':=I5.pinned (statX one fr5) (T.obj _ _ st5);refine thn (hg C fp pins s₂ H2 _ s5 σ3 H5 x u _ I5' r5 (step x H5 y5)) λ _ s6 ⟨σ6,H6,I6,q6⟩=>?_
   refine thn (ht C fp pins s₂ H2 _ s6 σ6 H6 _ I6 q6) λ b s7 ⟨H7,I7,q7⟩=>?_
   have back:∀{H8:Hp} {s8:Shared},Inv (CT X scope cl N' C fp pins s₂ H2) ([(D,({ cls:=.type "list",data:=.seq items n0 }:Obj))]++pinsAt fp s5.heap) σ6 H8 s8->
     Inv (CT X scope cl N' C fp pins s₂ H2) [] σ6 H8 s8/\tn (i+1) s8.heap/\(∀b∈fp,H8 b=none)/\s8.heap.PlainList D items/\H8 D=none:=λ {H8 s8} I8=>by
    refine ⟨I8.pins_of (λ p hp=>nomatch hp),T.keep _ _ _ st5 λ b hb o e=>(I8.pin (b,o) (List.mem_append_right _ (List.mem_append_right _ (Oh hb e)))).1,λ b hb=>?_,?_,?_⟩
    ·obtain ⟨o,e,d⟩:=T.obj _ _ st5 b hb;exact (I8.pin (b,o) (List.mem_append_right _ (List.mem_append_right _ (Oh hb e)))).2.1
    ·exact ⟨n0,(I8.pin _ (List.mem_append_right _ (List.mem_append_left _ (List.mem_singleton.mpr rfl)))).1⟩
    ·exact (I8.pin _ (List.mem_append_right _ (List.mem_append_left _ (List.mem_singleton.mpr rfl)))).2.1
   cases b with
   | false=>
    rw [if_neg Bool.false_ne_true] at q7;obtain ⟨m',hm,w7⟩:=q7;obtain ⟨J1,J2,J3,J4,J5⟩:=back I7;rw [if_neg Bool.false_ne_true];exact ⟨m',hm,i+1,σ6,ys,items,H7,J1,J2,J3,J4,rv3,J5,w7⟩
   | true=>
    rw [if_pos rfl] at q7;rw [if_pos rfl];refine thn (he C fp pins s₂ H2 _ s7 σ6 H7 _ I7 q7) λ v s8 ⟨y,H8,I8,r8,m',hm,w8⟩=>?_
    obtain ⟨J1,J2,J3,J4,J5⟩:=back I8;have hit:items.size<=sizeLine:=by
     have e:ys.length=items.size:=by simpa using rv3.length
     omega
    refine wpAny_list_append_plain (hsz:=hit) J4 λ h9 hl9 hs9=>?_
    have nc:∀y c,cl.lookup y=some c->c≠D:=λ y c e z=>by
     obtain ⟨v,o,ho,_⟩:=I2.cell y c (cap.sub y c e);rw [z,newD] at ho;cases ho
    have np:∀p∈(X.pn++pins)++[],p.1≠D:=λ p hp z=>by
     rw [List.append_nil] at hp;have e:=(I2.pin p hp).1;rw [z,newD] at e;cases e
    have J9:Inv (CT X scope cl N' C fp pins s₂ H2) [] σ6 H8 { s8 with heap:=h9 }:=J1.turned (it:=D) (t':=s8.toks) (λ b o hb e=>hs9.extBut b o hb e) J5 hDC (.inr (Nat.le_of_eq hDD)) nc np
    refine ⟨m',hm,i+1,σ6,ys++[y],items.push v,H8,J9,T.keep _ _ _ J2 λ b hb o e=>hs9.extBut b o (fpD b hb) e,J3,hl9,?_,J5,w8⟩
    rw [Array.toList_push];exact rv3.append (.cons r8 .nil)
 have I0:Inv (CT X scope cl N' C fp pins s₂ H2) [] (JZ caps σ) H2 { s₂ with heap:=h₁,toks:=s₂.toks+([]:List (Str×Value)).length }:=
  ie I2 f2 (λ b hb=>hDD▸hfp b hb) hkind cap (by rw [hDD];exact hCle) rfl I2.bare old hns₁ hN hcap
 have st0:tn 0 h₁:=T.keep _ _ _ st2 λ b _ o e=>old b o e
 have loop:∀s₃:Shared,s₃={ s₂ with heap:=h₁,toks:=s₂.toks+([]:List (Str×Value)).length }->
   codeAny (model X.prog X.w) X.A (.compLoop (.ListComp elt [⟨tg,iter,ifs,0⟩] scope pos) 0 (.ref it) (.ref D) (compEnvC scope cl C X.env)) (compPost (model X.prog X.w) X.A X.xe use QQ (.ref D) C) s₃:=by
  rintro s₃ rfl
  exact gC _ ht' m0 ⟨0,_,[],#[],H2,I0,st0,λ b hb=>(f2 b hb).1,hacc,.nil,nD2,w0⟩
 exact codeAny_compStart_list (loop _ rfl) (T.self X.A 0 _ _ _ st0 (loop _ rfl))
theorem Kl {X:Cx}{tg elt iter:Expr}{ifs:List Expr}{scope:Scope}{pos:Pos}{wi:TI}{g:TG}{tt:TT}{te:TE}{cl:List (Str×Addr)}(N':List Str)(caps:List (Option Nat))(hc:X.calm=true)(hi:PI X tg iter wi)
  (hg:∀C fp pins s2 H2,PG (CT X scope cl N' C fp pins s2 H2) tg g) (ht:∀C fp pins s2 H2,CZ (CT X scope cl N' C fp pins s2 H2) ifs tt) (he:∀C fp pins s2 H2,PE (CT X scope cl N' C fp pins s2 H2) elt te)
  (cap:CapOk X scope cl) (hcell:∀y∈scope.names,y.2≠.cell) (hkind:scope.kind=.function) (hnames:∀y∈scope.names,y.2=.local->scope.names.lookup y.1=some .local) (hN:caps.length=N'.length)
  (hcap:∀(i j:Nat),caps[i]?=some (some j)->∃y:Str,N'[i]?=some y/\X.N[j]?=some y/\(relabel scope X.env).names.lookup y=some .cell/\X.env.scope.names.lookup y=some .cell)
  (hs:∀x,foldedSetIterable iter X.env x=pure x:=by intro _;rfl):
  PE X (.ListComp elt [⟨tg,iter,ifs,0⟩] scope pos) (Lh wi g tt te caps):=by
 intro pins s σ H Q I h;rw [eval_ListComp];refine cH (use:=none) N' caps hc hi hg ht he cap hcell hkind hnames hN hcap hs (λ C D fp s2 s4 H2 H4 pl σ' items ys I2 f2 I4 hpl nD newD hDC rv hz qn=>?_) I h
 obtain ⟨m,hn,_⟩:=I4.loc;exact ⟨m,hn,λ h' sb=>⟨.ref D,_,Xk I2 f2 I4 hpl nD newD hDC rv hz sb,rfl,qn D nD⟩⟩
def Z5 (i:Nat)(t:TE):TS:=λ D σ H=>t σ H λ v H1=>D.nx (σ.set i (some v)) H1
theorem rM {X:Cx}{tg elt iter:Expr}{ifs:List Expr}{scope:Scope}{pos spos py:Pos}{wi:TI}{g:TG}{tt:TT}{te:TE}{cl:List (Str×Addr)}{y:Str}{i:Nat}(hND:X.N.Nodup)(hiy:X.N[i]?=some y)(hy:Loc X.env.scope y)(N':List Str)(caps:List (Option Nat))(hc:X.calm=true)(hi:PI X tg iter wi)
  (hg:∀C fp pins s2 H2,PG (CT X scope cl N' C fp pins s2 H2) tg g) (ht:∀C fp pins s2 H2,CZ (CT X scope cl N' C fp pins s2 H2) ifs tt) (he:∀C fp pins s2 H2,PE (CT X scope cl N' C fp pins s2 H2) elt te)
  (cap:CapOk X scope cl) (hcell:∀y∈scope.names,y.2≠.cell) (hkind:scope.kind=.function) (hnames:∀y∈scope.names,y.2=.local->scope.names.lookup y.1=some .local) (hN:caps.length=N'.length)
  (hcap:∀(i j:Nat),caps[i]?=some (some j)->∃y:Str,N'[i]?=some y/\X.N[j]?=some y/\(relabel scope X.env).names.lookup y=some .cell/\X.env.scope.names.lookup y=some .cell)
  (hs:∀x,foldedSetIterable iter X.env x=pure x:=by intro _;rfl) (hsw:swapsWith (.ListComp elt [⟨tg,iter,ifs,0⟩] scope pos) (some (.Name y py)) spos.line X.env=pure true:=by rfl)
  (hfn:X.fn y=true\/X.env.scope.names.lookup y=some .local:=by first | exact .inl rfl | exact .inr rfl | assumption):
  PS X (.Assign [.Name y py] (.ListComp elt [⟨tg,iter,ifs,0⟩] scope pos) spos) (Z5 i (Lh wi g tt te caps)):=by
 intro pins s σ H D I h;rw [exec_Assign_Name_used _ _ _ _ hsw];refine wpAny_bind (wpAny_standAt (wpAny_bind ?_));show wpAny _ X.A (do let _ <- comprehension (.ListComp elt [⟨tg,iter,ifs,0⟩] scope pos) scope X.env _ (newList []) false (eval iter X.env) (some (assign (.Name y py) X.env))) _ _ s
 refine wpAny_bind (wpAny_mono (cH (use:=some (assign (.Name y py) X.env)) (QQ:=λ _ s'=>SP X pins D .next s') N' caps hc hi hg ht he cap hcell hkind hnames hN hcap hs
  (λ C Dl fp s2 s4 H2 H4 pl σ' items ys I2 f2 I4 hpl nD newD hDC rv hz qn=>?_) I h) (λ _ s' hq=>wpAny_pure (wpAny_pure hq)) λ _ _ e=>e)
 have hC:s2.heap.objs.size<=C:=I4.ok.above;obtain ⟨m,hn,_⟩:=I4.loc;obtain ⟨oC,es,ep,hoC,hdC,hrest⟩:=id hn;have J:Inv X pins σ (upd H4 Dl (.lst ys)) s4:=Xk I2 f2 I4 hpl nD newD hDC rv hz (Heap.SameBut.refl ..);have nC:upd H4 Dl (.lst ys) C=none:=by rw [Av (Ne.symm hDC)];exact I4.free
 have c1:C≠X.env.locals:=Nat.ne_of_gt (Nat.lt_of_lt_of_le I2.lt hC);have c2:C∉X.fs:=I2.nofs hC;have J1:Inv X (pins++[(C,oC)]) σ (upd H4 Dl (.lst ys)) s4:=J.pins_of λ p hp=>by
  rcases List.mem_append.mp hp with hp | hp
  ·exact J.pin p (List.mem_append_right _ hp)
  ·have e:p=(C,oC):=by simpa using hp
   subst e;exact ⟨hoC,nC,c1,c2,λ v z=>by rw [hdC] at z;cases z⟩
 show wpAny _ X.A (assign (.Name y py) X.env (.ref Dl)) _ _ s4;refine wpAny_assign_Name (JL J1 hND hiy hy (show RelV (.ref Dl) (Value.ref Dl) from rfl) (λ s5 J5=>?_) hfn)
 obtain ⟨e5,_⟩:=J5.pin (C,oC) (List.mem_append_right _ (List.mem_append_right _ (List.mem_singleton.mpr rfl)));refine ⟨m,⟨oC,es,ep,e5,hdC,hrest⟩,λ h' sb=>?_⟩
 have J6:Inv X pins (σ.set i (some (.ref Dl))) (upd H4 Dl (.lst ys)) s5:=J5.unpinned;refine ⟨_,_,J6.turned (it:=C) (t':=s5.toks) (λ b o hb e=>sb.extBut b o hb e) nC c1 (.inr (Nat.le_trans I2.sz hC)) (λ x c e z=>?_) (λ p hp z=>?_),qn Dl nD⟩
 ·obtain ⟨v,o,ho,_⟩:=I2.cell x c e;exact absurd (Heap.lt_size ho) (by rw [z];exact Nat.not_lt.mpr hC)
 ·have e:=(I2.pin p hp).1;exact absurd (Heap.lt_size e) (by rw [z];exact Nat.not_lt.mpr hC)
theorem SqT.keep {K:FrG}{H H':Hp}{a:Addr}{xs:List V}(s:Same H H')(h:SqT K H a xs):SqT K H' a xs:=by
 rcases h with (h | ⟨o,h⟩) | h
 ·exact .inl (.inl (s _ _ h))
 ·exact .inl (.inr ⟨o,s _ _ h⟩)
 ·exact .inr h
theorem SqL.keep {K:FrG}{H H':Hp}{a:Addr}{xs:List V}(s:Same H H')(h:SqL K H a xs):SqL K H' a xs:=s.seq h
mutual
theorem DV.keep {K:FrG}{H H':Hp}(s:Same H H'):∀{v:V} {d:PyData},DV K H v d->DV K H' v d
 | _,_,.non=>.non
 | _,_,.bl b=>.bl b
 | _,_,.int i=>.int i
 | _,_,.str x=>.str x
 | _,_,.lst h q=>.lst (h.keep s) (DVs.keep s q)
 | _,_,.tup h q=>.tup (h.keep s) (DVs.keep s q)
 | _,_,.dct h=>.dct (s _ _ h)
theorem DVs.keep {K:FrG}{H H':Hp}(s:Same H H'):∀{vs:List V} {ds:List PyData},DVs K H vs ds->DVs K H' vs ds
 | _,_,.nil=>.nil
 | _,_,.cons h q=>.cons (DV.keep s h) (DVs.keep s q)
end
section
variable {K:FrG}{H:Hp}{v:V}{vs:List V}{d d1 d2 d3 d4:PyData}{ds:List PyData}
theorem DVs.len:∀{vs:List V} {ds:List PyData},DVs K H vs ds->vs.length=ds.length
 | _,_,.nil=>rfl
 | _,_,.cons _ q=>by rw [List.length_cons,List.length_cons,DVs.len q]
theorem DVs.cons_of (h:DVs K H vs (d::ds)):∃x xs,vs=x::xs/\DV K H x d/\DVs K H xs ds:=by
 cases h with
 | cons h q=>exact ⟨_,_,rfl,h,q⟩
theorem DV.tup_of (h:DV K H v (.tuple ds)):∃a xs,v=.ref a/\SqT K H a xs/\DVs K H xs ds:=by
 cases h with
 | tup h q=>exact ⟨_,_,rfl,h,q⟩
theorem DV.lst_of (h:DV K H v (.list ds)):∃a xs,v=.ref a/\SqL K H a xs/\DVs K H xs ds:=by
 cases h with
 | lst h q=>exact ⟨_,_,rfl,h,q⟩
theorem DVs.one (h:DVs K H vs [d1]):∃x,vs=[x]/\DV K H x d1:=by
 cases h with
 | cons h q=>cases q;exact ⟨_,rfl,h⟩
theorem DVs.two (h:DVs K H vs [d1,d2]):∃x y,vs=[x,y]/\DV K H x d1/\DV K H y d2:=by
 cases h with
 | cons h q=>
  obtain ⟨y,rfl,hy⟩:=q.one;exact ⟨_,_,rfl,h,hy⟩
theorem DVs.three (h:DVs K H vs [d1,d2,d3]):∃x y z,vs=[x,y,z]/\DV K H x d1/\DV K H y d2/\DV K H z d3:=by
 cases h with
 | cons h q=>
  obtain ⟨y,z,rfl,hy,hz⟩:=q.two;exact ⟨_,_,_,rfl,h,hy,hz⟩
theorem DVs.four (h:DVs K H vs [d1,d2,d3,d4]):∃x y z u,vs=[x,y,z,u]/\DV K H x d1/\DV K H y d2/\DV K H z d3/\DV K H u d4:=by
 cases h with
 | cons h q=>
  obtain ⟨y,z,u,rfl,hy,hz,hu⟩:=q.three;exact ⟨_,_,_,_,rfl,h,hy,hz,hu⟩
theorem DV.t2 (h:DV K H v (.tuple [d1,d2])):∃a x y,v=.ref a/\SqT K H a [x,y]/\DV K H x d1/\DV K H y d2:=by
 obtain ⟨a,xs,rfl,ha,q⟩:=h.tup_of;obtain ⟨x,y,rfl,hx,hy⟩:=q.two;exact ⟨a,x,y,rfl,ha,hx,hy⟩
theorem DV.t3 (h:DV K H v (.tuple [d1,d2,d3])):∃a x y z,v=.ref a/\SqT K H a [x,y,z]/\DV K H x d1/\DV K H y d2/\DV K H z d3:=by
 obtain ⟨a,xs,rfl,ha,q⟩:=h.tup_of;obtain ⟨x,y,z,rfl,hx,hy,hz⟩:=q.three;exact ⟨a,x,y,z,rfl,ha,hx,hy,hz⟩
theorem DV.t4 (h:DV K H v (.tuple [d1,d2,d3,d4])):∃a x y z u,v=.ref a/\SqT K H a [x,y,z,u]/\DV K H x d1/\DV K H y d2/\DV K H z d3/\DV K H u d4:=by
 obtain ⟨a,xs,rfl,ha,q⟩:=h.tup_of;obtain ⟨x,y,z,u,rfl,hx,hy,hz,hu⟩:=q.four;exact ⟨a,x,y,z,u,rfl,ha,hx,hy,hz,hu⟩
theorem DV.int_of {i:Int}(h:DV K H v (.int i)):v=.int i:=by cases h;rfl
theorem DV.str_of {x:Str}(h:DV K H v (.str x)):v=.str x:=by cases h;rfl
theorem DV.bl_of {b:Bool}(h:DV K H v (.bool b)):v=.bl b:=by cases h;rfl
theorem DV.non_of (h:DV K H v .none):v=.non:=by cases h;rfl
theorem DVs.get:∀{vs:List V} {ds:List PyData} {i:Nat} {v:V},DVs K H vs ds->vs[i]?=some v->∃d,ds[i]?=some d/\DV K H v d
 | _,_,_,_,.nil,e=>by simp at e
 | _,_,0,_,.cons h _,e=>by simp at e;subst e;exact ⟨_,rfl,h⟩
 | _,_,i+1,v,.cons _ q,e=>by
  obtain ⟨d,h1,h2⟩:=DVs.get (i:=i) (v:=v) q (by simpa using e)
  exact ⟨d,by simpa using h1,h2⟩
theorem DVs.append:∀{vs ws:List V} {ds es:List PyData},DVs K H vs ds->DVs K H ws es->DVs K H (vs++ws) (ds++es)
 | _,_,_,_,.nil,q=>q
 | _,_,_,_,.cons h t,q=>.cons h (DVs.append t q)
theorem DVs.take:∀{vs:List V} {ds:List PyData} (n:Nat),DVs K H vs ds->DVs K H (vs.take n) (ds.take n)
 | _,_,0,_=>.nil
 | _,_,_+1,.nil=>.nil
 | _,_,n+1,.cons h t=>.cons h (DVs.take n t)
theorem DVs.drop:∀{vs:List V} {ds:List PyData} (n:Nat),DVs K H vs ds->DVs K H (vs.drop n) (ds.drop n)
 | _,_,0,h=>h
 | _,_,_+1,.nil=>.nil
 | _,_,n+1,.cons _ t=>DVs.drop n t
end
def K8:PyData->String
 | .none=>"NoneType"
 | .bool _=>"bool"
 | .int _=>"int"
 | .str _=>"str"
 | .list _=>"list"
 | .tuple _=>"tuple"
 | .dict _=>"dict"
section
variable {X:Cx}
theorem Gj:CallR X (.builtin "isinstance") (λ xs H Q=>∃x d c b,xs=[x,.ty c]/\DV X.K H x d/\Br (K8 d) c=some b/\Q (.bl b) H):=by
 intro pins s σ H xs us Q I r h;obtain ⟨x,d,c,b,rfl,hd,e,q⟩:=h;obtain ⟨u,v,rfl,ru,rv⟩:=vals2 r;cases (show v=Value.type c from rv)
 have e':=yj (K:=X.K) e;have fin:∀tk,EP X pins σ Q (.bool b) { s with toks:=tk }:=λ tk=>⟨.bl b,H,I.tok _,rfl,q⟩
 cases hd with
 | non=>exact Lx I ru .non e' fin
 | bl b=>exact Lx I ru (.bl b) e' fin
 | int i=>exact Lx I ru (.int i) e' fin
 | str x=>exact Lx I ru (.str x) e' fin
 | lst h _=>
  cases ru
  obtain ⟨its,rv,⟨o,n,e1,e2,_⟩,_⟩:=I.list h;exact PySem.W.kia_one PySem.W.kitx_list I.kIn ⟨o,e1,e2⟩ e' (λ z=>nomatch z) fin
 | tup h _=>
  cases ru
  obtain ⟨its,rv,⟨o,e1,e2,_⟩,_⟩:=I.tuple h;exact PySem.W.kia_one PySem.W.kitx_tuple I.kIn ⟨o,e1,e2⟩ e' (λ z=>nomatch z) fin
 | dct h=>exact Lx I ru (.dK h) e' fin
end
section
variable {X:Cx}{K:FrG}
theorem Ih (hK:X.K=K:=by rfl):IxR X (rIxT K):=hK▸Am
theorem Zo (hK:X.K=K:=by rfl):IxR X (rIxL K):=hK▸CV
theorem Li {es:List Expr}{k:Nat}{t:TGs}{n:Nat}{pos:Pos}(hc:X.calm=true)(h:PGs X es t)(hn:(assignEach es X.env).length=n:=by rfl)(hst:(assignEach es X.env).findIdx? (·.1)=none:=by rfl)(hK:X.K=K:=by rfl):PG X (.Tuple es k pos) (gTup K n t):=hK▸HY hc h hn hst
end
def KD (K:FrG)(a:Addr):It:=
 ⟨λ i H=>∃xs x,SqL K H a xs/\xs[i]?=some x,λ i H x H'=>∃p v,H p=none/\x=.ref p/\(∀xs,SqL K H a xs->xs[i]?=some v)/\H'=upd H p (.tup [.int i,v]),λ i H=>∃xs,SqL K H a xs/\xs.length<=i⟩
theorem wj {P:Program}{w:World}{K:FrG}{elts:List Expr}{x1}{tpos:Pos}(a e it:Addr)(hne:e≠it):Turn P w K (.Tuple elts x1 tpos) (KD K a) [e,it] e (λ i h=>(∃old,IsEnum h e it (i:Int) old)/\h.IsListIter it a i) where
 mem:=by simp
 obj:=λ i h ⟨⟨old,st⟩,o',e',c',d'⟩ b hb=>by
  rcases List.mem_cons.mp hb with z | z
  ·subst z;exact ⟨_,st,λ v q=>by cases q⟩
  ·have z:b=it:=by simpa using z
   subst z;exact ⟨o',e',λ v q=>by rw [d'] at q;cases q⟩
 keep:=λ i h h' ⟨⟨old,st⟩,st'⟩ k=>⟨⟨old,k e (by simp) _ st⟩,st'.at λ o q=>k it (by simp) o q⟩
 item:=by
  intro X hP hw hK hc i pins s σ H E I hf ⟨⟨old,st⟩,st'⟩ hg;subst hP hw hK;obtain ⟨xs,x,hq,hx⟩:=hg;obtain ⟨its,rv,p,hz⟩:=I.list hq;obtain ⟨u,hu,ru⟩:=rv.get hx;obtain ⟨f0,f1,f2,f3,f4,f5⟩:=hf e (by simp)
  obtain ⟨g0,g1,g2,g3,g4,g5⟩:=hf it (by simp)
  refine wpAny_pyNext_enum_item st st' p.isList (x:=u) (by simpa using hu) hne λ h1 heo hit1 ht1 hz1 hk1=>?_
  refine ⟨_,rfl,?_⟩;refine wpAny_letOwnedTupleGo_enum heo λ h2 he2 hs2=>?_
  have nep:∀b o,s.heap.get? b=some o->b≠s.heap.objs.size:=λ b o q=>Nat.ne_of_lt (Heap.lt_size q)
  have k2:∀b o,b≠e->b≠it->s.heap.get? b=some o->h2.get? b=some o:=λ b o h1' h2' q=>hs2.extBut b o h1' (hk1 b o h1' h2' q)
  have nt:∀b o,H b=some o->b≠e/\b≠it:=λ b o q=>⟨(λ z=>by rw [z,f0] at q;cases q),λ z=>by rw [z,g0] at q;cases q⟩
  have hp0:H s.heap.objs.size=none:=I.hok.fresh (Nat.le_refl _);have htp:h2.get? s.heap.objs.size=some { cls:=.type "tuple",data:=.seq #[.int i s.toks,u] }:=hs2.extBut _ _ (Nat.ne_of_gt (Heap.lt_size st)) ht1;have J:Inv X pins σ (upd H s.heap.objs.size (.tup [.int i,x])) { s with heap:=h2,toks:=s.toks+1 }:=by
   refine I.step (g':=s.gens) (d':=s.drawn) (ch:=[e,it]) (λ b hb=>?_) (λ b o _ _ hc' q n=>k2 b o (λ z=>hc' (by simp [z])) (λ z=>hc' (by simp [z])) q) (λ b o _ _ hc' q n=>⟨o.slots,k2 b o (λ z=>hc' (by simp [z])) (λ z=>hc' (by simp [z])) q⟩)
    (λ b o _ q n=>by rw [Av (nep b o q)];exact n) (λ b o hc' q=>⟨o,k2 b o (λ z=>hc' (by simp [z])) (λ z=>hc' (by simp [z])) q⟩)
    (λ b ys q=>by rw [Av (Bm q hp0)];exact q) (λ b o y q=>by rw [Av (Bm q hp0)];exact q) (λ b ps q=>⟨#[],by rw [Av (Bm q hp0),q];simp⟩) (λ m hm=>?_) (λ b o q=>?_) I.bare
   ·rcases List.mem_cons.mp hb with z | z
    ·subst z;exact ⟨f3,f1,f4,f5⟩
    ·have z:b=it:=by simpa using z
     subst z;exact ⟨g3,g1,g4,g5⟩
   ·obtain ⟨o,es,ep,ho,r⟩:=hm;exact ⟨o,es,ep,k2 _ o (Ne.symm f1) (Ne.symm g1) ho,r⟩
   ·by_cases hb:b=s.heap.objs.size
    ·subst hb;rw [Aq] at q;cases q
     exact ⟨by show 2<=sizeLine;decide,[.int i s.toks,u],.cons ⟨_,rfl⟩ (.cons ru .nil),_,htp,rfl,_,rfl⟩
    ·rw [Av hb] at q;refine (I.hok b o q).stay (λ c v hc' z=>k2 c v ?_ ?_ z) (λ c z=>by rw [Av (Bm z hp0)];exact z) λ c ys z=>by rw [Av (Bm z hp0)];exact z
     ·rcases hc' with z | z
      ·rw [z];exact (nt b o q).1
      ·exact (nt c _ z).1
     ·rcases hc' with z | z
      ·rw [z];exact (nt b o q).2
      ·exact (nt c _ z).2
  refine ⟨.ref s.heap.objs.size,_,J,rfl,⟨s.heap.objs.size,x,hp0,rfl,(λ ys hy=>by rw [I.list_inj hy hq];exact hx),rfl⟩,⟨⟨u,?_⟩,?_⟩,λ b hb=>?_⟩
  ·have z:((i+1:Nat):Int)=(i:Int)+1:=by push_cast;rfl
   rw [z];exact he2
  ·exact hit1.extBut hs2.extBut (Ne.symm hne)
  ·rcases List.mem_cons.mp hb with z | z
   ·subst z;rw [Av (nep _ _ st)];exact f0
   ·have z:b=it:=by simpa using z
    subst z;obtain ⟨o,q,_⟩:=st';rw [Av (nep _ _ q)];exact g0
 done:=by
  intro X hP hw hK hc i pins s σ H E I hf ⟨⟨old,st⟩,st'⟩ hg;subst hP hw hK;obtain ⟨xs,hq,hx⟩:=hg;obtain ⟨its,rv,p,hz⟩:=I.list hq;obtain ⟨g0,g1,g2,g3,g4,g5⟩:=hf it (by simp)
  have hl:=rv.length;exact wpAny_pyNext_enum_end (I.ok.hd hc) st st' p.isList (by simp;omega) λ h' eb=>⟨rfl,I.turned (t':=s.toks) (λ b o hb e=>eb b o hb e) g0 g1 g3 g4 g5⟩
 self:=λ _ _ _ _ _ ⟨⟨old,st⟩,_⟩ h=>wpAny_pyIter_enum st h
section
variable {X:Cx}{elts:List Expr}{x1:Nat}{tpos:Pos}
def sU (K:FrG)(ta:TA):TI:=λ σ H R=>ta σ H λ vs H1=>∃a,vs=[.ref a]/\(∃xs,SqL K H1 a xs)/\R (KD K a) H1
theorem Ig {a:Expr}{ta:TA}{p pos:Pos}(hg:Gl X "enumerate")(hm:X.mg "enumerate"=none)(ha:PA X [a] ta)(hs:starEach [a] X.env=[(false,eval a X.env)]:=by rfl):PI X (.Tuple elts x1 tpos) (.Call (.Name "enumerate" p) [a] [] pos) (sU X.K ta):=by
 intro pins s σ H R I h;refine Call_ (Ji I hg hm boot_enumerate (PyProof.Rows.callWith_type1 (thn (ha pos pins s σ H _ I h) λ us s1 ⟨vs,H1,I1,r1,q1⟩=>?_) hs rfl))
 obtain ⟨a,e,⟨xs,hq⟩,q⟩:=q1;subst e;obtain ⟨u,rfl,r⟩:=vals1 r1;cases r
 obtain ⟨its,rv,p,hz⟩:=I1.list hq;refine call_enumerate_list p.isList λ h' he hi hsz hk=>?_
 have I2:Inv X pins σ H1 { s1 with heap:=h' }:=I1.kept (t':=s1.toks) hk
 refine wpAny_pyIter_enum he ⟨s1.heap.objs.size+1,[s1.heap.objs.size+1,s1.heap.objs.size],_,_,H1,rfl,I2,wj a _ _ (Nat.succ_ne_self _),⟨⟨_,he⟩,hi⟩,λ b hb=>?_,q⟩
 rcases List.mem_cons.mp hb with z | z
 ·subst z;exact I1.fpOk (Nat.le_succ _) (I1.hok.fresh (Nat.le_succ _))
 ·have z:b=s1.heap.objs.size:=by simpa using z
  subst z;exact I1.fpOk (Nat.le_refl _) (I1.hok.fresh (Nat.le_refl _))
end
theorem Jf {K:FrG}{a:Addr}{xs:List V}{g:TG}{tb:TS}{D:Ends}{σ:St}{H:Hp}(Pv:Nat->St->Hp->Prop)(h0:Pv 0 σ H)(hl:∀i σ H,i<=xs.length->Pv i σ H->SqL K H a xs)
  (hs:∀i x σ H p,xs[i]?=some x->Pv i σ H->H p=none->g (.ref p) σ (upd H p (.tup [.int i,x])) λ σ2 H2=>tb { D with nx:=Pv (i+1),ct:=Pv (i+1),bk:=D.nx } σ2 H2) (hd:∀σ H,Pv xs.length σ H->D.nx σ H):
  ∃W:Nat->Nat->St->Hp->Prop,(∃m,W 0 m σ H)/\∀i m σ H,W i m σ H->
   ((KD K a).stop i H/\D.nx σ H)\/((KD K a).go i H/\∃N:St->Hp->Prop,(∀σ' H',N σ' H'->∃m',m' < m/\W (i+1) m' σ' H')/\∀x H',(KD K a).yld i H x H'->g x σ H' λ σ2 H2=>tb { D with nx:=N,ct:=N,bk:=D.nx } σ2 H2):=by
 refine ⟨λ i m σ H=>m=xs.length - i/\i<=xs.length/\Pv i σ H,⟨xs.length,by simp,Nat.zero_le _,h0⟩,?_⟩
 rintro i m σ H ⟨rfl,hi,p⟩
 have q:=hl i σ H hi p;by_cases hlt:i < xs.length
 ·refine .inr ⟨⟨xs,xs[i],q,by simp [hlt]⟩,Pv (i+1),λ σ' H' p'=>⟨xs.length - (i+1),by omega,rfl,hlt,p'⟩,λ x H' y=>?_⟩
  obtain ⟨r,v,n,rfl,y,rfl⟩:=y;exact hs i v σ H r (y xs q) p n
 ·have e:i=xs.length:=by omega
  subst e;exact .inl ⟨⟨xs,q,Nat.le_refl _⟩,hd σ H p⟩
def Nx (n:Nat)(Pv:Nat->St->List V->Hp->Prop)(i:Nat)(σ:St)(ys:List V)(H:Hp):Prop:=∃m',m' < n - i/\(m'=n - (i+1)/\i+1<=n/\Pv (i+1) σ ys H)
theorem nx {n:Nat}{Pv:Nat->St->List V->Hp->Prop}{i:Nat}{σ:St}{ys:List V}{H:Hp}(hi:i < n)(h:Pv (i+1) σ ys H):Nx n Pv i σ ys H:=⟨n - (i+1),by omega,rfl,hi,h⟩
theorem Cq {α:Type}{xs:List α}{i:Nat}{x:α}(h:xs[i]?=some x):i < xs.length:=(List.getElem?_eq_some_iff.mp h).1
theorem Yx {K:FrG}{a:Addr}{xs:List V}{g:TG}{tt:TT}{te:TE}{Q:VK}{σ:St}{H:Hp}(Pv:Nat->St->List V->Hp->Prop)(h0:Pv 0 σ [] H)(hz:∀i σ ys H,i<=xs.length->Pv i σ ys H->ys.length<=sizeLine/\SqL K H a xs)
  (hs:∀i x σ ys H,xs[i]?=some x->Pv i σ ys H->g x σ H λ σ2 H2=>tt σ2 H2 λ b H3=>if b=true then te σ2 H3 λ y H4=>Nx xs.length Pv i σ2 (ys++[y]) H4 else Nx xs.length Pv i σ2 ys H3)
  (hd:∀σ ys H p,Pv xs.length σ ys H->H p=none->Q (.ref p) (upd H p (.lst ys))):
  IW g tt te (Itl K a) σ H Q:=by
 refine ⟨λ i m σ ys H=>m=xs.length - i/\i<=xs.length/\Pv i σ ys H,⟨xs.length,by simp,Nat.zero_le _,h0⟩,?_⟩
 rintro i m σ' ys H ⟨rfl,hi,p⟩
 obtain ⟨z,q⟩:=hz i σ' ys H hi p;refine ⟨z,?_⟩;by_cases hlt:i < xs.length
 ·refine .inr ⟨⟨xs,xs[i],q,by simp [hlt]⟩,λ x H' y=>?_⟩
  obtain ⟨rfl,y⟩:=y;exact hs i x σ' ys _ (y xs q) p
 ·have e:i=xs.length:=by omega
  subst e;exact .inl ⟨⟨xs,q,Nat.le_refl _⟩,λ r n=>hd σ' ys _ r p n⟩
theorem tQ {K:FrG}{a:Addr}{xs:List V}{g:TG}{tt:TT}{te:TE}{Q:VK}{σ:St}{H:Hp}(Pv:Nat->St->List V->Hp->Prop)(h0:Pv 0 σ [] H)(hz:∀i σ ys H,i<=xs.length->Pv i σ ys H->ys.length<=sizeLine/\SqT K H a xs)
  (hs:∀i x σ ys H,xs[i]?=some x->Pv i σ ys H->g x σ H λ σ2 H2=>tt σ2 H2 λ b H3=>if b=true then te σ2 H3 λ y H4=>Nx xs.length Pv i σ2 (ys++[y]) H4 else Nx xs.length Pv i σ2 ys H3)
  (hd:∀σ ys H p,Pv xs.length σ ys H->H p=none->Q (.ref p) (upd H p (.lst ys))):
  IW g tt te (Itt K a) σ H Q:=by
 refine ⟨λ i m σ ys H=>m=xs.length - i/\i<=xs.length/\Pv i σ ys H,⟨xs.length,by simp,Nat.zero_le _,h0⟩,?_⟩
 rintro i m σ' ys H ⟨rfl,hi,p⟩
 obtain ⟨z,q⟩:=hz i σ' ys H hi p;refine ⟨z,?_⟩;by_cases hlt:i < xs.length
 ·refine .inr ⟨⟨xs,xs[i],q,by simp [hlt]⟩,λ x H' y=>?_⟩
  obtain ⟨rfl,y⟩:=y;exact hs i x σ' ys _ (y xs q) p
 ·have e:i=xs.length:=by omega
  subst e;exact .inl ⟨⟨xs,q,Nat.le_refl _⟩,λ r n=>hd σ' ys _ r p n⟩
theorem O5 {K:FrG}{a:Addr}{xs:List V}{g:TG}{te:TE}{Q:VK}{σ:St}{H:Hp}(Pv:Nat->St->List V->Hp->Prop)(h0:Pv 0 σ [] H)(hz:∀i σ ys H,i<=xs.length->Pv i σ ys H->ys.length<=sizeLine/\SqL K H a xs)
  (hs:∀i x σ ys H,xs[i]?=some x->Pv i σ ys H->g x σ H λ σ2 H2=>te σ2 H2 λ y H4=>Nx xs.length Pv i σ2 (ys++[y]) H4)
  (hd:∀σ ys H p,Pv xs.length σ ys H->H p=none->Q (.ref p) (upd H p (.lst ys))):IW g JC te (Itl K a) σ H Q:=
 Yx Pv h0 hz (λ i x σ ys H hx hp=>by
  have:=hs i x σ ys H hx hp
  simpa only [JC,if_true] using this) hd
theorem Wn {K:FrG}{a:Addr}{xs:List V}{g:TG}{te:TE}{Q:VK}{σ:St}{H:Hp}(Pv:Nat->St->List V->Hp->Prop)(h0:Pv 0 σ [] H)(hz:∀i σ ys H,i<=xs.length->Pv i σ ys H->ys.length<=sizeLine/\SqT K H a xs)
  (hs:∀i x σ ys H,xs[i]?=some x->Pv i σ ys H->g x σ H λ σ2 H2=>te σ2 H2 λ y H4=>Nx xs.length Pv i σ2 (ys++[y]) H4)
  (hd:∀σ ys H p,Pv xs.length σ ys H->H p=none->Q (.ref p) (upd H p (.lst ys))):IW g JC te (Itt K a) σ H Q:=
 tQ Pv h0 hz (λ i x σ ys H hx hp=>by
  have:=hs i x σ ys H hx hp
  simpa only [JC,if_true] using this) hd
theorem Mz {caps:List (Option Nat)}{P:Nat->Nat->Prop}(h:caps.all (·.isNone)=true):∀i j,caps[i]?=some (some j)->P i j:=λ i j e=>by
 have:=List.all_eq_true.mp h _ (List.mem_of_getElem? e);cases this
theorem RoomB.room {k:Nat}{A:Around}(r:RoomB true k A):Room k A:=⟨r.hd rfl,r.dp,r.un⟩
structure MC (P:Program)(w:World)(K:FrG)(mg:Str->Option Value)(base:Heap)(k:Nat)(C:Addr)(m:Str)(ps:List Str)(sp:Sp):Prop where
 ex:∃(f:Addr) (fd:FuncData),FnB P w K mg base true k f fd ps sp/\Meth K C m f/\Binds K fd ps []
 cl:Cls K C
structure MtFn (K:FrG)(C:Addr)(m qual:Str)(st:Stmt):Prop where
 ex:∃(f:Addr) (fd:FuncData),Fun K m qual st f fd/\Meth K C m f
 cl:Cls K C
theorem MtFn.mc {P:Program}{w:World}{K:FrG}{mg:Str->Option Value}{base:Heap}{C:Addr}{m qual:Str}{st:Stmt}{N ps:List Str}{k:Nat}{sp:Sp}(T:MtFn K C m qual st)(S:FnScope N ps (defScope st))
  (hb:∀(kV doc pm:Value) (an:Option Addr) (cdv ct:Value) (us:List Value),us.length=ps.length->bindArgs (PySem.W.fnOf m qual (defArgs st) (defBody st) (defScope st) .none kV doc pm an cdv ct) ⟨us,[]⟩=pure (ps.zip us))
  (len:∀vs H Q E,sp vs H Q E->vs.length=ps.length)
  (hbody:∀(f:Addr) (cdv:Value) (A:Around) (outer:List Env) (s:Shared) (H:Hp) (vs:List V) (Q:VK) (E:XK),RoomB true k (A.deeper (envOfC qual (defScope st) s.heap.objs.size f cdv))->sp vs H Q E->
   ∃t,PSs (Dy true P w K mg base N qual (defScope st) f cdv A outer s H E).nox (defBody st) t/\t { nx:=λ _ H'=>Q .non H',rt:=Q } (start N vs) H):MC P w K mg base (k+1) C m ps sp:=by
 obtain ⟨f,fd,F,hm⟩:=T.ex;obtain ⟨oc,od,kV,doc,pm,an,cdv,ct,osl,rfl,l,cd⟩:=id F.ex;refine ⟨⟨f,_,Jx l cd S len λ A outer s H vs Q E hr h=>?_,hm,F.binds hb⟩,T.cl⟩
 obtain ⟨t,h1,h2⟩:=hbody f cdv A outer s H vs Q E hr h;exact ⟨t,h1.nox,h2⟩
structure MkC (P:Program)(w:World)(K:FrG)(mg:Str->Option Value)(base:Heap)(k:Nat)(x:Str)(C:Addr)(ps:List Str)(sp:Sp):Prop where
 ex:∃(f:Addr) (fd:FuncData),FnB P w K mg base true k f fd ps sp/\Mk K C f/\Binds K fd ps []
 mg:mg x=some (.ref C)
structure MkFn (K:FrG)(mg:Str->Option Value)(x:Str)(C:Addr)(qual:Str)(st:Stmt):Prop where
 ex:∃(f:Addr) (fd:FuncData),Fun K "__init__" qual st f fd/\Mk K C f
 mg:mg x=some (.ref C)
theorem MkFn.mkc {P:Program}{w:World}{K:FrG}{mg:Str->Option Value}{base:Heap}{x:Str}{C:Addr}{qual:Str}{st:Stmt}{N ps:List Str}{k:Nat}{sp:Sp}(T:MkFn K mg x C qual st)(S:FnScope N ps (defScope st))
  (hb:∀(kV doc pm:Value) (an:Option Addr) (cdv ct:Value) (us:List Value),us.length=ps.length->bindArgs (PySem.W.fnOf "__init__" qual (defArgs st) (defBody st) (defScope st) .none kV doc pm an cdv ct) ⟨us,[]⟩=pure (ps.zip us))
  (len:∀vs H Q E,sp vs H Q E->vs.length=ps.length)
  (hbody:∀(f:Addr) (cdv:Value) (A:Around) (outer:List Env) (s:Shared) (H:Hp) (vs:List V) (Q:VK) (E:XK),RoomB true k (A.deeper (envOfC qual (defScope st) s.heap.objs.size f cdv))->sp vs H Q E->
   ∃t,PSs (Dy true P w K mg base N qual (defScope st) f cdv A outer s H E).nox (defBody st) t/\t { nx:=λ _ H'=>Q .non H',rt:=Q } (start N vs) H):MkC P w K mg base (k+1) x C ps sp:=by
 obtain ⟨f,fd,F,hm⟩:=T.ex;obtain ⟨oc,od,kV,doc,pm,an,cdv,ct,osl,rfl,l,cd⟩:=id F.ex;refine ⟨⟨f,_,Jx l cd S len λ A outer s H vs Q E hr h=>?_,hm,F.binds hb⟩,T.mg⟩
 obtain ⟨t,h1,h2⟩:=hbody f cdv A outer s H vs Q E hr h;exact ⟨t,h1.nox,h2⟩
section
variable {X:Cx}{k:Nat}{C:Addr}{ps:List Str}{sp:Sp}{x m:Str}{p pos apos:Pos}{e o:Expr}{es:List Expr}{ta:TE}{t:TA}
def Xe (P:Program)(w:World)(K:FrG)(mg:Str->Option Value)(base:Heap)(k:Nat)(m:Str)(ta:TE)(t:TA):TE:=λ σ H Q=>ta σ H λ x H1=>∃a C dx fs ps sp,x=.ref a/\H1 a=some (.ins C dx fs)/\fs.lookup m=none/\
 MC P w K mg base k C m ps sp/\t σ H1 λ vs H2=>sp (x::vs) H2 Q E0
theorem HS {pl:Sem Bool}(he:PE X o ta)(hr:RoomB true k X.A)(ha:PA X (e::es) t)
  (hst:starEach (e::es) X.env=(false,eval e X.env)::starEach es X.env:=by rfl) (hpl:(backTo pos (starEach es X.env)).any (·.1)=false:=by rfl)
  (ht:eval (.Call (.Attribute o m apos) (e::es) [] pos) X.env=(do
   let ov <- eval o X.env
   standAt apos.atName
   let (f,first) <- holding [ov] (getMethod ov m pl)
   callWith pos f first (backTo pos (starEach (e::es) X.env)) (backToKw pos (keywordEach [] X.env))):=by rfl):
  PE X (.Call (.Attribute o m apos) (e::es) [] pos) (Xe X.prog X.w X.K X.mg X.base k m ta t):=by
 intro pins s σ H Q I h;refine PySem.W.methodCall_KW (pl:=pl) (thn (he pins s σ H _ I h) λ u s1 ⟨x,H1,I1,rx,a,C,dx,fs,ps,sp,ex,ea,l,M,q⟩=>?_) ht
 subst ex;obtain rfl:u=Value.ref a:=rx;obtain ⟨f,fd,F,hm,hb⟩:=M.ex;refine Xo I1 ea M.cl hm l ?_;refine PySem.W.callWith_K (first:=[.ref a]) (h₀:=X.base) I.ok.mod.kin hm.kp (thn (ha pos pins s1 σ H1 _ I1 q) λ us s2 ⟨vs,H2,I2,r,q2⟩=>⟨I2.kIn,?_⟩) hst hpl
 exact Xb (us:=.ref a::us) (vs:=.ref a::vs) (dvs:=[]) (ds:=[]) (E:=E0) F.ok hr.room hb .nil Ai I2 (.cons rfl r) (by rw [List.append_nil];exact q2)
theorem Iz {pl:Sem Bool}(he:PE X o ta)(hr:RoomB true k X.A)
  (ht:eval (.Call (.Attribute o m apos) [] [] pos) X.env=(do
   let ov <- eval o X.env
   standAt apos.atName
   let (f,first) <- holding [ov] (getMethod ov m pl)
   callWith pos f first (backTo pos (starEach [] X.env)) (backToKw pos (keywordEach [] X.env))):=by rfl):
  PE X (.Call (.Attribute o m apos) [] [] pos) (Xe X.prog X.w X.K X.mg X.base k m ta tNil):=by
 intro pins s σ H Q I h;refine PySem.W.methodCall_KW (pl:=pl) (thn (he pins s σ H _ I h) λ u s1 ⟨x,H1,I1,rx,a,C,dx,fs,ps,sp,ex,ea,l,M,q⟩=>?_) ht
 subst ex;obtain rfl:u=Value.ref a:=rx;obtain ⟨f,fd,F,hm,hb⟩:=M.ex;refine Xo I1 ea M.cl hm l ?_;exact PySem.W.callWith_K0 (first:=[.ref a]) I1.kIn hm.kp (Xb (us:=[.ref a]) (vs:=[.ref a]) (dvs:=[]) (ds:=[]) (E:=E0) F.ok hr.room hb .nil Ai I1 (.cons rfl .nil) q)
theorem Jw (M:MkC X.prog X.w X.K X.mg X.base k x C ps sp)(hr:RoomB true (k+1) X.A)(ha:PA X (e::es) t)(hg:Gl X x:=by rfl)(hdb:(x == ("__debug__":Str))=false:=by decide)
  (he:starEach (e::es) X.env=(false,eval e X.env)::starEach es X.env:=by rfl) (hpl:(backTo pos (starEach es X.env)).any (·.1)=false:=by rfl):
  PE X (.Call (.Name x p) (e::es) [] pos) (tMake C sp [] E0 t):=by
 obtain ⟨f,fd,F,hm,hb⟩:=M.ex;exact yC hm F.ok hr.room hg M.mg hb .nil Ai ha hdb he hpl
theorem Gg {f:Str}(he:PE X e ta)(hb:attributeBase e f X.env (eval e X.env)=eval e X.env:=by rfl):PE X (.Attribute e f pos) (tFld X.K ta f):=uA he hb
theorem KJ {f:Str}{pos':Pos}{value:Expr}{tv:TE}(ha:PE X o ta)(hv:PE X value tv)(hs:swapsWith value (some (.Attribute o f pos')) pos.line X.env=pure false:=by rfl):PS X (.Assign [.Attribute o f pos'] value pos) (sFld X.K ta tv f):=lU ha hv hs
end
theorem yF (env:Env):∀(l:List (Str×NameKind)) (acc:List (Str×Addr)),(∀y∈l,y.2=.free->∃c,env.cells.lookup y.1=some c)->
  ∃cl,(forIn l acc λ (x:Str×NameKind) (cs:List (Str×Addr))=>(if (x.2 == NameKind.free)=true then (cellOf env x.1 >>= λ a=>pure (ForInStep.yield ((x.1,a)::cs))) else pure (ForInStep.yield cs):Sem (ForInStep (List (Str×Addr)))))=pure cl/\
   (∀y c,cl.lookup y=some c->acc.lookup y=some c\/env.cells.lookup y=some c)/\(∀y c,acc.lookup y=some c->∃c',cl.lookup y=some c')/\∀y∈l,y.2=.free->∃c,cl.lookup y.1=some c:=by
 intro l
 induction l with
 | nil=>intro acc _;exact ⟨acc,rfl,λ y c e=>.inl e,λ y c e=>⟨c,e⟩,λ _ h=>nomatch h⟩
 | cons x r ih=>
  intro acc h;obtain ⟨n,k⟩:=x;have hr:∀y∈r,y.2=.free->∃c,env.cells.lookup y.1=some c:=λ y hy=>h y (List.mem_cons_of_mem _ hy)
  rw [List.forIn_cons];by_cases hk:k=.free
  ·subst hk;obtain ⟨c,hc⟩:=h (n,.free) List.mem_cons_self rfl;have ec:cellOf env n=pure c:=by unfold cellOf;rw [show env.cells.lookup n=some c from hc]
   rw [if_pos (by rfl),ec,pure_bind,pure_bind]
   obtain ⟨cl,e,h1,h2,h3⟩:=ih ((n,c)::acc) hr;refine ⟨cl,e,λ y c' hy=>?_,λ y c' hy=>?_,λ y hy hf=>?_⟩
   ·rcases h1 y c' hy with z | z
    ·rw [List.lookup_cons] at z
     split at z
     ·rename_i ey
      have ey:y=n:=by simpa using ey
      subst ey;cases z
      exact .inr hc
     ·exact .inl z
    ·exact .inr z
   ·by_cases ey:y=n
    ·subst ey;exact h2 y c (by simp)
    ·have eb:(y == n)=false:=by simpa using ey
     exact h2 y c' (by rw [List.lookup_cons,eb];exact hy)
   ·rcases List.mem_cons.mp hy with z | z
    ·subst z;exact h2 n c (by simp)
    ·exact h3 y z hf
  ·have hb:¬ (k == NameKind.free)=true:=by simpa using hk
   rw [if_neg hb,pure_bind];obtain ⟨cl,e,h1,h2,h3⟩:=ih acc hr;refine ⟨cl,e,h1,h2,λ y hy hf=>?_⟩
   rcases List.mem_cons.mp hy with z | z
   ·subst z;exact absurd hf hk
   ·exact h3 y z hf
theorem nP {X:Cx}{scope:Scope}(hcell:∀y∈scope.names,y.2≠.cell)(hf:∀y∈scope.names,y.2=.free->∃c,X.env.cells.lookup y.1=some c):∃cl,CapOk X scope cl:=by
 obtain ⟨cl,e,h1,h2,h3⟩:=yF X.env scope.names [] hf;refine ⟨cl,?_,λ y c hy=>?_,λ y hy=>?_⟩
 ·unfold closureFor;rw [show (pure cl:Sem _)=(pure cl >>= λ cs=>pure cs) by rw [pure_bind],<- e]
 ·rcases h1 y c hy with z | z
  ·simp at z
  ·exact z
 ·have hm:∃k,(y,k)∈(relabel scope X.env).names/\(k=.cell\/k=.free):=by
   rcases hy with z | z
   ·exact ⟨_,PySem.mem_of_lookup z,.inl rfl⟩
   ·exact ⟨_,PySem.mem_of_lookup z,.inr rfl⟩
  obtain ⟨k,hm,hk⟩:=hm;unfold relabel at hm;obtain ⟨⟨n,k'⟩,hn,e'⟩:=List.mem_map.mp hm;have hk':k'=.free:=by
   by_cases z:k'=.free
   ·exact z
   ·have zb:(k' == NameKind.free)=false:=by simpa using z
    simp only [zb,Bool.false_and,Bool.false_eq_true,if_false,Prod.mk.injEq] at e';obtain ⟨_,rfl⟩:=e';rcases hk with rfl | rfl
    ·exact absurd rfl (hcell _ hn)
    ·exact absurd rfl z
  subst hk';have en:n=y:=by
   dsimp only at e'
   split at e'
   ·exact (Prod.mk.inj e').1
   ·exact (Prod.mk.inj e').1
  subst en;exact h3 _ hn rfl
theorem JX {X:Cx}{scope:Scope}{n:Nat}(hc:X.env.cells=cellsFrom n X.env.scope.names []:=by rfl)(hcell:∀y∈scope.names,y.2≠.cell)(hf:∀y∈scope.names,y.2=.free->X.env.scope.names.lookup y.1=some .cell):∃cl,CapOk X scope cl:=
 nP hcell λ y hy hz=>by
  rw [hc];exact R1 (hf y hy hz)
section
variable {X:Cx}{tg elt iter:Expr}{ifs:List Expr}{scope:Scope}{pos spos py:Pos}{wi:TI}{g:TG}{tt:TT}{te:TE}
theorem lZ (N':List Str)(caps:List (Option Nat))(hc:X.calm=true)(hi:PI X tg iter wi)
  (hg:∀cl C fp pins s2 H2,PG (CT X scope cl N' C fp pins s2 H2) tg g) (ht:∀cl C fp pins s2 H2,CZ (CT X scope cl N' C fp pins s2 H2) ifs tt) (he:∀cl C fp pins s2 H2,PE (CT X scope cl N' C fp pins s2 H2) elt te)
  (cap:∃cl,CapOk X scope cl) (hcell:∀y∈scope.names,y.2≠.cell) (hkind:scope.kind=.function) (hnames:∀y∈scope.names,y.2=.local->scope.names.lookup y.1=some .local) (hN:caps.length=N'.length)
  (hcap:∀(i j:Nat),caps[i]?=some (some j)->∃y:Str,N'[i]?=some y/\X.N[j]?=some y/\(relabel scope X.env).names.lookup y=some .cell/\X.env.scope.names.lookup y=some .cell)
  (hs:∀x,foldedSetIterable iter X.env x=pure x:=by intro _;rfl):
  PE X (.ListComp elt [⟨tg,iter,ifs,0⟩] scope pos) (Lh wi g tt te caps):=by
 obtain ⟨cl,cap⟩:=cap;exact Kl N' caps hc hi (hg cl) (ht cl) (he cl) cap hcell hkind hnames hN hcap hs
theorem Lp {y:Str}{i:Nat}(hND:X.N.Nodup)(hiy:X.N[i]?=some y)(hy:Loc X.env.scope y)(N':List Str)(caps:List (Option Nat))(hc:X.calm=true)(hi:PI X tg iter wi)
  (hg:∀cl C fp pins s2 H2,PG (CT X scope cl N' C fp pins s2 H2) tg g) (ht:∀cl C fp pins s2 H2,CZ (CT X scope cl N' C fp pins s2 H2) ifs tt) (he:∀cl C fp pins s2 H2,PE (CT X scope cl N' C fp pins s2 H2) elt te)
  (cap:∃cl,CapOk X scope cl) (hcell:∀y∈scope.names,y.2≠.cell) (hkind:scope.kind=.function) (hnames:∀y∈scope.names,y.2=.local->scope.names.lookup y.1=some .local) (hN:caps.length=N'.length)
  (hcap:∀(i j:Nat),caps[i]?=some (some j)->∃y:Str,N'[i]?=some y/\X.N[j]?=some y/\(relabel scope X.env).names.lookup y=some .cell/\X.env.scope.names.lookup y=some .cell)
  (hs:∀x,foldedSetIterable iter X.env x=pure x:=by intro _;rfl) (hsw:swapsWith (.ListComp elt [⟨tg,iter,ifs,0⟩] scope pos) (some (.Name y py)) spos.line X.env=pure true:=by rfl)
  (hfn:X.fn y=true\/X.env.scope.names.lookup y=some .local:=by first | exact .inl rfl | exact .inr rfl | assumption):
  PS X (.Assign [.Name y py] (.ListComp elt [⟨tg,iter,ifs,0⟩] scope pos) spos) (Z5 i (Lh wi g tt te caps)):=by
 obtain ⟨cl,cap⟩:=cap;exact rM hND hiy hy N' caps hc hi (hg cl) (ht cl) (he cl) cap hcell hkind hnames hN hcap hs hsw hfn
end
end L2
namespace Fr
theorem oV {r:Rat}{t b:Int}(h:b≠0)(e:r=Rat.divInt t b):r.num.natAbs<=t.natAbs/\r.den<=b.natAbs:=by
 subst e;have h1:=uw t b h;have h2:=jN (t:=t) h;rw [VM h] at h1;rw [Xy h,Int.natAbs_natCast] at h2;exact ⟨h1,h2⟩
structure Bd (k:Nat)(q:Rat):Prop where
 n:q.num.natAbs < 2 ^ k
 d:q.den < 2 ^ k
theorem EY {m n:Nat}(h:m<=n):2 ^ m<=2 ^ n:=Nat.pow_le_pow_right (by decide) h
theorem Bd.mono {m n:Nat}{q:Rat}(h:Bd m q)(le:m<=n):Bd n q:=⟨Nat.lt_of_lt_of_le h.n (EY le),Nat.lt_of_lt_of_le h.d (EY le)⟩
theorem Bd.neg {n:Nat}{q:Rat}(h:Bd n q):Bd n (-q):=⟨by rw [Rat.neg_num,Int.natAbs_neg];exact h.n,by rw [Rat.neg_den];exact h.d⟩
theorem Bd.of {n:Nat}{t b:Int}(b0:b≠0)(ht:t.natAbs < 2 ^ n)(hb:b.natAbs < 2 ^ n):Bd n (Rat.divInt t b):=by
 obtain ⟨h1,h2⟩:=oV b0 (rfl:Rat.divInt t b=Rat.divInt t b);exact ⟨by omega,by omega⟩
theorem UW {a b m n:Nat}(ha:a < 2 ^ m)(hb:b < 2 ^ n):a * b < 2 ^ (m+n):=by
 rw [Nat.pow_add];exact Nat.mul_lt_mul'' ha hb
theorem Dt {x y:Int}{m n:Nat}(hx:x.natAbs < 2 ^ m)(hy:y.natAbs < 2 ^ n):(x * y).natAbs < 2 ^ (m+n):=by
 rw [Int.natAbs_mul];exact UW hx hy
theorem aL {x y:Int}{n:Nat}(hx:x.natAbs < 2 ^ n)(hy:y.natAbs < 2 ^ n):(x+y).natAbs < 2 ^ (n+1):=by
 have:=Int.natAbs_add_le x y;rw [Nat.pow_succ];omega
theorem cg {x y:Int}{n:Nat}(hx:x.natAbs < 2 ^ n)(hy:y.natAbs < 2 ^ n):(x - y).natAbs < 2 ^ (n+1):=by
 rw [Nat.pow_succ];omega
theorem Bd.dn {n:Nat}{q:Rat}(h:Bd n q):((q.den:Int)).natAbs < 2 ^ n:=by rw [Int.natAbs_natCast];exact h.d
theorem Wk (p q:Rat):(p.den:Int) * (q.den:Int)≠0:=Int.mul_ne_zero (Fx p) (Fx q)
section
variable {m n:Nat}{p q:Rat}(hp:Bd m p)(hq:Bd n q)
include hp hq
theorem Bd.add:Bd (m+n+1) (p+q):=by
 rw [<- Wf];refine Bd.of (Wk p q) (aL (Dt hp.n hq.dn) ?_) (Nat.lt_of_lt_of_le (Dt hp.dn hq.dn) (EY (by omega)))
 have:=Dt hq.n hp.dn;rw [Nat.add_comm m n];exact this
theorem Bd.sub:Bd (m+n+1) (p - q):=by
 rw [<- cZ];refine Bd.of (Wk p q) (cg (Dt hp.n hq.dn) ?_) (Nat.lt_of_lt_of_le (Dt hp.dn hq.dn) (EY (by omega)))
 have:=Dt hq.n hp.dn;rw [Nat.add_comm m n];exact this
theorem Bd.mul:Bd (m+n) (p * q):=by
 rw [<- VF];exact Bd.of (Wk p q) (Dt hp.n hq.n) (Dt hp.dn hq.dn)
theorem Bd.div (q0:q≠0):Bd (m+n) (p / q):=by
 rw [<- dH];refine Bd.of (Int.mul_ne_zero (Fx p) λ e=>q0 ((Yu q).mp e)) (Dt hp.n hq.dn) (Dt hp.dn hq.n)
end
structure Rb (n:Nat)(y u:Rat):Prop where
 ex:∃(Y U:Int) (N:Nat),N≠0/\N < 2 ^ n/\Y.natAbs < 2 ^ n/\U.natAbs < 2 ^ n/\y=Rat.divInt Y N/\u=Rat.divInt U N
theorem Rb.mono {m n:Nat}{y u:Rat}(h:Rb m y u)(le:m<=n):Rb n y u:=by
 obtain ⟨Y,U,N,n0,hn,hY,hU,ey,eu⟩:=h.ex;have:=EY le;exact ⟨Y,U,N,n0,by omega,by omega,by omega,ey,eu⟩
theorem Rb.y {n:Nat}{y u:Rat}(h:Rb n y u):Bd n y:=by
 obtain ⟨Y,U,N,n0,hn,hY,hU,ey,eu⟩:=h.ex;rw [ey];exact Bd.of (by omega) hY (by omega)
theorem Rb.u {n:Nat}{y u:Rat}(h:Rb n y u):Bd n u:=by
 obtain ⟨Y,U,N,n0,hn,hY,hU,ey,eu⟩:=h.ex;rw [eu];exact Bd.of (by omega) hU (by omega)
theorem Rb.of {n:Nat}{y u:Rat}(hy:Bd n y)(hu:Bd n u):Rb (n+n) y u:=by
 refine ⟨y.num * (u.den:Int),u.num * (y.den:Int),y.den * u.den,?_,?_,Dt hy.n hu.dn,Dt hu.n hy.dn,?_,?_⟩
 ·exact Nat.mul_ne_zero y.den_nz u.den_nz
 ·exact UW hy.d hu.d
 ·rw [show ((y.den * u.den:Nat):Int)=(y.den:Int) * (u.den:Int) by simp,Rat.divInt_mul_right (Fx u),Fp]
 ·rw [show ((y.den * u.den:Nat):Int)=(u.den:Int) * (y.den:Int) by simp [Int.mul_comm],Rat.divInt_mul_right (Fx y),Fp]
theorem kJ (Y U dn:Int)(N dd:Int)(n0:N≠0)(d0:dd≠0):Rat.divInt Y N+Rat.divInt dn dd * Rat.divInt U N=Rat.divInt (Y * dd+dn * U) (N * dd):=by
 rw [Rat.divInt_mul_divInt,Rat.divInt_add_divInt _ _ n0 (Int.mul_ne_zero d0 n0)];rw [show Y * (dd * N)+dn * U * N=(Y * dd+dn * U) * N by rw [Int.add_mul,Int.mul_assoc Y],show N * (dd * N)=(N * dd) * N by rw [Int.mul_assoc],Rat.divInt_mul_right n0]
theorem wK (Y dd N:Int)(n0:N≠0)(d0:dd≠0):Rat.divInt Y N=Rat.divInt (Y * dd) (N * dd):=(Rat.divInt_mul_right d0).symm
theorem Rb.gap {n m:Nat}{y u d:Rat}(h:Rb n y u)(hd:Bd m d):Rb (n+m+1) (y+d * u) u:=by
 obtain ⟨Y,U,N,n0,hn,hY,hU,ey,eu⟩:=h.ex;have N0:(N:Int)≠0:=by omega
 refine ⟨Y * (d.den:Int)+d.num * U,U * (d.den:Int),N * d.den,Nat.mul_ne_zero n0 d.den_nz,Nat.lt_of_lt_of_le (UW hn hd.d) (EY (by omega)),aL (Dt hY hd.dn) ?_,Nat.lt_of_lt_of_le (Dt hU hd.dn) (EY (by omega)),?_,?_⟩
 ·have:=Dt hd.n hU;rw [Nat.add_comm n m];exact this
 ·have:=kJ Y U d.num N (d.den:Int) N0 (Fx d);rw [Fp,<- ey,<- eu] at this;rw [this];simp
 ·rw [eu,wK U (d.den:Int) N N0 (Fx d)];simp
theorem Rb.swap {n:Nat}{y u:Rat}(h:Rb n y u):Rb n u y:=by
 obtain ⟨Y,U,N,n0,hn,hY,hU,ey,eu⟩:=h.ex;exact ⟨U,Y,N,n0,hn,hU,hY,eu,ey⟩
theorem Rb.glass {n m:Nat}{y u d:Rat}(h:Rb n y u)(hd:Bd m d):Rb (n+m+1) y (u - d * y):=by
 have:=(h.swap.gap hd.neg).swap;rw [show u - d * y=u+-d * y by rw [Rat.neg_mul,Rat.sub_eq_add_neg]]
 exact this
end Fr
namespace Op
open Fr
inductive Pc where
 | gap (d:Rat)
 | glass (p:Rat)
 | stop (lo hi:Rat)
abbrev Aa:=Rat×Rat
def Pc.lets:Pc->Aa->Bool
 | .stop lo hi,r=>!decide (r.1 < lo) && !decide (hi < r.1)
 | _,_=>true
def Pc.bent:Pc->Aa->Aa
 | .gap d,r=>(r.1+d * r.2,r.2)
 | .glass p,r=>(r.1,r.2 - p * r.1)
 | .stop _ _,r=>r
def Pc.ok:Pc->Prop
 | .stop lo hi=>¬ hi < lo
 | _=>True
def Pc.bd (m:Nat):Pc->Prop
 | .gap d=>Bd m d
 | .glass p=>Bd m p
 | .stop lo hi=>Bd m lo/\Bd m hi
abbrev RB (n:Nat)(r:Aa):Prop:=Rb n r.1 r.2
theorem HN {n m:Nat}{r:Aa}:∀{p:Pc},p.bd m->RB n r->RB (n+m+1) (p.bent r)
 | .gap _,b,h=>Rb.gap h b
 | .glass _,b,h=>Rb.glass h b
 | .stop _ _,_,h=>Rb.mono h (by omega)
def wk:Nat->List Pc->Aa->List Aa×Option Nat
 | _,[],_=>([],none)
 | i,p::ps,r=>if p.lets r=true then (p.bent r::(wk (i+1) ps (p.bent r)).1,(wk (i+1) ps (p.bent r)).2) else ([],some i)
def walk (ps:List Pc)(r:Aa):List Aa×Option Nat:=(r::(wk 0 ps r).1,(wk 0 ps r).2)
theorem Od {i:Nat}{p:Pc}{ps:List Pc}{r:Aa}(h:p.lets r=true):wk i (p::ps) r=(p.bent r::(wk (i+1) ps (p.bent r)).1,(wk (i+1) ps (p.bent r)).2):=by
 rw [wk,if_pos h]
theorem cT {i:Nat}{p:Pc}{ps:List Pc}{r:Aa}(h:p.lets r=false):wk i (p::ps) r=([],some i):=by
 rw [wk,if_neg (by rw [h];exact Bool.false_ne_true)]
structure At (ps:List Pc)(r:Aa)(i:Nat)(tr:List Aa)(cur:Aa):Prop where
 eq:wk 0 ps r=(tr++(wk i (ps.drop i) cur).1,(wk i (ps.drop i) cur).2)
 last:(r::tr).getLast?=some cur
theorem uR (ps:List Pc)(r:Aa):At ps r 0 [] r:=⟨rfl,rfl⟩
theorem At.step {ps:List Pc}{r cur:Aa}{i:Nat}{tr:List Aa}{p:Pc}(a:At ps r i tr cur)(hp:ps[i]?=some p)(h:p.lets cur=true):At ps r (i+1) (tr++[p.bent cur]) (p.bent cur):=by
 obtain ⟨hi,e⟩:=List.getElem?_eq_some_iff.mp hp;have hd:ps.drop i=p::ps.drop (i+1):=by rw [<- e];exact List.drop_eq_getElem_cons hi
 refine ⟨?_,?_⟩
 ·rw [a.eq,hd,Od h];simp
 ·rw [<- List.cons_append];exact List.getLast?_concat
theorem At.stop {ps:List Pc}{r cur:Aa}{i:Nat}{tr:List Aa}{p:Pc}(a:At ps r i tr cur)(hp:ps[i]?=some p)(h:p.lets cur=false):walk ps r=(r::tr,some i):=by
 obtain ⟨hi,e⟩:=List.getElem?_eq_some_iff.mp hp;have hd:ps.drop i=p::ps.drop (i+1):=by rw [<- e];exact List.drop_eq_getElem_cons hi
 unfold walk;rw [a.eq,hd,cT h];simp
theorem At.done {ps:List Pc}{r cur:Aa}{tr:List Aa}(a:At ps r ps.length tr cur):walk ps r=(r::tr,none):=by
 unfold walk;rw [a.eq,List.drop_eq_nil_of_le (Nat.le_refl _)];simp [wk]
end Op
namespace Lib
open PySem L2 Fr Op
def Af (q:Rat):PyData:=.tuple [.int q.num,.int (q.den:Int)]
def Ax (r:Aa):PyData:=.tuple [Af r.1,Af r.2]
def Bp:Pc->PyData
 | .gap d=>.tuple [.str "gap",Af d]
 | .glass p=>.tuple [.str "glass",Af p]
 | .stop lo hi=>.tuple [.str "stop",Af lo,Af hi]
def Dz (ps:List Pc):PyData:=.list (ps.map Bp)
def cI:Option Nat->PyData
 | none=>.none
 | some i=>.int (i:Int)
section
variable {K:FrG}{H:Hp}{v:V}
theorem _root_.L2.DV.fr {q:Rat}(h:DV K H v (Af q)):∃a,v=.ref a/\SqT K H a [.int q.num,.int (q.den:Int)]:=by
 obtain ⟨a,x,y,rfl,ha,hx,hy⟩:=DV.t2 h;rw [hx.int_of,hy.int_of] at ha;exact ⟨a,rfl,ha⟩
theorem jr {q:Rat}{a:Addr}(h:SqT K H a [.int q.num,.int (q.den:Int)]):DV K H (.ref a) (Af q):=.tup h (.cons (.int _) (.cons (.int _) .nil))
theorem Do {t b:Int}{p:Addr}(b0:b≠0):DV K (upd H p (.tup [.int (Fr.lt t b),.int (Fr.lb t b)])) (.ref p) (Af (Rat.divInt t b)):=by
 rw [ql b0];exact jr (SqT.of Aq)
end
theorem _root_.Fr.Bd.sm {n:Nat}{q:Rat}(h:Bd n q)(hn:n<=4000):Sm q:=⟨Nat.lt_of_lt_of_le h.n (by unfold Cp;exact EY hn),Nat.lt_of_lt_of_le h.d (by unfold Cp;exact EY hn)⟩
structure Flat (n:Nat)(d:PyData):Prop where
 c:d.canLay0=true
 d:d.depth<=n
theorem Flat.sh {n:Nat}{d:PyData}(h:Flat n d)(hn:n<=64):SeqAt.shaped d=true:=by
 unfold SeqAt.shaped;rw [h.c,Bool.true_and];exact decide_eq_true (Nat.le_trans h.d hn)
theorem Kr {n:Nat}:∀{ds:List PyData},(∀d∈ds,Flat n d)->PyData.canLayAll0 ds=true/\PyData.depthAll ds<=n
 | [],_=>⟨rfl,Nat.zero_le _⟩
 | d::ds,h=>by
  obtain ⟨h1,h2⟩:=Kr (λ x hx=>h x (List.mem_cons_of_mem _ hx))
  have h3:=h d List.mem_cons_self;refine ⟨?_,?_⟩
  ·rw [PyData.canLayAll0,h3.c,h1];rfl
  ·rw [PyData.depthAll];exact Nat.max_le.mpr ⟨h3.d,h2⟩
theorem M6 {n:Nat}{ds:List PyData}(h:∀d∈ds,Flat n d):Flat (n+1) (.tuple ds):=⟨(Kr h).1,by rw [PyData.depth];exact Nat.succ_le_succ (Kr h).2⟩
theorem Ni {n:Nat}{ds:List PyData}(h:∀d∈ds,Flat n d):Flat (n+1) (.list ds):=⟨(Kr h).1,by rw [PyData.depth];exact Nat.succ_le_succ (Kr h).2⟩
theorem yG (i:Int):Flat 0 (.int i):=⟨rfl,Nat.le_refl _⟩
theorem Flat.mono {m n:Nat}{d:PyData}(h:Flat m d)(le:m<=n):Flat n d:=⟨h.c,Nat.le_trans h.d le⟩
theorem Ep (q:Rat):Flat 1 (Af q):=⟨rfl,by show 1<=1;exact Nat.le_refl _⟩
theorem Ia (r:Aa):Flat 2 (Ax r):=M6 λ d hd=>by
 simp only [List.mem_cons,List.not_mem_nil,or_false] at hd;rcases hd with rfl | rfl
 ·exact Ep _
 ·exact Ep _
theorem vV:∀p:Pc,Flat 2 (Bp p)
 | .gap d=>M6 λ x hx=>by
  simp only [List.mem_cons,List.not_mem_nil,or_false] at hx;rcases hx with rfl | rfl
  ·exact ⟨by decide+kernel,by decide⟩
  ·exact Ep _
 | .glass d=>M6 λ x hx=>by
  simp only [List.mem_cons,List.not_mem_nil,or_false] at hx;rcases hx with rfl | rfl
  ·exact ⟨by decide+kernel,by decide⟩
  ·exact Ep _
 | .stop lo hi=>M6 λ x hx=>by
  simp only [List.mem_cons,List.not_mem_nil,or_false] at hx;rcases hx with rfl | rfl | rfl
  ·exact ⟨by decide+kernel,by decide⟩
  ·exact Ep _
  ·exact Ep _
theorem U4 {α:Type}{n:Nat}{f:α->PyData}(h:∀x,Flat n (f x))(l:List α):∀d∈l.map f,Flat n d:=λ d hd=>by
 obtain ⟨x,_,rfl⟩:=List.mem_map.mp hd;exact h x
theorem mK (ps:List Pc):Flat 3 (Dz ps):=Ni (U4 vV ps)
section
variable {K:FrG}{H:Hp}{x y:V}{d:PyData}{Q:VK}
theorem Xn {n:Nat}(hx:DV K H x d)(hy:DV K H y d)(f:Flat n d)(k:Q (.bl false) H)(hn:n<=64:=by decide):Ru K x y H Q:=
 ⟨d,d,hx,hy,f.sh hn,f.sh hn,by rw [SeqAt.eqv_refl d f.c];exact k⟩
theorem wY {p q:Rat}(hx:DV K H x (Af p))(hy:DV K H y (Af q))(k:Q (.bl (decide (p=q))) H):Ot K x y H Q:=
 ⟨_,_,hx,hy,(Ep p).sh (by decide),(Ep q).sh (by decide),by unfold Af;rw [P0];exact k⟩
theorem yQ {p q:Rat}(hx:DV K H x (Af p))(hy:DV K H y (Af q))(k:Q (.bl (!decide (p=q))) H):Ru K x y H Q:=
 ⟨_,_,hx,hy,(Ep p).sh (by decide),(Ep q).sh (by decide),by unfold Af;rw [P0];exact k⟩
end
mutual
def Hn:PyData->Bool
 | .list _=>false
 | .dict _=>false
 | .tuple ds=>Ii ds
 | .none=>true
 | .bool _=>true
 | .int _=>true
 | .str _=>true
def Ii:List PyData->Bool
 | []=>true
 | d::ds=>Hn d && Ii ds
end
def M7 (H H':Hp):Prop:=∀b xs,(H b=some (.tup xs)->H' b=some (.tup xs))/\∀o,H b=some (.frz o (.tup xs))->H' b=some (.frz o (.tup xs))
theorem Ej {H:Hp}{l:Addr}{xs:List V}(h:H l=some (.lst xs))(o:HO):M7 H (upd H l o):=λ b ys=>⟨λ e=>by rw [Av (λ z=>by rw [z,h] at e;cases e)];exact e,λ o e=>by rw [Av (λ z=>by rw [z,h] at e;cases e)];exact e⟩
mutual
theorem Fq {K:FrG}{H H':Hp}(s:M7 H H'):∀{v:V} {d:PyData},Hn d=true->DV K H v d->DV K H' v d
 | _,_,_,.non=>.non
 | _,_,_,.bl b=>.bl b
 | _,_,_,.int i=>.int i
 | _,_,_,.str x=>.str x
 | _,_,n,.lst h q=>nomatch n
 | _,_,n,.tup h q=>.tup (by
   rcases h with (h | ⟨o,h⟩) | h
   ·exact .inl (.inl ((s _ _).1 h))
   ·exact .inl (.inr ⟨o,(s _ _).2 o h⟩)
   ·exact .inr h) (DG s n q)
 | _,_,n,.dct h=>nomatch n
theorem DG {K:FrG}{H H':Hp}(s:M7 H H'):∀{vs:List V} {ds:List PyData},Ii ds=true->DVs K H vs ds->DVs K H' vs ds
 | _,_,_,.nil=>.nil
 | _,_,n,.cons h q=>.cons (Fq s (by rw [Ii] at n;exact (Bool.and_eq_true_iff.mp n).1) h) (DG s (by rw [Ii] at n;exact (Bool.and_eq_true_iff.mp n).2) q)
end
theorem DY {α:Type}{f:α->PyData}(h:∀x,Hn (f x)=true):∀l:List α,Ii (l.map f)=true
 | []=>rfl
 | x::l=>by rw [List.map_cons,Ii,h x,DY h l];rfl
theorem Eb (r:Aa):Hn (Ax r)=true:=rfl
theorem jn:∀p:Pc,Hn (Bp p)=true
 | .gap _=>rfl
 | .glass _=>rfl
 | .stop _ _=>rfl
def PR (K:FrG)(R:List PyData->PyData->Prop):Sp:=λ vs H Q _=>∃ds d,DVs K H vs ds/\R ds d/\∀v H',Same H H'->DV K H' v d->Q v H'
def Ky (g:Rat->Rat->Rat):List PyData->PyData->Prop:=λ ds d=>∃p q,ds=[Af p,Af q]/\Sm p/\Sm q/\d=Af (g p q)
def tU:List PyData->PyData->Prop:=λ ds d=>∃p q,ds=[Af p,Af q]/\Sm p/\Sm q/\d=.bool (decide (p < q))
theorem DV.upd2 {K:FrG}{H:Hp}{r:Addr}{x y:V}{d1 d2:PyData}(hr:H r=none)(hx:DV K H x d1)(hy:DV K H y d2):DV K (upd H r (.tup [x,y])) (.ref r) (.tuple [d1,d2]):=
 .tup (SqT.of Aq) (.cons (hx.keep (Ah hr _)) (.cons (hy.keep (Ah hr _)) .nil))
theorem DV.upd3 {K:FrG}{H:Hp}{r:Addr}{x y z:V}{d1 d2 d3:PyData}(hr:H r=none)(hx:DV K H x d1)(hy:DV K H y d2)(hz:DV K H z d3):DV K (upd H r (.tup [x,y,z])) (.ref r) (.tuple [d1,d2,d3]):=
 .tup (SqT.of Aq) (.cons (hx.keep (Ah hr _)) (.cons (hy.keep (Ah hr _)) (.cons (hz.keep (Ah hr _)) .nil)))
theorem DV.upd4 {K:FrG}{H:Hp}{r:Addr}{x y z u:V}{d1 d2 d3 d4:PyData}(hr:H r=none)(hx:DV K H x d1)(hy:DV K H y d2)(hz:DV K H z d3)(hu:DV K H u d4):DV K (upd H r (.tup [x,y,z,u])) (.ref r) (.tuple [d1,d2,d3,d4]):=
 .tup (SqT.of Aq) (.cons (hx.keep (Ah hr _)) (.cons (hy.keep (Ah hr _)) (.cons (hz.keep (Ah hr _)) (.cons (hu.keep (Ah hr _)) .nil))))
def yw:PyData->Bool
 | .tuple [.int t,.int b]=>decide (1<=b) && decide (Fr.gcd t b=1)
 | _=>false
def MT:PyData->Bool
 | .int _=>true
 | _=>false
def nj:PyData->Bool
 | .tuple _=>true
 | _=>false
theorem vZ (d:PyData):∃b c,Br (K8 d) "int"=some b/\Br (K8 d) "bool"=some c/\(b && !c)=MT d:=by
 cases d with
 | none=>exact ⟨false,false,by show Br "NoneType" "int"=_;decide+kernel,by show Br "NoneType" "bool"=_;decide+kernel,rfl⟩
 | bool b=>exact ⟨true,true,by show Br "bool" "int"=_;decide+kernel,by show Br "bool" "bool"=_;decide+kernel,rfl⟩
 | int i=>exact ⟨true,false,by show Br "int" "int"=_;decide+kernel,by show Br "int" "bool"=_;decide+kernel,rfl⟩
 | str x=>exact ⟨false,false,by show Br "str" "int"=_;decide+kernel,by show Br "str" "bool"=_;decide+kernel,rfl⟩
 | list xs=>exact ⟨false,false,by show Br "list" "int"=_;decide+kernel,by show Br "list" "bool"=_;decide+kernel,rfl⟩
 | tuple xs=>exact ⟨false,false,by show Br "tuple" "int"=_;decide+kernel,by show Br "tuple" "bool"=_;decide+kernel,rfl⟩
 | dict xs=>exact ⟨false,false,by show Br "dict" "int"=_;decide+kernel,by show Br "dict" "bool"=_;decide+kernel,rfl⟩
theorem Wa (d:PyData):Br (K8 d) "tuple"=some (nj d):=by
 cases d with
 | none=>show Br "NoneType" "tuple"=some false;decide+kernel
 | bool b=>show Br "bool" "tuple"=some false;decide+kernel
 | int i=>show Br "int" "tuple"=some false;decide+kernel
 | str x=>show Br "str" "tuple"=some false;decide+kernel
 | list xs=>show Br "list" "tuple"=some false;decide+kernel
 | tuple xs=>show Br "tuple" "tuple"=some true;decide+kernel
 | dict xs=>show Br "dict" "tuple"=some false;decide+kernel
def iz:PyData->Bool
 | .list _=>true
 | _=>false
theorem Yi (d:PyData):Br (K8 d) "list"=some (iz d):=by
 cases d with
 | none=>show Br "NoneType" "list"=some false;decide+kernel
 | bool b=>show Br "bool" "list"=some false;decide+kernel
 | int i=>show Br "int" "list"=some false;decide+kernel
 | str x=>show Br "str" "list"=some false;decide+kernel
 | list xs=>show Br "list" "list"=some true;decide+kernel
 | tuple xs=>show Br "tuple" "list"=some false;decide+kernel
 | dict xs=>show Br "dict" "list"=some false;decide+kernel
def jh:PyData->Bool
 | .str _=>true
 | _=>false
theorem Td (d:PyData):Br (K8 d) "str"=some (jh d):=by
 cases d with
 | none=>show Br "NoneType" "str"=some false;decide+kernel
 | bool b=>show Br "bool" "str"=some false;decide+kernel
 | int i=>show Br "int" "str"=some false;decide+kernel
 | str x=>show Br "str" "str"=some true;decide+kernel
 | list xs=>show Br "list" "str"=some false;decide+kernel
 | tuple xs=>show Br "tuple" "str"=some false;decide+kernel
 | dict xs=>show Br "dict" "str"=some false;decide+kernel
def n6 (K:FrG):Sp:=λ vs H Q _=>∃v d,vs=[v]/\DV K H v d/\Q (.bl (MT d)) H
def dh:List PyData->PyData->Prop:=λ ds d=>∃p q,ds=[Af p,Af q]/\Sm p/\Sm q/\q≠0/\d=Af (p / q)
theorem Bt {b:Bool}{A B:Prop}(hb:b=true)(h:A):if b=true then A else B:=by rw [if_pos hb];exact h
theorem Bf {b:Bool}{A B:Prop}(hb:b=false)(h:B):if b=true then A else B:=by rw [if_neg (by rw [hb];exact Bool.false_ne_true)];exact h
theorem Uu (n d:Nat):HT.sIx n d (some 1)=min 1 n:=HT.Ld n d 1
theorem Z0 (xs:List V):cutV xs (some 1) none=xs.drop 1:=by
 unfold cutV;rw [Uu,HT.Ui];cases xs with
 | nil=>rfl
 | cons x r=>
  rw [show min 1 (x::r).length=1 by simp only [List.length_cons];omega]
  exact List.take_of_length_le (by simp)
theorem Ey (x y:Str):decide (V.str x=V.str y)=decide (x=y):=by
 by_cases h:x=y
 ·subst h;simp
 ·have:¬ V.str x=V.str y:=λ z=>h (V.str.inj z)
  rw [decide_eq_false h,decide_eq_false this]
inductive ObAt (K:FrG)(CG CL CS:Addr)(H:Hp):V->Pc->Prop
 | gap {a dx:Addr} {x:V} {d:Rat}:H a=some (.ins CG dx [("length",x)])->DV K H x (Af d)->ObAt K CG CL CS H (.ref a) (.gap d)
 | glass {a dx:Addr} {x:V} {d:Rat}:H a=some (.ins CL dx [("strength",x)])->DV K H x (Af d)->ObAt K CG CL CS H (.ref a) (.glass d)
 | stop {a dx:Addr} {x y:V} {lo hi:Rat}:H a=some (.ins CS dx [("low",x),("high",y)])->DV K H x (Af lo)->DV K H y (Af hi)->ObAt K CG CL CS H (.ref a) (.stop lo hi)
theorem ObAt.keep {K:FrG}{CG CL CS:Addr}{H H':Hp}(s:Same H H'):∀{v:V} {p:Pc},ObAt K CG CL CS H v p->ObAt K CG CL CS H' v p
 | _,_,.gap h x=>.gap (s _ _ h) (x.keep s)
 | _,_,.glass h x=>.glass (s _ _ h) (x.keep s)
 | _,_,.stop h x y=>.stop (s _ _ h) (x.keep s) (y.keep s)
def X7 (C:Addr)(f:Str):Sp:=λ vs H Q _=>∃a dx x,vs=[.ref a,x]/\H a=some (.ins C dx [])/\Q .non (upd H a (.ins C dx [(f,x)]))
def pU (C:Addr)(f g:Str):Sp:=λ vs H Q _=>∃a dx x y,vs=[.ref a,x,y]/\H a=some (.ins C dx [])/\Q .non (upd H a (.ins C dx [(f,x),(g,y)]))
def aW:Sp:=λ vs H Q _=>∃x y,vs=[x,y]/\Q (.bl true) H
def nG:Sp:=λ vs H Q _=>∃x y,vs=[x,y]/\Q y H
def RM (K:FrG)(CG CL CS:Addr)(R:Pc->Aa->PyData)(C:Pc->Prop):Sp:=λ vs H Q _=>∃(o y:V) (p:Pc) (r:Aa) (n m:Nat),vs=[o,y]/\C p/\ObAt K CG CL CS H o p/\DV K H y (Ax r)/\RB n r/\p.bd m/\n+m<=3900/\∀v H',Same H H'->DV K H' v (R p r)->Q v H'
def mR:Pc->Prop
 | .gap _=>True
 | _=>False
def uO:Pc->Prop
 | .glass _=>True
 | _=>False
def isStop:Pc->Prop
 | .stop _ _=>True
 | _=>False
def oW (K:FrG)(CG CL CS:Addr):Sp:=λ vs H Q _=>∃v p,vs=[v]/\DV K H v (Bp p)/\∀a H',Same H H'->ObAt K CG CL CS H' (.ref a) p->Q (.ref a) H'
structure Good (m:Nat)(ps:List Pc):Prop where
 len:ps.length<=60
 ok:∀p∈ps,p.ok
 bd:∀p∈ps,p.bd m
def qg (K:FrG):Sp:=λ vs H Q _=>∃v ps m,vs=[v]/\DV K H v (Dz ps)/\Good m ps/\m<=4000/\∀H',Same H H'->Q .non H'
def vQ (K:FrG):Sp:=λ vs H Q _=>∃(b y:V) (ps:List Pc) (r:Aa) (n m:Nat),vs=[b,y]/\DV K H b (Dz ps)/\Good m ps/\DV K H y (Ax r)/\RB n r/\n+ps.length * (m+1)+m<=3900/\
 ∀t l rs at_ H',Same H H'->H l=none->H' l=some (.lst rs)->H' t=some (.tup [.ref l,at_])->DVs K H' rs ((walk ps r).1.map Ax)->DV K H' at_ (cI (walk ps r).2)->Q (.ref t) H'
theorem Hr {ps:List Pc}{i:Nat}{d:PyData}(h:(ps.map Bp)[i]?=some d):∃p,ps[i]?=some p/\d=Bp p:=by
 rw [List.getElem?_map] at h;cases e:ps[i]? with
 | none=>rw [e] at h;cases h
 | some p=>rw [e] at h;exact ⟨p,rfl,(Option.some.inj h).symm⟩
theorem dw (xs:List V)(lo hi:Nat):(cutV xs (some (lo:Int)) (some (hi:Int))).length<=hi - lo:=by
 unfold cutV;rw [HT.Ld,HT.Ld,List.length_take];omega
theorem sJ (i:Int):Af (i:Rat)=.tuple [.int i,.int 1]:=by
 unfold Af;rw [Rat.num_intCast,Rat.den_intCast];rfl
theorem jU (q:Rat):Af (-q)=.tuple [.int (0 - q.num),.int (q.den:Int)]:=by
 unfold Af;rw [Rat.neg_num,Rat.neg_den,Int.zero_sub]
theorem PX {i:Int}{n:Nat}(h:i.natAbs < 2 ^ n)(hn:1<=n):Bd n (i:Rat):=⟨by rw [Rat.num_intCast];exact h,by rw [Rat.den_intCast];exact Nat.lt_of_lt_of_le (by decide:1 < 2 ^ 1) (EY hn)⟩
theorem yW {vs:List V}{v:V}(h:vs.getLast?=some v):atI vs (-1)=some v:=by
 obtain ⟨ys,rfl⟩:=List.getLast?_eq_some_iff.mp h;exact iU ys v
theorem iK (z:Str):(if false=true then !inV (.str z) [.str "gap",.str "glass"] else inV (.str z) [.str "gap",.str "glass"])=(decide (z="gap") || decide (z="glass")):=by
 rw [if_neg Bool.false_ne_true];unfold inV;simp only [List.any_cons,List.any_nil,Bool.or_false];have h:∀w:Str,eqV (.str w) (.str z)=decide (z=w):=λ w=>by
  show decide (w=z)=decide (z=w);exact decide_eq_decide.mpr ⟨Eq.symm,Eq.symm⟩
 rw [h,h]
theorem CQ {x:V}{xs:List V}:atI (x::xs) 0=some x:=Eh (j:=0) rfl
end Lib
namespace Op
open Fr
end Op
namespace Lib
open PySem L2 Fr Op
def xj:List PyData->PyData->Prop:=λ ds d=>∃ps r n m,ds=[Dz ps,Ax r]/\Good m ps/\RB n r/\n+ps.length * (m+1)+m<=3900/\d=.bool (walk ps r).2.isNone
theorem rW (xs:List V)(k:Nat):cutV xs none (some (k:Int))=xs.take k:=by
 unfold cutV;rw [HT.Ld,HT.Ui,List.drop_zero,Nat.sub_zero,<- List.take_take];rw [List.take_length]
theorem ou (xs:List V)(k:Nat):cutV xs (some (k:Int)) none=xs.drop k:=by
 unfold cutV;rw [HT.Ld,HT.Ui];by_cases h:k<=xs.length
 ·rw [Nat.min_eq_left h];exact List.take_of_length_le (by rw [List.length_drop];exact Nat.le_refl _)
 ·rw [Nat.min_eq_right (by omega),List.drop_eq_nil_of_le (Nat.le_refl _),List.drop_eq_nil_of_le (by omega),List.take_nil]
theorem qx {K:FrG}{H:Hp}{v:V}:∀{o:Option Nat},DV K H v (cI o)->decide (v=.non)=o.isNone
 | none,h=>by obtain rfl:=h.non_of;rfl
 | some i,h=>by obtain rfl:=h.int_of;rfl
end Lib
namespace Op
open Fr
def Pc.isStop:Pc->Bool
 | .stop _ _=>true
 | _=>false
def Cm (ps:List Pc):List Pc:=ps.filter λ p=>!p.isStop
def BP (ps:List Pc)(r:Aa):Aa:=ps.foldl (λ r p=>p.bent r) r
def both (r s:Aa):Aa:=(r.1+s.1,r.2+s.2)
def times (k:Rat)(r:Aa):Aa:=(k * r.1,k * r.2)
theorem Zi (p:Pc)(r s:Aa):p.bent (both r s)=both (p.bent r) (p.bent s):=by
 cases p with
 | gap d=>simp only [Pc.bent,both];refine Prod.ext ?_ rfl;show r.1+s.1+d * (r.2+s.2)=r.1+d * r.2+(s.1+d * s.2);grind
 | glass d=>simp only [Pc.bent,both];refine Prod.ext rfl ?_;show r.2+s.2 - d * (r.1+s.1)=r.2 - d * r.1+(s.2 - d * s.1);grind
 | stop _ _=>rfl
theorem Qo (p:Pc)(k:Rat)(r:Aa):p.bent (times k r)=times k (p.bent r):=by
 cases p with
 | gap d=>simp only [Pc.bent,times];refine Prod.ext ?_ rfl;show k * r.1+d * (k * r.2)=k * (r.1+d * r.2);grind
 | glass d=>simp only [Pc.bent,times];refine Prod.ext rfl ?_;show k * r.2 - d * (k * r.1)=k * (r.2 - d * r.1);grind
 | stop _ _=>rfl
theorem je (ps:List Pc):∀r s:Aa,BP ps (both r s)=both (BP ps r) (BP ps s):=by
 induction ps with
 | nil=>intro r s;rfl
 | cons p ps ih=>intro r s;show BP ps (p.bent (both r s))=_;rw [Zi,ih];rfl
theorem aD (ps:List Pc):∀(k:Rat) (r:Aa),BP ps (times k r)=times k (BP ps r):=by
 induction ps with
 | nil=>intro k r;rfl
 | cons p ps ih=>intro k r;show BP ps (p.bent (times k r))=_;rw [Qo,ih];rfl
theorem yo (ps:List Pc):∀r:Aa,BP (Cm ps) r=BP ps r:=by
 induction ps with
 | nil=>intro r;rfl
 | cons p ps ih=>
  intro r;cases p with
  | gap d=>exact ih _
  | glass d=>exact ih _
  | stop lo hi=>exact ih _
theorem rN (ps:List Pc):∀p∈Cm ps,p.isStop=false:=λ p hp=>by
 have:=(List.mem_filter.mp hp).2
 simpa using this
theorem W8 {n m:Nat}(ps:List Pc):∀(n:Nat) (r:Aa),(∀p∈ps,p.bd m)->RB n r->RB (n+ps.length * (m+1)) (BP ps r):=by
 induction ps with
 | nil=>intro n r _ h;simpa [BP] using h
 | cons p ps ih=>
  intro n r hb h;have h1:=HN (hb p List.mem_cons_self) h;have:=ih _ _ (λ q hq=>hb q (List.mem_cons_of_mem _ hq)) h1
  refine Rb.mono this ?_;rw [List.length_cons,Nat.add_mul,Nat.one_mul];omega
end Op
namespace Lib
open PySem L2 Fr Op
theorem V1 (ps:List Pc):(Cm ps).length<=ps.length:=List.length_filter_le _ _
theorem rT {ps:List Pc}{i:Nat}{p:Pc}(h:ps[i]?=some p):Cm (ps.take (i+1))=if p.isStop then Cm (ps.take i) else Cm (ps.take i)++[p]:=by
 unfold Cm;rw [List.take_add_one,h,List.filter_append];cases hp:p.isStop with
 | true=>simp [hp]
 | false=>simp [hp]
theorem flat_nil:Flat 1 (.list []):=Ni λ _ h=>nomatch h
end Lib
namespace Op
open Fr
structure Tab where
 a:Rat
 b:Rat
 c:Rat
 d:Rat
def Tab.by (t:Tab)(r:Aa):Aa:=(t.a * r.1+t.b * r.2,t.c * r.1+t.d * r.2)
def e1:Aa:=(1,0)
def e2:Aa:=(0,1)
def tabOf (ps:List Pc):Tab:=⟨(BP ps e1).1,(BP ps e2).1,(BP ps e1).2,(BP ps e2).2⟩
theorem Yk (r:Aa):r=both (times r.1 e1) (times r.2 e2):=by
 unfold both times e1 e2;refine Prod.ext ?_ ?_
 ·show r.1=r.1 * 1+r.2 * 0;grind
 ·show r.2=r.1 * 0+r.2 * 1;grind
theorem cA (ps:List Pc)(r:Aa):BP ps r=(tabOf ps).by r:=by
 have e:BP ps r=both (times r.1 (BP ps e1)) (times r.2 (BP ps e2)):=by
  rw [<- aD,<- aD,<- je,<- Yk]
 rw [e];unfold both times Tab.by tabOf
 refine Prod.ext ?_ ?_
 ·show r.1 * (BP ps e1).1+r.2 * (BP ps e2).1=(BP ps e1).1 * r.1+(BP ps e2).1 * r.2;grind
 ·show r.1 * (BP ps e1).2+r.2 * (BP ps e2).2=(BP ps e1).2 * r.1+(BP ps e2).2 * r.2;grind
theorem mJ (p:Pc)(r s:Aa):(p.bent r).1 * (p.bent s).2 - (p.bent s).1 * (p.bent r).2=r.1 * s.2 - s.1 * r.2:=by
 cases p with
 | gap d=>show (r.1+d * r.2) * s.2 - (s.1+d * s.2) * r.2=_;grind
 | glass d=>show r.1 * (s.2 - d * s.1) - s.1 * (r.2 - d * r.1)=_;grind
 | stop _ _=>rfl
theorem T5 (ps qs:List Pc)(r:Aa):BP (ps++qs) r=BP qs (BP ps r):=List.foldl_append ..
structure Tb (n:Nat)(t:Tab):Prop where
 a:Bd n t.a
 b:Bd n t.b
 c:Bd n t.c
 d:Bd n t.d
theorem eV {m:Nat}{ps:List Pc}(hb:∀p∈ps,p.bd m):Tb (2+ps.length * (m+1)) (tabOf ps):=by
 have r1:RB 2 e1:=⟨1,0,1,by decide,by decide,by decide,by decide,by decide+kernel,by decide+kernel⟩
 have r2:RB 2 e2:=⟨0,1,1,by decide,by decide,by decide,by decide,by decide+kernel,by decide+kernel⟩
 have h1:=W8 (n:=0) ps 2 e1 hb r1;have h2:=W8 (n:=0) ps 2 e2 hb r2;exact ⟨h1.y,h2.y,h1.u,h2.u⟩
end Op
namespace Lib
open PySem L2 Fr Op
def PL (t:Tab):PyData:=.tuple [Af t.a,Af t.b,Af t.c,Af t.d]
def yZ:List PyData->PyData->Prop:=λ ds d=>∃r s:Aa,ds=[Ax r,Ax s]/\d=PL ⟨r.1,s.1,r.2,s.2⟩
def kh:List PyData->PyData->Prop:=λ ds d=>∃ps m,ds=[Dz ps]/\Good m ps/\2+ps.length * (m+1)+m<=3900/\d=PL (tabOf ps)
def wM:List PyData->PyData->Prop:=λ ds d=>∃t r n,ds=[PL t,Ax r]/\Tb n t/\Bd n r.1/\Bd n r.2/\n<=1900/\d=Ax (t.by r)
def SD (d:Addr)(H H':Hp):Prop:=∀b o,b≠d->H b=some o->H' b=some o
theorem SD.trans {d:Addr}{H H1 H2:Hp}(a:SD d H H1)(b:SD d H1 H2):SD d H H2:=λ c o n h=>b c o n (a c o n h)
def tE (K:FrG):Sp:=λ vs H Q _=>∃(a:Addr) (ns:List Int) (k:Int),vs=[.ref a,.int k]/\SqL K H a (ns.map V.int)/\0<=k/\∀z:Int,Q (.int z) H
def du:Sp:=λ vs H Q _=>∃t b:Int,vs=[.int t,.int b]/\0 < b/\b.natAbs < lim/\∀p,H p=none->Q (.ref p) (upd H p (.tup [.int (Fr.lt t b),.int (Fr.lb t b)]))
theorem Lk (q:Rat):Hn (Af q)=true:=rfl
def sY (K:FrG):Sp:=λ vs H Q _=>∃v q,vs=[v]/\DV K H v (Af q)/\Q (.bl true) H
def iY (K:FrG):Sp:=λ vs H Q _=>∃(v:V) (p:Pc) (m:Nat),vs=[v]/\DV K H v (Bp p)/\p.ok/\p.bd m/\m<=4000/\∀H',Same H H'->Q (.bl true) H'
inductive PSh (m:Nat):Str->List Rat->Prop where
 | stop {lo hi:Rat}:¬ hi < lo->Bd m lo->Bd m hi->PSh m "stop" [lo,hi]
 | one {w:Str} {d:Rat}:decide (w="stop")=false->(decide (w="gap") || decide (w="glass"))=true->PSh m w [d]
theorem pW {m:Nat}:∀{p:Pc},p.ok->p.bd m->∃w es,Bp p=.tuple (.str w::es.map Af)/\PSh m w es
 | .gap d,_,_=>⟨"gap",[d],rfl,.one (by decide) (by decide)⟩
 | .glass d,_,_=>⟨"glass",[d],rfl,.one (by decide) (by decide)⟩
 | .stop lo hi,h,b=>⟨"stop",[lo,hi],rfl,.stop h b.1 b.2⟩
theorem PSh.len {m:Nat}{w:Str}{es:List Rat}:PSh m w es->0 < es.length/\es.length<=2
 | .stop ..=>⟨by simp,by simp⟩
 | .one ..=>⟨by simp,by simp⟩
theorem oF (n:Nat):(List.replicate n true).all id=true:=by simp
theorem rG (n:Nat):(List.replicate n true).map V.bl=List.replicate n (V.bl true):=by simp
theorem vm {es:List Rat}{i:Nat}{d:PyData}(h:(es.map Af)[i]?=some d):∃q,d=Af q:=by
 rw [List.getElem?_map] at h;cases e:es[i]? with
 | none=>rw [e] at h;cases h
 | some q=>rw [e] at h;cases h;exact ⟨q,rfl⟩
theorem oM {K:FrG}{H:Hp}{x y:V}{p q:Rat}{σ:List (Option V)}{Q:VK}(hx:DV K H x (Af p))(hy:DV K H y (Af q))(k:Q (.bl (decide (p=q))) H):tC y σ H (λ y H2=>Ot K x y H2 Q):=wY hx hy k
theorem yN (n i m:Nat):n+i * (m+1)+m+1<=n+(i+1) * (m+1):=by rw [Nat.add_mul];omega
theorem yr {α:Type}{tr:List α}{i:Nat}{x:α}(h:tr.length<=i):(tr++[x]).length<=i+1:=by rw [List.length_append];exact Nat.succ_le_succ h
theorem Zw {n i m k:Nat}(h:n+k * (m+1)+m<=3900)(hi:i < k):n+i * (m+1)+m<=3900:=by
 have:i * (m+1)<=k * (m+1):=Nat.mul_le_mul_right _ (Nat.le_of_lt hi);omega
theorem Jp {n m:Nat}(h:n+m<=3900):n<=4000:=by omega
theorem N7 {n m:Nat}(h:n+m<=3900):m<=4000:=by omega
theorem Xl {n m:Nat}(h:n+m<=3900):m+n<=4000:=by omega
theorem xY {K:FrG}{H:Hp}{vs:List V}{r:Aa}{tr:List Aa}(h:DVs K H vs ((r::tr).map Ax))(ht:tr.length<=60):vs.length < sizeLine:=by
 have:=h.len;rw [List.length_map,List.length_cons] at this;exact small1000 (by omega)
theorem by1 {α:Type}{p:List α->Prop}(h:∀a,p [a]):∀us:List α,us.length=1->p us
 | [_],_=>h _
theorem Bs {α:Type}{p:List α->Prop}(h:∀a b,p [a,b]):∀us:List α,us.length=2->p us
 | [_,_],_=>h _ _
theorem Ij {α:Type}{p:List α->Prop}(h:∀a b c,p [a,b,c]):∀us:List α,us.length=3->p us
 | [_,_,_],_=>h _ _ _
theorem by4 {α:Type}{p:List α->Prop}(h:∀a b c d,p [a,b,c,d]):∀us:List α,us.length=4->p us
 | [_,_,_,_],_=>h _ _ _ _
theorem XX {t b:Int}(ht:0<=t)(hb:0<=b):0<=Rat.divInt t b:=Rat.divInt_nonneg ht hb
theorem tM {ps:List Pc}{i:Nat}{pc:Pc}(h:ps[i]?=some pc)(r:Aa):BP (ps.take (i+1)) r=pc.bent (BP (ps.take i) r):=by
 rw [List.take_add_one,h,T5];rfl
section
variable {K:FrG}{H H1 H2 H':Hp}{v x y z u:V}{p:Addr}{d d1 d2 d3 d4:PyData}{xs:List V}{o:HO}
theorem De (h2:Same H1 H2)(h1:Same H H1):Same H H2:=h1.trans h2
theorem JR (hp:H1 p=none)(h1:Same H H1):Same H (upd H1 p o):=h1.trans (Ah hp o)
theorem Jg (h:DV K H v d)(s:Same H H'):DV K H' v d:=h.keep s
theorem Fz (h:SqT K H p xs)(s:Same H H'):SqT K H' p xs:=h.keep s
end
theorem Tb.mono {n m:Nat}{t:Tab}(h:Tb n t)(le:n<=m):Tb m t:=⟨h.a.mono le,h.b.mono le,h.c.mono le,h.d.mono le⟩
theorem M4 {n:Nat}{q:Rat}(h:Bd n q):Bd n (-q):=⟨by rw [Rat.neg_num,Int.natAbs_neg];exact h.n,by rw [Rat.neg_den];exact h.d⟩
theorem O6 {K:FrG}{H:Hp}{p:Addr}{i:Int}:DV K (upd H p (.tup [.int i,.int 1])) (.ref p) (Af ((i:Int):Rat)):=by
 rw [sJ];exact .tup (SqT.of Aq) (.cons (.int _) (.cons (.int 1) .nil))
structure Lim where
 k:Nat
 a:Rat
 b:Rat
 lo:Rat
 hi:Rat
def Dj (l:Lim):PyData:=.tuple [.int (l.k:Int),Af l.a,Af l.b,Af l.lo,Af l.hi]
def lim1 (i:Nat)(p:Pc)(h s:Aa):List Lim:=match p with
 | .stop lo hi=>[⟨i,h.1,s.1,lo,hi⟩]
 | _=>[]
def CW:Nat->List Pc->Aa->Aa->List Lim
 | _,[],_,_=>[]
 | i,p::ps,h,s=>lim1 i p h s++CW (i+1) ps (p.bent h) (p.bent s)
def Ba (ps:List Pc):List Lim:=CW 0 ps e1 e2
theorem Yj (p:Pc):∀(ps:List Pc) (i:Nat) (h s:Aa),CW i (ps++[p]) h s=CW i ps h s++lim1 (i+ps.length) p (BP ps h) (BP ps s)
 | [],i,h,s=>by show lim1 i p h s++[]=[]++lim1 (i+0) p h s;rw [List.append_nil];rfl
 | q::ps,i,h,s=>by
  show lim1 i q h s++CW (i+1) (ps++[p]) (q.bent h) (q.bent s)=lim1 i q h s++CW (i+1) ps (q.bent h) (q.bent s)++_;rw [Yj p ps,List.append_assoc,List.length_cons,show i+1+ps.length=i+(ps.length+1) by omega]
  rfl
theorem mH {ps:List Pc}{i:Nat}{p:Pc}(h:ps[i]?=some p):Ba (ps.take (i+1))=Ba (ps.take i)++lim1 i p (BP (ps.take i) e1) (BP (ps.take i) e2):=by
 have hi:=(List.getElem?_eq_some_iff.mp h).1;unfold Ba;rw [List.take_add_one,h];show CW 0 (ps.take i++[p]) e1 e2=_;rw [Yj,List.length_take,Nat.min_eq_left (Nat.le_of_lt hi),Nat.zero_add]
theorem Tt (ps:List Pc):∀(i:Nat) (h s:Aa),(CW i ps h s).length<=ps.length:=by
 induction ps with
 | nil=>intro i h s;exact Nat.le_refl _
 | cons p ps ih=>
  intro i h s;show (lim1 i p h s++CW (i+1) ps _ _).length<=ps.length+1;rw [List.length_append];have:=ih (i+1) (p.bent h) (p.bent s);cases p with
  | gap d=>show 0+_<=_;omega
  | glass d=>show 0+_<=_;omega
  | stop lo hi=>show 1+_<=_;omega
theorem gJ (l:Lim):Flat 2 (Dj l):=M6 λ d hd=>by
 simp only [List.mem_cons,List.not_mem_nil,or_false] at hd;rcases hd with rfl | rfl | rfl | rfl | rfl
 ·exact (yG _).mono (by decide)
 ·exact Ep _
 ·exact Ep _
 ·exact Ep _
 ·exact Ep _
theorem uZ (l:Lim):Hn (Dj l)=true:=rfl
def Lim.bad (l:Lim)(r:Aa):Bool:=decide (l.a * r.1+l.b * r.2 < l.lo) || decide (l.hi < l.a * r.1+l.b * r.2)
def GJ:List Lim->Aa->Option Nat
 | [],_=>none
 | l::ls,r=>if l.bad r=true then some l.k else GJ ls r
def comb (h s r:Aa):Aa:=both (times r.1 h) (times r.2 s)
theorem um (p:Pc)(h s r:Aa):p.bent (comb h s r)=comb (p.bent h) (p.bent s) r:=by
 unfold comb;rw [Zi,Qo,Qo]
theorem rY (h s r:Aa):(comb h s r).1=h.1 * r.1+s.1 * r.2:=by
 show r.1 * h.1+r.2 * s.1=_
 grind
theorem dG:∀(ps:List Pc) (i:Nat) (h s r:Aa),GJ (CW i ps h s) r=(wk i ps (comb h s r)).2
 | [],i,h,s,r=>rfl
 | p::ps,i,h,s,r=>by
  have ih:=dG ps (i+1) (p.bent h) (p.bent s) r;rw [<- um] at ih;cases p with
  | gap d=>rw [Od (by rfl)];exact ih
  | glass d=>rw [Od (by rfl)];exact ih
  | stop lo hi=>
   show (if (Lim.mk i h.1 s.1 lo hi).bad r=true then some i else GJ (CW (i+1) ps _ _) r)=_
   have e:(Lim.mk i h.1 s.1 lo hi).bad r=!(Pc.stop lo hi).lets (comb h s r):=by
    show (decide (h.1 * r.1+s.1 * r.2 < lo) || decide (hi < h.1 * r.1+s.1 * r.2))=!(!decide ((comb h s r).1 < lo) && !decide (hi < (comb h s r).1))
    rw [rY];cases decide (h.1 * r.1+s.1 * r.2 < lo)<;>cases decide (hi < h.1 * r.1+s.1 * r.2)<;>rfl
   rw [e];cases hl:(Pc.stop lo hi).lets (comb h s r) with
   | true=>rw [if_neg (by decide),Od hl];exact ih
   | false=>rw [if_pos (by decide),cT hl]
theorem aF (ps:List Pc)(r:Aa):GJ (Ba ps) r=(walk ps r).2:=by
 unfold Ba walk;rw [dG];have:comb e1 e2 r=r:=(Yk r).symm;rw [this]
structure LimOk (n:Nat)(l:Lim):Prop where
 a:Bd n l.a
 b:Bd n l.b
 lo:Bd n l.lo
 hi:Bd n l.hi
 z:l.a=0->l.b≠0
theorem YD {m:Nat}:∀(ps:List Pc) (i n:Nat) (h s:Aa),(∀p∈ps,p.bd m)->RB n h->RB n s->h.1 * s.2 - s.1 * h.2=1->∀l∈CW i ps h s,LimOk (n+ps.length * (m+1)+m) l
 | [],i,n,h,s,_,_,_,_=>λ l hl=>nomatch hl
 | p::ps,i,n,h,s,hb,rh,rs,dt=>λ l hl=>by
  have hp:=hb p List.mem_cons_self;have e:(p::ps).length * (m+1)=ps.length * (m+1)+(m+1):=by rw [List.length_cons,Nat.add_mul,Nat.one_mul]
  rcases List.mem_append.mp hl with h1 | h1
  ·cases p with
   | gap d=>cases h1
   | glass d=>cases h1
   | stop lo hi=>
    have hp:Bd m lo/\Bd m hi:=hp;cases List.mem_singleton.mp h1
    refine ⟨rh.y.mono (by omega),rs.y.mono (by omega),hp.1.mono (by omega),hp.2.mono (by omega),λ z1 z2=>?_⟩
    have z1:h.1=0:=z1;have z2:s.1=0:=z2;rw [z1,z2] at dt
    grind
  ·have:=YD ps (i+1) (n+m+1) (p.bent h) (p.bent s) (λ q hq=>hb q (List.mem_cons_of_mem _ hq)) (HN hp rh) (HN hp rs) (by rw [mJ];exact dt) l h1
   exact ⟨this.a.mono (by omega),this.b.mono (by omega),this.lo.mono (by omega),this.hi.mono (by omega),this.z⟩
theorem X3:RB 2 e1:=⟨1,0,1,by decide,by decide,by decide,by decide,by decide+kernel,by decide+kernel⟩
theorem aJ:RB 2 e2:=⟨0,1,1,by decide,by decide,by decide,by decide,by decide+kernel,by decide+kernel⟩
theorem qD {m:Nat}{ps:List Pc}(hb:∀p∈ps,p.bd m):∀l∈Ba ps,LimOk (2+ps.length * (m+1)+m) l:=YD ps 0 2 e1 e2 hb X3 aJ (by show (1:Rat) * 1 - 0 * 0=1;grind)
def lM (K:FrG):Sp:=λ vs H Q _=>∃(v:V) (ps:List Pc) (m:Nat),vs=[v]/\DV K H v (Dz ps)/\Good m ps/\2+ps.length * (m+1)+m<=3900/\∀l rs H',Same H H'->H l=none->H' l=some (.lst rs)->DVs K H' rs ((Ba ps).map Dj)->Q (.ref l) H'
theorem DV.upd5 {K:FrG}{H:Hp}{r:Addr}{x y z u t:V}{d1 d2 d3 d4 d5:PyData}(hr:H r=none)(hx:DV K H x d1)(hy:DV K H y d2)(hz:DV K H z d3)(hu:DV K H u d4)(ht:DV K H t d5):DV K (upd H r (.tup [x,y,z,u,t])) (.ref r) (.tuple [d1,d2,d3,d4,d5]):=
 .tup (SqT.of Aq) (.cons (hx.keep (Ah hr _)) (.cons (hy.keep (Ah hr _)) (.cons (hz.keep (Ah hr _)) (.cons (hu.keep (Ah hr _)) (.cons (ht.keep (Ah hr _)) .nil)))))
theorem DV.t5 {K:FrG}{H:Hp}{v:V}{l:Lim}(h:DV K H v (Dj l)):∃a x y z u,v=.ref a/\SqT K H a [.int (l.k:Int),x,y,z,u]/\DV K H x (Af l.a)/\DV K H y (Af l.b)/\DV K H z (Af l.lo)/\DV K H u (Af l.hi):=by
 obtain ⟨a,xs,rfl,ha,hxs⟩:=DV.tup_of h;obtain ⟨x0,r0,rfl,h0,hr⟩:=hxs.cons_of;obtain ⟨x1,x2,x3,x4,rfl,h1,h2,h3,h4⟩:=hr.four;obtain rfl:=h0.int_of;exact ⟨a,x1,x2,x3,x4,rfl,ha,h1,h2,h3,h4⟩
theorem bz {ls:List Lim}{i:Nat}{d:PyData}(h:(ls.map Dj)[i]?=some d):∃l,ls[i]?=some l/\d=Dj l:=by
 rw [List.getElem?_map] at h;cases e:ls[i]? with
 | none=>rw [e] at h;cases h
 | some p=>rw [e] at h;exact ⟨p,rfl,(Option.some.inj h).symm⟩
def Vv (ls:List Lim):PyData:=.list (ls.map Dj)
theorem yc (ls:List Lim):Flat 3 (Vv ls):=Ni (U4 gJ ls)
end Lib
namespace Op
open Fr
end Op
namespace Lib
open PySem L2 Fr Op
instance:DecidableEq Tab:=λ t u=>decidable_of_iff (t.a=u.a/\t.b=u.b/\t.c=u.c/\t.d=u.d) ⟨λ ⟨a,b,c,d⟩=>by (cases t;cases u;cases a;cases b;cases c;cases d;rfl),λ h=>by rw [h];exact ⟨rfl,rfl,rfl,rfl⟩⟩
end Lib
namespace L2
open PySem PySem.Spec PyProof.Rows
end L2
namespace Lib
open PySem L2 Fr Op
def Ce (h s u:Rat):Aa:=(h+s * u,u)
def hgt (t:Tab)(h s u T:Rat):Rat:=(t.by (Ce h s u)).1+T * (t.by (Ce h s u)).2
def Jj (p q:Rat):PyData:=if q < p then .tuple [Af q,Af p] else .tuple [Af p,Af q]
def lA:List PyData->PyData->Prop:=λ ds d=>∃p q,ds=[Af p,Af q]/\Sm p/\Sm q/\d=Jj p q
def pairD (p q:Rat):PyData:=.tuple [Af p,Af q]
def lK:List PyData->PyData->Prop:=λ ds d=>∃t h s u T n m k,ds=[PL t,pairD h s,Af u,Af T]/\Tb n t/\Bd m h/\Bd m s/\Bd m u/\Bd k T/\2 * (2 * n+4 * m+2)+k<=3800/\d=Af (hgt t h s u T)
def jV:List PyData->PyData->Prop:=λ ds d=>∃ps h s u0 u1 T n m k,ds=[Dz ps,pairD h s,pairD u0 u1,Af T]/\Good n ps/\Bd m h/\Bd m s/\Bd m u0/\Bd m u1/\Bd k T/\2 * (2 * (2+ps.length * (n+1)+n)+4 * m+2)+k<=3800/\d=Jj (hgt (tabOf ps) h s u0 T) (hgt (tabOf ps) h s u1 T)
theorem Yd {t:Tab}{h s u T:Rat}{n m k:Nat}(ht:Tb n t)(bh:Bd m h)(bs:Bd m s)(bu:Bd m u)(bT:Bd k T):Bd (2 * (2 * n+4 * m+2)+k+1) (hgt t h s u T):=by
 have by1:Bd (3 * m+1) (h+s * u):=(bh.add (bs.mul bu)).mono (by omega)
 have y1:Bd (2 * n+4 * m+2) (t.by (Ce h s u)).1:=((ht.a.mul by1).add (ht.b.mul bu)).mono (by omega)
 have y2:Bd (2 * n+4 * m+2) (t.by (Ce h s u)).2:=((ht.c.mul by1).add (ht.d.mul bu)).mono (by omega)
 exact (y1.add (bT.mul y2)).mono (by omega)
theorem eF (ps:List Pc)(h s u T:Rat):(BP ps (Ce h s u)).1+T * (BP ps (Ce h s u)).2=hgt (tabOf ps) h s u T:=by
 rw [cA];rfl
def mn (p q:Rat):Rat:=if q < p then q else p
def mx (p q:Rat):Rat:=if q < p then p else q
theorem bU (u p q:Rat):u < mn p q↔u < p/\u < q:=by unfold mn;split<;>grind
theorem Xc (u p q:Rat):mn p q < u↔p < u\/q < u:=by unfold mn;split<;>grind
theorem cP (u p q:Rat):mx p q < u↔p < u/\q < u:=by unfold mx;split<;>grind
theorem Vz (u p q:Rat):u < mx p q↔u < p\/u < q:=by unfold mx;split<;>grind
def Et (l:Lim)(h s f g:Rat):Option (Rat×Rat):=
 if l.a * s+l.b=0 then (if ¬ 0 < l.lo - l.a * h/\¬ l.hi - l.a * h < 0 then some (f,g) else none)
 else if mn g (mx ((l.lo - l.a * h) / (l.a * s+l.b)) ((l.hi - l.a * h) / (l.a * s+l.b))) < mx f (mn ((l.lo - l.a * h) / (l.a * s+l.b)) ((l.hi - l.a * h) / (l.a * s+l.b))) then none
 else some (mx f (mn ((l.lo - l.a * h) / (l.a * s+l.b)) ((l.hi - l.a * h) / (l.a * s+l.b))),mn g (mx ((l.lo - l.a * h) / (l.a * s+l.b)) ((l.hi - l.a * h) / (l.a * s+l.b))))
def GC (o:Option (Rat×Rat))(u:Rat):Prop:=∃f g,o=some (f,g)/\¬ u < f/\¬ g < u
theorem Fv (f g u:Rat):GC (some (f,g)) u↔¬ u < f/\¬ g < u:=⟨λ ⟨_,_,e,h⟩=>by cases e;exact h,λ h=>⟨f,g,rfl,h⟩⟩
theorem Kv (u:Rat):¬ GC none u:=λ ⟨_,_,e,_⟩=>by cases e
theorem lH (l:Lim)(h s u:Rat):l.bad (Ce h s u)=false↔¬ l.a * h+(l.a * s+l.b) * u < l.lo/\¬ l.hi < l.a * h+(l.a * s+l.b) * u:=by
 have e:l.a * (Ce h s u).1+l.b * (Ce h s u).2=l.a * h+(l.a * s+l.b) * u:=by
  show l.a * (h+s * u)+l.b * u=_
  grind
 unfold Lim.bad;rw [e,Bool.or_eq_false_iff,decide_eq_false_iff_not,decide_eq_false_iff_not]
theorem nY {x y r u:Rat}(h:¬ y < x)(hr:¬ r=0):(¬ u < mn (x / r) (y / r)/\¬ mx (x / r) (y / r) < u)↔¬ r * u < x/\¬ y < r * u:=by
 by_cases hp:0 < r
 ·have e1:u < x / r↔u * r < x:=Rat.lt_div_iff hp;have e2:y / r < u↔y < u * r:=Rat.div_lt_iff hp;have e3:u < y / r↔u * r < y:=Rat.lt_div_iff hp;have e4:x / r < u↔x < u * r:=Rat.div_lt_iff hp;rw [bU,cP,e1,e2,e3,e4]
  grind
 ·have hn:0 < -r:=by grind
  have q1:x / r=(-x) / (-r):=by grind
  have q2:y / r=(-y) / (-r):=by grind
  have e1:u < (-x) / (-r)↔u * -r < -x:=Rat.lt_div_iff hn;have e2:(-y) / (-r) < u↔-y < u * -r:=Rat.div_lt_iff hn;have e3:u < (-y) / (-r)↔u * -r < -y:=Rat.lt_div_iff hn;have e4:(-x) / (-r) < u↔-x < u * -r:=Rat.div_lt_iff hn;rw [q1,q2,bU,cP,e1,e2,e3,e4]
  grind
theorem xP {l:Lim}(ord:¬ l.hi < l.lo)(h s f g u:Rat):GC (Et l h s f g) u↔¬ u < f/\¬ g < u/\l.bad (Ce h s u)=false:=by
 rw [lH];unfold Et;by_cases hr:l.a * s+l.b=0
 ·rw [if_pos hr,hr];by_cases hc:¬ 0 < l.lo - l.a * h/\¬ l.hi - l.a * h < 0
  ·rw [if_pos hc,Fv];grind
  ·rw [if_neg hc];refine ⟨λ z=>absurd z (Kv u),λ z=>absurd ?_ hc⟩
   grind
 ·rw [if_neg hr];have k:=nY (x:=l.lo - l.a * h) (y:=l.hi - l.a * h) (r:=l.a * s+l.b) (u:=u) (by grind) hr
  generalize (l.lo - l.a * h) / (l.a * s+l.b)=e0 at k;generalize (l.hi - l.a * h) / (l.a * s+l.b)=e1 at k;have k2:(¬ (l.a * s+l.b) * u < l.lo - l.a * h/\¬ l.hi - l.a * h < (l.a * s+l.b) * u)↔(¬ l.a * h+(l.a * s+l.b) * u < l.lo/\¬ l.hi < l.a * h+(l.a * s+l.b) * u):=by grind
  rw [<- k2,<- k];by_cases hc:mn g (mx e0 e1) < mx f (mn e0 e1)
  ·rw [if_pos hc];refine ⟨λ z=>absurd z (Kv u),λ ⟨a,b,c,d⟩=>absurd hc ?_⟩
   rw [Xc,Vz,Vz]
   grind
  ·rw [if_neg hc,Fv,Vz,Xc]
   grind
def Dr:List Lim->Rat->Rat->Rat->Rat->Option (Rat×Rat)
 | [],_,_,f,g=>some (f,g)
 | l::ls,h,s,f,g=>match Et l h s f g with
  | none=>none
  | some (f',g')=>Dr ls h s f' g'
theorem Zu:∀{ls:List Lim},(∀l∈ls,¬ l.hi < l.lo)->∀(h s f g u:Rat),GC (Dr ls h s f g) u↔¬ u < f/\¬ g < u/\∀l∈ls,l.bad (Ce h s u)=false
 | [],_,h,s,f,g,u=>by
  show GC (some (f,g)) u↔_;rw [Fv];exact ⟨λ ⟨a,b⟩=>⟨a,b,λ _ h=>nomatch h⟩,λ ⟨a,b,_⟩=>⟨a,b⟩⟩
 | l::ls,ho,h,s,f,g,u=>by
  have ib:=xP (ho l List.mem_cons_self) h s f g u;have ho':∀l∈ls,¬ l.hi < l.lo:=λ l hl=>ho l (List.mem_cons_of_mem _ hl)
  show GC (match Et l h s f g with | none=>none | some (f',g')=>Dr ls h s f' g') u↔_
  cases e:Et l h s f g with
  | none=>
   rw [e] at ib;refine ⟨λ z=>absurd z (Kv u),λ ⟨a,b,c⟩=>absurd (ib.mpr ⟨a,b,c l List.mem_cons_self⟩) (Kv u)⟩
  | some p=>
   obtain ⟨f',g'⟩:=p;rw [e,Fv] at ib;have io:=Zu ho' h s f' g' u;refine io.trans ⟨λ ⟨a,b,c⟩=>?_,λ ⟨a,b,c⟩=>?_⟩
   ·obtain ⟨x,y,z⟩:=ib.mp ⟨a,b⟩;refine ⟨x,y,λ l' hl'=>?_⟩
    rcases List.mem_cons.mp hl' with rfl | hl'
    ·exact z
    ·exact c l' hl'
   ·obtain ⟨x,y⟩:=ib.mpr ⟨a,b,c l List.mem_cons_self⟩;exact ⟨x,y,λ l' hl'=>c l' (List.mem_cons_of_mem _ hl')⟩
theorem Y6 (r:Aa):∀ls:List Lim,GJ ls r=none↔∀l∈ls,l.bad r=false
 | []=>⟨(λ _ _ h=>nomatch h),λ _=>rfl⟩
 | l::ls=>by
  show (if l.bad r=true then some l.k else GJ ls r)=none↔_
  cases h:l.bad r with
  | true=>
   rw [if_pos rfl];refine ⟨(λ z=>nomatch z),λ z=>?_⟩
   rw [z l List.mem_cons_self] at h;cases h
  | false=>
   rw [if_neg Bool.false_ne_true,Y6 r ls];refine ⟨λ z l' hl'=>?_,λ z l' hl'=>z l' (List.mem_cons_of_mem _ hl')⟩
   rcases List.mem_cons.mp hl' with rfl | hl'
   ·exact h
   ·exact z l' hl'
theorem cR:∀(ps:List Pc) (i:Nat) (h s:Aa),(∀p∈ps,p.ok)->∀l∈CW i ps h s,¬ l.hi < l.lo
 | [],i,h,s,_=>λ l hl=>nomatch hl
 | p::ps,i,h,s,hk=>λ l hl=>by
  rcases List.mem_append.mp hl with h1 | h1
  ·cases p with
   | gap d=>cases h1
   | glass d=>cases h1
   | stop lo hi=>
    cases List.mem_singleton.mp h1
    exact hk _ List.mem_cons_self
  ·exact cR ps (i+1) _ _ (λ q hq=>hk q (List.mem_cons_of_mem _ hq)) l h1
theorem aB {ps:List Pc}(hk:∀p∈ps,p.ok)(h s f g u:Rat):GC (Dr (Ba ps) h s f g) u↔¬ u < f/\¬ g < u/\(walk ps (Ce h s u)).2=none:=by
 rw [Zu (ls:=Ba ps) (cR ps 0 e1 e2 hk),<- aF,Y6]
def Ew (ls:List Lim)(h s:Rat):List Rat:=ls.flatMap λ l=>if l.a * s+l.b=0 then [] else [(l.lo - l.a * h) / (l.a * s+l.b),(l.hi - l.a * h) / (l.a * s+l.b)]
theorem UT (p q:Rat):mn p q=p\/mn p q=q:=by unfold mn;split<;>simp
theorem SM (p q:Rat):mx p q=p\/mx p q=q:=by unfold mx;split<;>simp
theorem Xv {l:Lim}{h s f g f' g':Rat}(e:Et l h s f g=some (f',g')):f'∈f::Ew [l] h s/\g'∈g::Ew [l] h s/\(¬ g < f->¬ g' < f'):=by
 unfold Et at e;have eq:Ew [l] h s=if l.a * s+l.b=0 then [] else [(l.lo - l.a * h) / (l.a * s+l.b),(l.hi - l.a * h) / (l.a * s+l.b)]:=by unfold Ew;simp
 rw [eq];by_cases hr:l.a * s+l.b=0
 ·rw [if_pos hr] at e ⊢
  split at e
  ·cases e;exact ⟨by simp,by simp,λ h=>h⟩
  ·cases e
 ·rw [if_neg hr] at e ⊢;generalize (l.lo - l.a * h) / (l.a * s+l.b)=e0 at e ⊢;generalize (l.hi - l.a * h) / (l.a * s+l.b)=e1 at e ⊢
  split at e
  ·cases e
  ·rename_i hc
   injection e with e
   injection e with ef eg
   subst ef eg;refine ⟨?_,?_,λ _=>hc⟩
   ·rcases SM f (mn e0 e1) with z | z
    ·rw [z];simp
    ·rw [z];rcases UT e0 e1 with z | z<;>rw [z]<;>simp
   ·rcases UT g (mx e0 e1) with z | z
    ·rw [z];simp
    ·rw [z];rcases SM e0 e1 with z | z<;>rw [z]<;>simp
theorem Vi:∀{ls:List Lim} {h s f g f' g':Rat},Dr ls h s f g=some (f',g')->f'∈f::Ew ls h s/\g'∈g::Ew ls h s/\(¬ g < f->¬ g' < f')
 | [],h,s,f,g,f',g',e=>by
  have e:some (f,g)=some (f',g'):=e;cases e
  exact ⟨by simp,by simp,λ h=>h⟩
 | l::ls,h,s,f,g,f',g',e=>by
  have e:(match Et l h s f g with | none=>none | some (x,y)=>Dr ls h s x y)=some (f',g'):=e
  have eq:Ew (l::ls) h s=Ew [l] h s++Ew ls h s:=by unfold Ew;simp
  rw [eq];cases e1:Et l h s f g with
  | none=>rw [e1] at e;cases e
  | some p=>
   obtain ⟨x,y⟩:=p;rw [e1] at e;obtain ⟨a,b,c⟩:=Xv e1;obtain ⟨a2,b2,c2⟩:=Vi e;refine ⟨?_,?_,λ z=>c2 (c z)⟩
   ·rcases List.mem_cons.mp a2 with rfl | h
    ·rcases List.mem_cons.mp a with rfl | h
     ·exact List.mem_cons_self
     ·exact List.mem_cons_of_mem _ (List.mem_append_left _ h)
    ·exact List.mem_cons_of_mem _ (List.mem_append_right _ h)
   ·rcases List.mem_cons.mp b2 with rfl | h
    ·rcases List.mem_cons.mp b with rfl | h
     ·exact List.mem_cons_self
     ·exact List.mem_cons_of_mem _ (List.mem_append_left _ h)
    ·exact List.mem_cons_of_mem _ (List.mem_append_right _ h)
theorem Yz {ls:List Lim}{h s:Rat}{n m:Nat}(hl:∀l∈ls,LimOk n l)(bh:Bd m h)(bs:Bd m s):∀q∈Ew ls h s,Bd (4 * n+2 * m+2) q:=by
 intro q hq;unfold Ew at hq;obtain ⟨l,hl',hq⟩:=List.mem_flatMap.mp hq;obtain ⟨ba,bb,blo,bhi,_⟩:=hl l hl';by_cases hr:l.a * s+l.b=0
 ·rw [if_pos hr] at hq;cases hq
 ·rw [if_neg hr] at hq;have br:=(ba.mul bs).add bb;simp only [List.mem_cons,List.not_mem_nil,or_false] at hq;rcases hq with rfl | rfl
  ·exact ((blo.sub (ba.mul bh)).div br hr).mono (by omega)
  ·exact ((bhi.sub (ba.mul bh)).div br hr).mono (by omega)
def YC:Option (Rat×Rat)->PyData
 | none=>.none
 | some (f,g)=>pairD f g
def uQ:List PyData->PyData->Prop:=λ ds d=>∃p q,ds=[Af p,Af q]/\Sm p/\Sm q/\d=Af (mn p q)
def iy:List PyData->PyData->Prop:=λ ds d=>∃p q,ds=[Af p,Af q]/\Sm p/\Sm q/\d=Af (mx p q)
theorem Ve (p q:Rat):Jj p q=pairD (mn p q) (mx p q):=by
 unfold Jj mn mx
 split<;>rfl
def mQ:List PyData->PyData->Prop:=λ ds d=>∃l h s f g n m B,ds=[Dj l,pairD h s,Af f,Af g]/\LimOk n l/\Bd m h/\Bd m s/\Bd B f/\Bd B g/\4 * n+2 * m+2<=B/\B<=3900/\d=YC (Et l h s f g)
def jc:List PyData->PyData->Prop:=λ ds d=>∃f g,ds=[Af f,Af g]/\Sm f/\Sm g/\¬ g < f/\d=.none
def wZ:List PyData->PyData->Prop:=λ ds d=>∃ps h s f g n m B,ds=[Dz ps,pairD h s,Af f,Af g]/\Good n ps/\Bd m h/\Bd m s/\Bd B f/\Bd B g/\¬ g < f/\4 * (2+ps.length * (n+1)+n)+2 * m+2<=B/\B<=3900/\d=YC (Dr (Ba ps) h s f g)
theorem jJ {ls:List Lim}{i:Nat}{l:Lim}(hl:ls[i]?=some l)(h s f g:Rat):Dr (ls.drop i) h s f g=match Et l h s f g with | none=>none | some (f',g')=>Dr (ls.drop (i+1)) h s f' g':=by
 obtain ⟨hi,e⟩:=List.getElem?_eq_some_iff.mp hl;rw [show ls.drop i=l::ls.drop (i+1) by rw [<- e];exact List.drop_eq_getElem_cons hi]
 rfl
theorem j8 {K:FrG}{H:Hp}{x y:V}{n:Nat}{ds:List PyData}{Q:VK}(hx:DV K H x (.list ds))(hy:DV K H y (.list []))(f:Flat n (.list ds))(k:Q (.bl ds.isEmpty) H)(hn:n<=64:=by decide):Ot K x y H Q:=by
 refine ⟨_,_,hx,hy,f.sh hn,flat_nil.sh (by decide),?_⟩
 have e:PyData.eqv (.list ds) (.list [])=ds.isEmpty:=by
  cases ds with
  | nil=>rfl
  | cons d ds=>simp [PyData.eqv,PyData.eqvAll]
 rw [e];exact k
end Lib
namespace L2
open PySem PySem.Spec PyProof.Rows PySem.Builtin
end L2
namespace Lib
open PySem L2 Fr Op
def JK:Option (Rat×Rat)->Rat->Bool
 | none,_=>false
 | some (f,g),u=>!decide (u < f) && !decide (g < u)
theorem Lr (o:Option (Rat×Rat))(u:Rat):JK o u=true↔GC o u:=by
 match o with
 | none=>exact ⟨(λ h=>by unfold JK at h;cases h),(λ h=>absurd h (Kv u))⟩
 | some (f,g)=>
  rw [Fv];unfold JK;rw [Bool.and_eq_true,Bool.not_eq_true',Bool.not_eq_true',decide_eq_false_iff_not,decide_eq_false_iff_not]
def pq (n:Nat)(o:Option (Rat×Rat)):Prop:=∀f g,o=some (f,g)->Bd n f/\Bd n g
theorem S9 {ps:List Pc}(hk:∀p∈ps,p.ok)(h s:Rat){f g u:Rat}(h1:¬ u < f)(h2:¬ g < u):JK (Dr (Ba ps) h s f g) u=(walk ps (Ce h s u)).2.isNone:=by
 rw [Bool.eq_iff_iff,Lr,aB hk,Option.isNone_iff_eq_none];exact ⟨λ z=>z.2.2,λ z=>⟨h1,h2,z⟩⟩
theorem gY {ps:List Pc}(hk:∀p∈ps,p.ok)(h s:Rat){f g f' g':Rat}(ord:¬ g < f)(e:Dr (Ba ps) h s f g=some (f',g')):JK (some (f,g)) f'=true/\JK (some (f,g)) g'=true/\¬ g' < f':=by
 obtain ⟨_,_,c⟩:=Vi e;have hc:=c ord;have a:GC (Dr (Ba ps) h s f g) f':=by rw [e,Fv];exact ⟨by grind,hc⟩
 have b:GC (Dr (Ba ps) h s f g) g':=by rw [e,Fv];exact ⟨hc,by grind⟩
 rw [aB hk] at a b;rw [Lr,Lr,Fv,Fv];exact ⟨⟨a.1,a.2.1⟩,⟨b.1,b.2.1⟩,hc⟩
end Lib
namespace L2
open PySem PySem.Spec PyProof.Rows PySem.Builtin
theorem Xj {prog:Program}{w:World}{A:Around}{E:Value->Shared->Prop}{s:Shared}{it t:Addr}{i:Nat}{items:Array Value}{x:Value}{Q:Value->Shared->Prop}
  (hit:s.heap.IsTupleIter it t i) (ht:s.heap.IsTuple t items) (hx:items[i]?=some x) (hQ:∀h',h'.IsTupleIter it t (i+1)->Heap.SameBut it s.heap h'->Q x { s with heap:=h' }):
  wpAny (model prog w) A (Builtin.SmallTypes.nextOf (.ref it)) Q E s:=by
 obtain ⟨o,ho,hc,hd⟩:=id hit;obtain ⟨ol,hol,_,nl,hdl⟩:=ht;unfold Builtin.SmallTypes.nextOf;refine wpAny_bind (wpAny_callSpecial?_slot hit.typeIs PySem.F.slot_tuple_iterator_next (wpAny_call_entry PySem.F.slot_tuple_iterator_next hit.typeIs PySem.F.entry_tuple_iterator_next ?_ (PySem.F.args_tuple_iterator_next_1 (.ref it))));show wpAny (model prog w) A.in1 (field (.ref it) 0 >>= _) _ _ s;refine wpAny_bind (wpAny_field ho hd rfl ?_);dsimp only
 rw [if_neg (by exact Bool.false_ne_true)]
 refine wpAny_bind (wpAny_field ho hd rfl ?_);refine wpAny_bind (wpAny_seqItems hol hdl ?_);simp only [Int.toNat_natCast,hx];refine wpAny_bind (wpAny_setField (i:=1) ho hd ?_ ?_)
 ·show 1 < 2
  decide
 refine wpAny_pure ⟨x,rfl,?_⟩;have hd2:=Obj.data_mapFields hd λ x:Array Value=>x.setIfInBounds 1 (rawInt ((i:Int)+1))
 have hc2:=(Obj.cls_mapFields o λ x:Array Value=>x.setIfInBounds 1 (rawInt ((i:Int)+1))).trans hc
 have hg2:=Heap.get?_update_self (Obj.mapFields λ x:Array Value=>x.setIfInBounds 1 (rawInt ((i:Int)+1))) ho (Obj.isFreed_of_fields hd2)
 have hs2:=Heap.SameBut.update s.heap it (Obj.mapFields λ x:Array Value=>x.setIfInBounds 1 (rawInt ((i:Int)+1)))
 have e:(#[Value.ref t,Value.int (i:Int) 0]:Array Value).setIfInBounds 1 (rawInt ((i:Int)+1))=#[Value.ref t,Value.int ((i+1:Nat):Int) 0]:=by
  simp [rawInt]
 rw [e] at hd2;exact wpAny_pure (hQ _ ⟨_,hg2,hc2,hd2⟩ hs2)
theorem qQ {prog:Program}{w:World}{A:Around}{E:Value->Shared->Prop}{s:Shared}{α:Type}{Q:α->Shared->Prop}(hh:A.handled=none)
  (hE:∀h' e,(∀b o,s.heap.get? b=some o->h'.get? b=some o)->(∃o,h'.get? e=some o/\o.cls=.type "StopIteration")->E (.ref e) { s with heap:=h' }):
  wpAny (model prog w) A (Builtin.SmallTypes.stopIteration:Sem α) Q E s:=by
 unfold Builtin.SmallTypes.stopIteration newExc;refine wpAny_bind (wpAny_bind (wpAny_newObj_type ?_));refine wpAny_bind (wpAny_of_eq (Eq.refl (firstArgMember (.type "StopIteration") [])) ?_);refine wpAny_newObj_type ?_ (sizeOk_excFields _ _ _ _ _ _ _ _);exact wpAny_raiseNew_none hh (hE _ _ (λ b o e=>Heap.get?_push_of_some _ (Heap.get?_push_of_some _ e)) ⟨_,Heap.get?_push_size _ rfl,rfl⟩)
theorem qZ {prog:Program}{w:World}{A:Around}{E:Value->Shared->Prop}{s:Shared}{it t:Addr}{i:Nat}{items:Array Value}{Q:Value->Shared->Prop}(hh:A.handled=none)
  (hit:s.heap.IsTupleIter it t i) (ht:s.heap.IsTuple t items) (hx:items[i]?=none) (hE:∀h' e,Heap.ExtBut it s.heap h'->(∃o,h'.get? e=some o/\o.cls=.type "StopIteration")->E (.ref e) { s with heap:=h' }):
  wpAny (model prog w) A (Builtin.SmallTypes.nextOf (.ref it)) Q E s:=by
 obtain ⟨o,ho,hc,hd⟩:=id hit;obtain ⟨ol,hol,_,nl,hdl⟩:=ht;unfold Builtin.SmallTypes.nextOf;refine wpAny_bind (wpAny_callSpecial?_slot hit.typeIs PySem.F.slot_tuple_iterator_next (wpAny_call_entry PySem.F.slot_tuple_iterator_next hit.typeIs PySem.F.entry_tuple_iterator_next ?_ (PySem.F.args_tuple_iterator_next_1 (.ref it))));show wpAny (model prog w) A.in1 (field (.ref it) 0 >>= _) _ _ s;refine wpAny_bind (wpAny_field ho hd rfl ?_);dsimp only
 rw [if_neg (by exact Bool.false_ne_true)]
 refine wpAny_bind (wpAny_field ho hd rfl ?_);refine wpAny_bind (wpAny_seqItems hol hdl ?_);simp only [Int.toNat_natCast,hx];refine wpAny_bind (wpAny_rule ?_);refine wpAny_bind (wpAny_setField (i:=0) ho hd ?_ ?_)
 ·show 0 < 2
  decide
 have hs2:=Heap.SameBut.update s.heap it (Obj.mapFields λ x:Array Value=>x.setIfInBounds 0 .none)
 generalize s.heap.update it (Obj.mapFields λ x:Array Value=>x.setIfInBounds 0 .none)=h1 at hs2 ⊢
 refine qQ hh λ h' e k ho'=>hE h' e (λ b o nb eb=>k b o (hs2.extBut b o nb eb)) ho'
def Ly (z TO i1 i2:Addr)(h h':Heap):Prop:=∀c o,c≠z->c≠TO->c≠i1->c≠i2->h.get? c=some o->h'.get? c=some o
section
variable {prog:Program}{w:World}{A:Around}{E:Value->Shared->Prop}{s:Shared}
variable {z TI TO i1 i2 a1 a2:Addr}{n1 n2:Nat}{us vs:Array Value}{u v p q:Value}
theorem wI {Q:Value->Shared->Prop}(Z:ZipApart z TI TO i1 i2 a1 a2)
  (e0:IsZip s.heap z TI TO .none) (eI:IsPair s.heap TI (.ref i1) (.ref i2)) (eO:IsPair s.heap TO p q)
  (j1:s.heap.IsTupleIter i1 a1 n1) (j2:s.heap.IsTupleIter i2 a2 n2) (t1:s.heap.IsTuple a1 us) (t2:s.heap.IsTuple a2 vs) (hu:us[n1]?=some u) (hv:vs[n2]?=some v)
  (R:∀h',IsZip h' z TI TO (rawInt s.heap.objs.size)->IsPair h' TO u v->h'.IsTupleIter i1 a1 (n1+1)->h'.IsTupleIter i2 a2 (n2+1)->IsPair h' s.heap.objs.size u v->h'.objs.size=s.heap.objs.size+1->Ly z TO i1 i2 s.heap h'->Q (.ref s.heap.objs.size) { s with heap:=h' }):
  wpAny (model prog w) A (Builtin.«zip.__next__» ⟨[.ref z],[]⟩) (λ fin s'=>∃v,fin=.done (.ret v)/\Q v s') E s:=by
 show wpAny _ A (field (.ref z) 2 >>= _) _ E s;refine wpAny_bind (wpAny_field (x:=.bool false) e0 rfl rfl ?_);show wpAny _ A (field (.ref z) 3 >>= _) _ E s;refine wpAny_bind (wpAny_field (x:=.ref TI) e0 rfl rfl (wpAny_bind (wpAny_seqItems eI rfl ?_)));show wpAny _ A (Builtin.SmallTypes.ownedTupleIsFree (.ref z) >>= _) _ E s;unfold Builtin.SmallTypes.ownedTupleIsFree;refine wpAny_bind (wpAny_bind (wpAny_field (x:=.none) e0 rfl rfl (wpAny_pure ?_)));simp only [if_true];refine wpAny_bind (wpAny_rule (wpAny_bind (wpAny_field (x:=.ref TO) e0 rfl rfl ?_)));refine wpAny_bind (wpAny_setField_rec e0 (by simp) λ g1 f1 b1=>?_)
 replace f1:IsZip g1 z TI TO .ellipsis:=f1
 simp only [List.zipIdx_cons,List.zipIdx_nil,List.forIn_cons,List.forIn_nil];refine wpAny_bind (wpAny_bind (wpAny_bind (wpAny_onRaise ?_)));show wpAny _ A (Builtin.SmallTypes.nextOf (.ref i1) >>= _) _ _ _;refine wpAny_bind (Xj (j1.extBut b1.extBut Z.i1z) (t1.extBut b1.extBut Z.l1z) hu λ g2 k2 b2=>wpAny_pure ?_)
 have o2:IsPair g2 TO p q:=b2.extBut _ _ Z.TOi1 (b1.extBut _ _ Z.TOz eO);refine wpAny_bind (wpAny_seqItems o2 rfl (wpAny_bind (wpAny_updateSeq_pair o2 λ g3 o3 b3=>?_)))
 replace o3:IsPair g3 TO u q:=o3
 refine wpAny_bind (wpAny_letGo (wpAny_pure (wpAny_bind (wpAny_bind (wpAny_onRaise ?_)))));show wpAny _ A (Builtin.SmallTypes.nextOf (.ref i2) >>= _) _ _ _;refine wpAny_bind (Xj (((j2.extBut b1.extBut Z.i2z).extBut b2.extBut Z.i12.symm).extBut b3.extBut Z.TOi2.symm) (((t2.extBut b1.extBut Z.l2z).extBut b2.extBut Z.l2i1).extBut b3.extBut Z.l2TO) hv λ g4 k4 b4=>wpAny_pure ?_)
 have o4:IsPair g4 TO u q:=b4.extBut _ _ Z.TOi2 o3;refine wpAny_bind (wpAny_seqItems o4 rfl (wpAny_bind (wpAny_updateSeq_pair o4 λ g5 o5 b5=>?_)))
 replace o5:IsPair g5 TO u v:=o5
 refine wpAny_bind (wpAny_letGo (wpAny_pure (wpAny_pure (wpAny_bind (wpAny_seqItems o5 rfl (wpAny_bind (wpAny_newTuple ?_)))))));have sz:g5.objs.size=s.heap.objs.size:=by rw [b5.1,b4.1,b3.1,b2.1,b1.1]
 have f5:IsZip g5 z TI TO .ellipsis:=b5.extBut _ _ Z.TOz.symm (b4.extBut _ _ Z.i2z.symm (b3.extBut _ _ Z.TOz.symm (b2.extBut _ _ Z.i1z.symm f1)));have st:Ly z TO i1 i2 s.heap g5:=λ c o c1 c2 c3 c4 e=>b5.extBut _ _ c2 (b4.extBut _ _ c4 (b3.extBut _ _ c2 (b2.extBut _ _ c3 (b1.extBut _ _ c1 e))))
 have k5:g5.IsTupleIter i1 a1 (n1+1):=((k2.extBut b3.extBut Z.TOi1.symm).extBut b4.extBut Z.i12).extBut b5.extBut Z.TOi1.symm;have l5:g5.IsTupleIter i2 a2 (n2+1):=k4.extBut b5.extBut Z.TOi2.symm;have zl:z < g5.objs.size:=Heap.lt_size f5;show wpAny _ A (Builtin.SmallTypes.ownedTupleHandOut (.ref z) (.ref g5.objs.size) >>= _) _ _ _;unfold Builtin.SmallTypes.ownedTupleHandOut;have f6:IsZip (g5.push { cls:=.type "tuple",data:=.seq #[u,v] }) z TI TO .ellipsis:=Heap.get?_push_of_some _ f5;refine wpAny_bind (wpAny_bind (wpAny_setField_rec f6 (by simp) λ g7 f7 b7=>?_))
 replace f7:IsZip g7 z TI TO (rawInt g5.objs.size):=f7
 refine wpAny_setField_rec f7 (by simp) λ g8 f8 b8=>wpAny_pure ⟨_,rfl,?_⟩
 replace f8:IsZip g8 z TI TO (rawInt g5.objs.size):=f8
 have lift:∀c o,c≠z->g5.get? c=some o->g8.get? c=some o:=λ c o c1 e=>b8.extBut _ _ c1 (b7.extBut _ _ c1 (Heap.get?_push_of_some _ e))
 have pr:IsPair g8 g5.objs.size u v:=b8.extBut _ _ (Nat.ne_of_gt zl) (b7.extBut _ _ (Nat.ne_of_gt zl) (Heap.get?_push_size _ rfl));have s8:g8.objs.size=g5.objs.size+1:=by rw [b8.1,b7.1,Heap.size_push]
 rw [sz] at f8 pr s8;show Q (.ref g5.objs.size) _;rw [sz];exact R g8 f8 (lift _ _ Z.TOz o5) (k5.at λ o e=>lift _ o Z.i1z e) (l5.at λ o e=>lift _ o Z.i2z e) pr s8 λ c o c1 c2 c3 c4 e=>lift c o c1 (st c o c1 c2 c3 c4 e)
theorem lE {Q:Fin->Shared->Prop}(hh:A.handled=none)(Z:ZipApart z TI TO i1 i2 a1 a2)
  (e0:IsZip s.heap z TI TO .none) (eI:IsPair s.heap TI (.ref i1) (.ref i2)) (j1:s.heap.IsTupleIter i1 a1 n1) (t1:s.heap.IsTuple a1 us) (hu:us[n1]?=none)
  (R:∀h' e,Ly z TO i1 i2 s.heap h'->(∃o,h'.get? e=some o/\o.cls=.type "StopIteration")->E (.ref e) { s with heap:=h' }):
  wpAny (model prog w) A (Builtin.«zip.__next__» ⟨[.ref z],[]⟩) Q E s:=by
 show wpAny _ A (field (.ref z) 2 >>= _) _ E s;refine wpAny_bind (wpAny_field (x:=.bool false) e0 rfl rfl ?_);show wpAny _ A (field (.ref z) 3 >>= _) _ E s;refine wpAny_bind (wpAny_field (x:=.ref TI) e0 rfl rfl (wpAny_bind (wpAny_seqItems eI rfl ?_)));show wpAny _ A (Builtin.SmallTypes.ownedTupleIsFree (.ref z) >>= _) _ E s;unfold Builtin.SmallTypes.ownedTupleIsFree;refine wpAny_bind (wpAny_bind (wpAny_field (x:=.none) e0 rfl rfl (wpAny_pure ?_)));simp only [if_true];refine wpAny_bind (wpAny_rule (wpAny_bind (wpAny_field (x:=.ref TO) e0 rfl rfl ?_)));refine wpAny_bind (wpAny_setField_rec e0 (by simp) λ g1 f1 b1=>?_)
 replace f1:IsZip g1 z TI TO .ellipsis:=f1
 simp only [List.zipIdx_cons,List.zipIdx_nil,List.forIn_cons,List.forIn_nil];refine wpAny_bind (wpAny_bind (wpAny_bind (wpAny_onRaise ?_)));show wpAny _ A (Builtin.SmallTypes.nextOf (.ref i1) >>= _) _ _ _;refine wpAny_bind (qZ hh (j1.extBut b1.extBut Z.i1z) (t1.extBut b1.extBut Z.l1z) hu λ g2 e b2 he=>?_)
 obtain ⟨oe,hoe,hce⟩:=he;have f2:IsZip g2 z TI TO .ellipsis:=b2 _ _ Z.i1z.symm f1;have ez:e≠z:=λ x=>by
  subst x;rw [f2] at hoe;cases hoe
  simp at hce
 refine wpAny_setField_rec f2 (by simp) λ g3 _ b3=>R g3 e (λ c o c1 _ c3 _ x=>b3.extBut _ _ c1 (b2 _ _ c3 (b1.extBut _ _ c1 x))) ⟨oe,b3.extBut _ _ ez hoe,hce⟩
theorem vJ {Q:Option Value->Shared->Prop}(Z:ZipApart z TI TO i1 i2 a1 a2)
  (e0:IsZip s.heap z TI TO .none) (eI:IsPair s.heap TI (.ref i1) (.ref i2)) (eO:IsPair s.heap TO p q)
  (j1:s.heap.IsTupleIter i1 a1 n1) (j2:s.heap.IsTupleIter i2 a2 n2) (t1:s.heap.IsTuple a1 us) (t2:s.heap.IsTuple a2 vs) (hu:us[n1]?=some u) (hv:vs[n2]?=some v)
  (R:∀h',IsZip h' z TI TO (rawInt s.heap.objs.size)->IsPair h' TO u v->h'.IsTupleIter i1 a1 (n1+1)->h'.IsTupleIter i2 a2 (n2+1)->IsPair h' s.heap.objs.size u v->h'.objs.size=s.heap.objs.size+1->Ly z TO i1 i2 s.heap h'->Q (some (.ref s.heap.objs.size)) { s with heap:=h' }):
  wpAny (model prog w) A (pyNext (.ref z)) Q E s:=by
 have ty:s.TypeIs (.ref z) "zip":=⟨_,e0,rfl⟩;unfold pyNext;refine wpAny_bind (wpAny_attempt (wpAny_callSpecial?_slot (name:=Str.ofString "__next__") ty F.slot_zip_next (wpAny_call_entry F.slot_zip_next ty F.entry_zip_next ?_ (F.args_zip_next_1 _))));exact wI Z e0 eI eO j1 j2 t1 t2 hu hv λ h' r1 r2 r3 r4 r5 r6 r7=>wpAny_pure (R h' r1 r2 r3 r4 r5 r6 r7)
theorem xV {Q:Option Value->Shared->Prop}(hh:A.handled=none)(Z:ZipApart z TI TO i1 i2 a1 a2)
  (e0:IsZip s.heap z TI TO .none) (eI:IsPair s.heap TI (.ref i1) (.ref i2)) (j1:s.heap.IsTupleIter i1 a1 n1) (t1:s.heap.IsTuple a1 us) (hu:us[n1]?=none)
  (R:∀h',Ly z TO i1 i2 s.heap h'->Q none { s with heap:=h' }):wpAny (model prog w) A (pyNext (.ref z)) Q E s:=by
 have ty:s.TypeIs (.ref z) "zip":=⟨_,e0,rfl⟩;unfold pyNext;refine wpAny_bind (wpAny_attempt (wpAny_callSpecial?_slot (name:=Str.ofString "__next__") ty F.slot_zip_next (wpAny_call_entry F.slot_zip_next ty F.entry_zip_next ?_ (F.args_zip_next_1 _))));refine lE hh Z e0 eI j1 t1 hu λ h' e st ⟨oe,he,hce⟩=>?_
 exact wpAny_bind (wpAny_isInstance (T:="StopIteration") (b:=true) ⟨oe,he,hce⟩ isSubtype_stop (wpAny_pure (R _ st)))
abbrev Fz (h:Heap)(a1:Addr):Heap:=h.push { cls:=.type "tuple_iterator",data:=.fields #[.ref a1,.int 0 0] }
abbrev Gk (h:Heap)(a1 a2:Addr):Heap:=(Fz h a1).push { cls:=.type "tuple_iterator",data:=.fields #[.ref a2,.int 0 0] }
abbrev Ow (h:Heap)(a1 a2:Addr):Heap:=(Gk h a1 a2).push { cls:=.type "tuple",data:=.seq #[.ref h.objs.size,.ref (Fz h a1).objs.size] }
abbrev Ma (h:Heap)(a1 a2:Addr):Heap:=(Ow h a1 a2).push { cls:=.type "tuple",data:=.seq #[.none,.none] }
abbrev Iw (h:Heap)(a1 a2:Addr):Heap:=(Ma h a1 a2).push { cls:=.type "zip",data:=.fields #[.none,.bool false,.bool false,.ref (Gk h a1 a2).objs.size,.ref (Ow h a1 a2).objs.size] }
theorem f9 (a1 a2:Addr)(us vs:Array Value):
  Meets (Builtin.«zip.__new__» ⟨[.type "zip",.ref a1,.ref a2],[]⟩) (λ _ R s=>s.heap.IsTuple a1 us/\s.heap.IsTuple a2 vs/\R (.ok (.ret (.ref (Ma s.heap a1 a2).objs.size))) { s with heap:=Iw s.heap a1 a2 }):=
 .of_wp λ prog w A R s h=>by
  obtain ⟨hp,g,d,tk,os⟩:=s;obtain ⟨t1,t2,h⟩:=h;have sub:=sub_zip;have T1:Heap.IsTuple (Shared.heap ⟨hp,g,d,tk,os⟩) a1 us:=t1;have T2:Heap.IsTuple (Shared.heap ⟨hp.push { cls:=.type "tuple_iterator",data:=.fields #[.ref a1,.int 0 0] },g,d,tk,os⟩) a2 vs:=Heap.IsTuple.push t2 _
  wp_walk using wpAny_pyIter_tuple T1,wpAny_pyIter_tuple T2
  exact ⟨_,rfl,h⟩
theorem vN {Q:Value->Shared->Prop}(t1:s.heap.IsTuple a1 us)(t2:s.heap.IsTuple a2 vs)
  (R:∀h',IsZip h' (s.heap.objs.size+4) (s.heap.objs.size+2) (s.heap.objs.size+3) .none->IsPair h' (s.heap.objs.size+2) (.ref s.heap.objs.size) (.ref (s.heap.objs.size+1))->IsPair h' (s.heap.objs.size+3) .none .none->
   h'.IsTupleIter s.heap.objs.size a1 0->h'.IsTupleIter (s.heap.objs.size+1) a2 0->h'.objs.size=s.heap.objs.size+5->(∀c o,s.heap.get? c=some o->h'.get? c=some o)->Q (.ref (s.heap.objs.size+4)) { s with heap:=h' }):
  wpAny (model prog w) A (call (.type "zip") [.ref a1,.ref a2]) Q E s:=by
 refine callType_new F.called_zip (by decide) (F.typeCall_zip_2 _ _) (F.newCall_zip_2 _ _) (λ obj=>F.args_object_init_3 obj _ _) F.entry_zip_new (f9 a1 a2 us vs) ⟨t1,t2,?_⟩
 have y1:(Fz s.heap a1).objs.size=s.heap.objs.size+1:=Heap.size_push ..;have y2:(Gk s.heap a1 a2).objs.size=s.heap.objs.size+2:=by rw [Heap.size_push,y1]
 have y3:(Ow s.heap a1 a2).objs.size=s.heap.objs.size+3:=by rw [Heap.size_push,y2]
 have y4:(Ma s.heap a1 a2).objs.size=s.heap.objs.size+4:=by rw [Heap.size_push,y3]
 have y5:(Iw s.heap a1 a2).objs.size=s.heap.objs.size+5:=by rw [Heap.size_push,y4]
 have x5:(Iw s.heap a1 a2).get? (Ma s.heap a1 a2).objs.size=some _:=Heap.get?_push_size _ rfl;have x4:(Iw s.heap a1 a2).get? (Ow s.heap a1 a2).objs.size=some _:=Heap.get?_push_of_some _ (Heap.get?_push_size _ rfl);have x3:(Iw s.heap a1 a2).get? (Gk s.heap a1 a2).objs.size=some _:=Heap.get?_push_of_some _ (Heap.get?_push_of_some _ (Heap.get?_push_size _ rfl));have x2:(Iw s.heap a1 a2).get? (Fz s.heap a1).objs.size=some _:=Heap.get?_push_of_some _ (Heap.get?_push_of_some _ (Heap.get?_push_of_some _ (Heap.get?_push_size _ rfl)));have x1:(Iw s.heap a1 a2).get? s.heap.objs.size=some _:=Heap.get?_push_of_some _ (Heap.get?_push_of_some _ (Heap.get?_push_of_some _ (Heap.get?_push_of_some _ (Heap.get?_push_size _ rfl))));show _/\_;rw [y2,y3,y4] at x5;rw [y1,y2] at x3;rw [y3] at x4;rw [y1] at x2;rw [y4];exact ⟨⟨_,x5,rfl⟩,R _ x5 x3 x4 ⟨_,x1,rfl,rfl⟩ ⟨_,x2,rfl,rfl⟩ y5 λ c o x=>Heap.get?_push_of_some _ (Heap.get?_push_of_some _ (Heap.get?_push_of_some _ (Heap.get?_push_of_some _ (Heap.get?_push_of_some _ x))))⟩
end
def Ux (K:FrG)(a1 a2:Addr):It:=
 ⟨λ i H=>∃xs ys x y,SqT K H a1 xs/\SqT K H a2 ys/\xs[i]?=some x/\ys[i]?=some y,
   λ i H x H'=>∃p u v,H p=none/\x=.ref p/\(∀xs,SqT K H a1 xs->xs[i]?=some u)/\(∀ys,SqT K H a2 ys->ys[i]?=some v)/\H'=upd H p (.tup [u,v]),
   λ i H=>∃xs,SqT K H a1 xs/\xs.length<=i⟩
def TnZ (z TI TO i1 i2 a1 a2:Addr)(i:Nat)(h:Heap):Prop:=IsZip h z TI TO .none/\IsPair h TI (.ref i1) (.ref i2)/\(∃p q,IsPair h TO p q)/\h.IsTupleIter i1 a1 i/\h.IsTupleIter i2 a2 i
section
variable {z TI TO i1 i2 a1 a2:Addr}
theorem TnZ.obj {i:Nat}{h:Heap}(t:TnZ z TI TO i1 i2 a1 a2 i h)(b:Addr)(hb:b∈[z,TI,TO,i1,i2]):∃o,h.get? b=some o/\∀v,o.data≠.cell v:=by
 obtain ⟨t0,tI,⟨p,q,tO⟩,⟨o1,e1,c1,d1⟩,⟨o2,e2,c2,d2⟩⟩:=t;simp only [List.mem_cons,List.not_mem_nil,or_false] at hb;rcases hb with z | z | z | z | z
 ·rw [z];exact ⟨_,t0,λ v q=>by cases q⟩
 ·rw [z];exact ⟨_,tI,λ v q=>by cases q⟩
 ·rw [z];exact ⟨_,tO,λ v q=>by cases q⟩
 ·rw [z];exact ⟨o1,e1,λ v q=>by rw [d1] at q;cases q⟩
 ·rw [z];exact ⟨o2,e2,λ v q=>by rw [d2] at q;cases q⟩
theorem iW {P:Program}{w:World}{K:FrG}{elts:List Expr}{x1}{tpos:Pos}(Z:ZipApart z TI TO i1 i2 a1 a2):Turn P w K (.Tuple elts x1 tpos) (Ux K a1 a2) [z,TI,TO,i1,i2] z (TnZ z TI TO i1 i2 a1 a2) where
 mem:=by simp
 obj:=λ i h t b hb=>t.obj b hb
 keep:=λ i h h' ⟨t0,tI,⟨p,q,tO⟩,j1,j2⟩ k=>⟨k z (by simp) _ t0,k TI (by simp) _ tI,⟨p,q,k TO (by simp) _ tO⟩,j1.at λ o e=>k i1 (by simp) o e,j2.at λ o e=>k i2 (by simp) o e⟩
 item:=by
  intro X hP hw hK hc i pins s σ H E I hf t hg;have alive:=t.obj;obtain ⟨t0,tI,⟨p,q,tO⟩,j1,j2⟩:=t;subst hP hw hK;obtain ⟨xs,ys,x,y,hx,hy,gx,gy⟩:=hg;obtain ⟨us,rx,px,zx⟩:=I.tuple hx;obtain ⟨vs,ry,py,zy⟩:=I.tuple hy;obtain ⟨u,hu,ru⟩:=rx.get gx;obtain ⟨v,hv,rv⟩:=ry.get gy;have fz:=hf z (by simp)
  have fO:=hf TO (by simp)
  have f1:=hf i1 (by simp)
  have f2:=hf i2 (by simp)
  refine vJ Z t0 tI tO j1 j2 (show s.heap.IsTuple a1 us.toArray from px) (show s.heap.IsTuple a2 vs.toArray from py) (u:=u) (v:=v) (by simpa using hu) (by simpa using hv) λ h1 m0 mO m1 m2 mp msz mk=>?_
  refine ⟨_,rfl,?_⟩;refine wpAny_letOwnedTupleGo_zip m0 λ h2 n0 nb=>?_
  have nep:∀b o,s.heap.get? b=some o->b≠s.heap.objs.size:=λ b o q=>Nat.ne_of_lt (Heap.lt_size q)
  have k2:∀b o,b∉[z,TO,i1,i2]->s.heap.get? b=some o->h2.get? b=some o:=λ b o hb q=>
   nb.extBut b o (λ e=>hb (by simp [e])) (mk b o (λ e=>hb (by simp [e])) (λ e=>hb (by simp [e])) (λ e=>hb (by simp [e])) (λ e=>hb (by simp [e])) q)
  have nt:∀b o,H b=some o->b∉[z,TO,i1,i2]:=λ b o q hb=>by
   simp only [List.mem_cons,List.not_mem_nil,or_false] at hb;rcases hb with e | e | e | e
   ·rw [e,fz.1] at q;cases q
   ·rw [e,fO.1] at q;cases q
   ·rw [e,f1.1] at q;cases q
   ·rw [e,f2.1] at q;cases q
  have hp0:H s.heap.objs.size=none:=I.hok.fresh (Nat.le_refl _);have htp:h2.get? s.heap.objs.size=some { cls:=.type "tuple",data:=.seq #[u,v] }:=nb.extBut _ _ (Nat.ne_of_gt (Heap.lt_size t0)) mp;have J:Inv X pins σ (upd H s.heap.objs.size (.tup [x,y])) { s with heap:=h2 }:=by
   refine I.step (g':=s.gens) (d':=s.drawn) (t':=s.toks) (ch:=[z,TO,i1,i2]) (λ b hb=>?_) (λ b o _ _ hc' q n=>k2 b o hc' q) (λ b o _ _ hc' q n=>⟨o.slots,k2 b o hc' q⟩)
    (λ b o _ q n=>(Av (nep b o q)).trans n) (λ b o hc' q=>⟨o,k2 b o hc' q⟩)
    (λ b ys q=>(Av (Bm q hp0)).trans q) (λ b o y q=>(Av (Bm q hp0)).trans q) (λ b ps q=>⟨#[],by rw [Av (Bm q hp0),q];simp⟩) (λ m hm=>?_) (λ b o q=>?_) I.bare
   ·simp only [List.mem_cons,List.not_mem_nil,or_false] at hb;rcases hb with e | e | e | e
    ·rw [e];exact ⟨fz.2.2.2.1,fz.2.1,fz.2.2.2.2.1,fz.2.2.2.2.2⟩
    ·rw [e];exact ⟨fO.2.2.2.1,fO.2.1,fO.2.2.2.2.1,fO.2.2.2.2.2⟩
    ·rw [e];exact ⟨f1.2.2.2.1,f1.2.1,f1.2.2.2.2.1,f1.2.2.2.2.2⟩
    ·rw [e];exact ⟨f2.2.2.2.1,f2.2.1,f2.2.2.2.2.1,f2.2.2.2.2.2⟩
   ·obtain ⟨o,es,ep,ho,r⟩:=hm;refine ⟨o,es,ep,k2 _ o (λ hb=>?_) ho,r⟩
    simp only [List.mem_cons,List.not_mem_nil,or_false] at hb;rcases hb with e | e | e | e
    ·exact fz.2.1 e.symm
    ·exact fO.2.1 e.symm
    ·exact f1.2.1 e.symm
    ·exact f2.2.1 e.symm
   ·by_cases hb:b=s.heap.objs.size
    ·subst hb;rw [Aq] at q;cases q
     exact ⟨by show 2<=sizeLine;decide,[u,v],.cons ru (.cons rv .nil),_,htp,rfl,_,rfl⟩
    ·rw [Av hb] at q;refine (I.hok b o q).stay (λ c v hc' e=>k2 c v ?_ e) (λ c e=>(Av (Bm e hp0)).trans e) λ c ys e=>(Av (Bm e hp0)).trans e
     rcases hc' with e | e
     ·rw [e];exact nt b o q
     ·exact nt c _ e
  refine ⟨.ref s.heap.objs.size,_,J,rfl,⟨s.heap.objs.size,x,y,hp0,rfl,(λ l hl=>by rw [I.tuple_inj hl hx];exact gx),(λ l hl=>by rw [I.tuple_inj hl hy];exact gy),rfl⟩,
   ⟨n0,nb.extBut _ _ Z.TIz (mk _ _ Z.TIz Z.TITO Z.TIi1 Z.TIi2 tI),⟨u,v,nb.extBut _ _ Z.TOz mO⟩,m1.extBut nb.extBut Z.i1z,m2.extBut nb.extBut Z.i2z⟩,λ b hb=>?_⟩
  obtain ⟨o,eo,_⟩:=alive b hb;rw [Av (nep _ _ eo)];exact (hf b hb).1
 done:=by
  intro X hP hw hK hc i pins s σ H E I hf t hg;obtain ⟨t0,tI,⟨p,q,tO⟩,j1,j2⟩:=t;subst hP hw hK;obtain ⟨xs,hx,hi⟩:=hg;obtain ⟨us,rx,px,zx⟩:=I.tuple hx;have hl:=rx.length;have fz:=hf z (by simp)
  have fO:=hf TO (by simp)
  have f1:=hf i1 (by simp)
  have f2:=hf i2 (by simp)
  refine xV (TO:=TO) (i2:=i2) (I.ok.hd hc) Z t0 tI j1 (show s.heap.IsTuple a1 us.toArray from px) (by simp;omega) λ h' st=>⟨rfl,?_⟩
  have k2:∀b o,b∉[z,TO,i1,i2]->s.heap.get? b=some o->h'.get? b=some o:=λ b o hb q=>st b o (λ e=>hb (by simp [e])) (λ e=>hb (by simp [e])) (λ e=>hb (by simp [e])) (λ e=>hb (by simp [e])) q
  have nt:∀b o,H b=some o->b∉[z,TO,i1,i2]:=λ b o q hb=>by
   simp only [List.mem_cons,List.not_mem_nil,or_false] at hb;rcases hb with e | e | e | e
   ·rw [e,fz.1] at q;cases q
   ·rw [e,fO.1] at q;cases q
   ·rw [e,f1.1] at q;cases q
   ·rw [e,f2.1] at q;cases q
  refine I.step (g':=s.gens) (d':=s.drawn) (t':=s.toks) (ch:=[z,TO,i1,i2]) (λ b hb=>?_) (λ b o _ _ hc' q n=>k2 b o hc' q) (λ b o _ _ hc' q n=>⟨o.slots,k2 b o hc' q⟩)
    (λ b o _ q n=>n) (λ b o hc' q=>⟨o,k2 b o hc' q⟩)
    (λ b ys q=>q) (λ b o y q=>q) (λ b ps q=>⟨#[],by rw [q];simp⟩) (λ m hm=>?_) (λ b o q=>?_) I.bare
  ·simp only [List.mem_cons,List.not_mem_nil,or_false] at hb;rcases hb with e | e | e | e
   ·rw [e];exact ⟨fz.2.2.2.1,fz.2.1,fz.2.2.2.2.1,fz.2.2.2.2.2⟩
   ·rw [e];exact ⟨fO.2.2.2.1,fO.2.1,fO.2.2.2.2.1,fO.2.2.2.2.2⟩
   ·rw [e];exact ⟨f1.2.2.2.1,f1.2.1,f1.2.2.2.2.1,f1.2.2.2.2.2⟩
   ·rw [e];exact ⟨f2.2.2.2.1,f2.2.1,f2.2.2.2.2.1,f2.2.2.2.2.2⟩
  ·obtain ⟨o,es,ep,ho,r⟩:=hm;refine ⟨o,es,ep,k2 _ o (λ hb=>?_) ho,r⟩
   simp only [List.mem_cons,List.not_mem_nil,or_false] at hb;rcases hb with e | e | e | e
   ·exact fz.2.1 e.symm
   ·exact fO.2.1 e.symm
   ·exact f1.2.1 e.symm
   ·exact f2.2.1 e.symm
  ·refine (I.hok b o q).stay (λ c v hc' e=>k2 c v ?_ e) (λ c e=>e) λ c ys e=>e
   rcases hc' with e | e
   ·rw [e];exact nt b o q
   ·exact nt c _ e
 self:=λ _ _ _ _ _ t h=>wpAny_pyIter_zip t.1 h
end
section
variable {X:Cx}{elts:List Expr}{x1:Nat}{tpos:Pos}
def xJ (K:FrG)(ta:TA):TI:=λ σ H R=>ta σ H λ vs H1=>∃a b,vs=[.ref a,.ref b]/\(∃xs,SqT K H1 a xs)/\(∃ys,SqT K H1 b ys)/\R (Ux K a b) H1
theorem gb {a b:Expr}{ta:TA}{p pos:Pos}(hg:Gl X "zip")(hm:X.mg "zip"=none)(ha:PA X [a,b] ta)(hs:starEach [a,b] X.env=[(false,eval a X.env),(false,eval b X.env)]:=by rfl)(hs2:starEach [b] X.env=[(false,eval b X.env)]:=by rfl):
  PI X (.Tuple elts x1 tpos) (.Call (.Name "zip" p) [a,b] [] pos) (xJ X.K ta):=by
 intro pins s σ H R I h;refine Call_ (Ji I hg hm boot_zip (PyProof.Rows.callWith_type1 (thn (ha pos pins s σ H _ I h) λ us s1 ⟨vs,H1,I1,r1,q1⟩=>?_) (by rw [hs,hs2]) (by rw [hs2];rfl)))
 obtain ⟨a,b,e,⟨xs,hx⟩,⟨ys,hy⟩,q⟩:=q1;subst e;obtain ⟨u,v,rfl,ru,rv⟩:=vals2 r1;cases ru
 cases rv
 obtain ⟨its,rx,px,zx⟩:=I1.tuple hx;obtain ⟨jts,ry,py,zy⟩:=I1.tuple hy;have px:s1.heap.IsTuple a its.toArray:=px;have py:s1.heap.IsTuple b jts.toArray:=py;have l1:a < s1.heap.objs.size:=by
  obtain ⟨_,e,_⟩:=px;exact Heap.lt_size e
 have l2:b < s1.heap.objs.size:=by
  obtain ⟨_,e,_⟩:=py;exact Heap.lt_size e
 refine vN px py λ h' e0 eI eO j1 j2 hsz hk=>?_
 have I2:Inv X pins σ H1 { s1 with heap:=h' }:=I1.kept (t':=s1.toks) hk
 refine wpAny_pyIter_zip e0 ⟨s1.heap.objs.size+4,[s1.heap.objs.size+4,s1.heap.objs.size+2,s1.heap.objs.size+3,s1.heap.objs.size,s1.heap.objs.size+1],_,_,H1,rfl,I2,iW (zipApart_new l1 l2),⟨e0,eI,⟨_,_,eO⟩,j1,j2⟩,λ b hb=>?_,q⟩
 have le:s1.heap.objs.size<=b:=by
  simp only [List.mem_cons,List.not_mem_nil,or_false] at hb;rcases hb with e | e | e | e | e
  ·rw [e];exact Nat.le_add_right _ 4
  ·rw [e];exact Nat.le_add_right _ 2
  ·rw [e];exact Nat.le_add_right _ 3
  ·rw [e];exact Nat.le_refl _
  ·rw [e];exact Nat.le_add_right _ 1
 exact I1.fpOk le (I1.hok.fresh le)
end
end L2
namespace L2
open PySem PySem.Spec PyProof.Rows
end L2
namespace Lib
open PySem L2 Fr Op
def vP:Sp:=λ vs H Q _=>∃c b:Int,vs=[.int c,.int b]/\0<=b/\b < 2 ^ 32/\∀x:Int,0<=x->x < 2147483629->Q (.int x) H
def fW:List PyData->PyData->Prop:=λ ds d=>∃q,ds=[Af q]/\d=Af (-q)
end Lib
namespace Op
open Fr
end Op
namespace Lib
open PySem L2 Fr Op
end Lib
namespace Op
open Fr
end Op
namespace Lib
open PySem L2 Fr Op
theorem SD.same {H0 H H':Hp}{d:Addr}(s0:Same H0 H)(hd:H0 d=none)(s:SD d H H'):Same H0 H':=λ b o e=>s b o (λ z=>by rw [z,hd] at e;cases e) (s0 _ _ e)
theorem pX (r s:Aa):PyData.eqv (Ax r) (Ax s)=decide (r=s):=by
 have e:PyData.eqv (Ax r) (Ax s)=(decide (r.1=s.1) && decide (r.2=s.2)):=by
  rw [<- P0,<- P0];simp [Ax,Af,PyData.eqv,PyData.eqvAll]
 rw [e];by_cases h:r=s
 ·subst h;simp
 ·rw [decide_eq_false h];by_cases a:r.1=s.1
  ·by_cases b:r.2=s.2
   ·exact absurd (Prod.ext a b) h
   ·simp [b]
  ·simp [a]
end Lib
namespace L2
open PySem PySem.Spec PyProof.Rows PySem.Builtin
theorem pJ {K:FrG}{a:Addr}{xs:List V}{g:TG}{te:TE}{Q:VK}{σ:St}{H:Hp}(Pv:Nat->St->List V->Hp->Prop)(h0:Pv 0 σ [] H)(hz:∀i σ ys H,i<=xs.length->Pv i σ ys H->ys.length<=sizeLine/\SqL K H a xs)
  (hs:∀i x σ ys H p,xs[i]?=some x->Pv i σ ys H->H p=none->g (.ref p) σ (upd H p (.tup [.int i,x])) λ σ2 H2=>te σ2 H2 λ y H4=>Nx xs.length Pv i σ2 (ys++[y]) H4)
  (hd:∀σ ys H p,Pv xs.length σ ys H->H p=none->Q (.ref p) (upd H p (.lst ys))):IW g JC te (KD K a) σ H Q:=by
 refine ⟨λ i m σ ys H=>m=xs.length - i/\i<=xs.length/\Pv i σ ys H,⟨xs.length,by simp,Nat.zero_le _,h0⟩,?_⟩
 rintro i m σ' ys H ⟨rfl,hi,p⟩
 obtain ⟨z,q⟩:=hz i σ' ys H hi p;refine ⟨z,?_⟩;by_cases hlt:i < xs.length
 ·refine .inr ⟨⟨xs,xs[i],q,by simp [hlt]⟩,λ x H' y=>?_⟩
  obtain ⟨r,v,n,rfl,y,rfl⟩:=y;exact hs i v σ' ys H r (y xs q) p n
 ·have e:i=xs.length:=by omega
  subst e;exact .inl ⟨⟨xs,q,Nat.le_refl _⟩,λ r n=>hd σ' ys _ r p n⟩
end L2
namespace Op
open Fr
end Op
namespace Lib
open PySem L2 Fr Op
theorem Io {ws:List Aa}{i:Nat}{d:PyData}(h:(ws.map Ax)[i]?=some d):∃r,ws[i]?=some r/\d=Ax r:=by
 rw [List.getElem?_map] at h;cases e:ws[i]? with
 | none=>rw [e] at h;cases h
 | some r=>rw [e] at h;exact ⟨r,rfl,(Option.some.inj h).symm⟩
end Lib
namespace Op
open Fr Lib
end Op
namespace Lib
open PySem L2 Fr Op
end Lib
namespace L2
open PySem PySem.Spec PyProof.Rows PySem.Builtin
end L2
namespace Lib
open PySem L2 Fr Op
end Lib
namespace L2
open PySem PySem.Spec PyProof.Rows
end L2
namespace Lib
open PySem L2 Fr Op
end Lib
namespace L2
open PySem PySem.Spec PyProof.Rows
end L2
namespace Lib
open PySem L2 Fr Op
end Lib
namespace L2
open PySem PySem.Spec PyProof.Rows
abbrev dM:=XK->(Hp->Prop)->St->Hp->Prop
def aj (X:Cx)(body:List Stmt)(t:dM):Prop:=∀(pins:List (Addr×Obj)) (s:Shared) (σ:St) (H:Hp) (E:XK) (k:Hp->Prop),Inv X pins σ H s->t E k σ H->
 wpAny (model X.prog X.w) X.A (execs body X.env) (λ f s1=>f=.next/\∃H2,Inv X pins σ H2 s1/\k H2) (λ e s'=>∃H1 s1,Inv X pins σ H1 s1/\FQ X.prog X.w X.stack H1 s1 E e s') s
section
variable {X:Cx}{c:Bool}{k:Nat}{ps:List Str}{sp:Sp}{x xc n:Str}{p pos cpos epos np hp:Pos}{e:Expr}{es:List Expr}{t:TA}{Bc:Addr}{b₀:Stmt}{suite:List Stmt}{ts:TS}{i:Nat}
theorem bQ (C:CalB X.prog X.w X.K X.mg X.base c k x ps sp)(hr:RoomB c k X.A)(ha:PA X.nox (e::es) t)(hg:Gl X x:=by rfl)(hdb:(x == ("__debug__":Str))=false:=by decide)
  (he:starEach (e::es) X.env=(false,eval e X.env)::starEach es X.env:=by rfl) (hpl:(backTo cpos (starEach es X.env)).any (·.1)=false:=by rfl) (hsw:swapsWith (.Call (.Name x p) (e::es) [] cpos) none epos.line X.env=pure false:=by rfl):
  aj X [.Expr (.Call (.Name x p) (e::es) [] cpos) epos] (λ E k σ H=>t σ H λ vs H1=>sp (vs++[]) H1 (λ _ H2=>k H2) E):=by
 obtain ⟨f,fd,F,hm,hk,hb⟩:=C.ex;intro pins s σ H E k I h;refine wpAny_execs_cons (wpAny_Expr_any (wpAny_Call_Name_kw (Hw I hg hm ?_ hdb)) I.quiet hsw);refine PySem.W.callWith_K (h₀:=X.base) I.ok.mod.kin hk (thn (PA.any ha cpos I h) λ us s1 ⟨vs,H1,I1,r,q⟩=>⟨I1.kIn,?_⟩) he hpl
 exact thn (R8 F hr hb I1 r q λ e s' hx=>⟨H1,s1,I1,hx⟩) λ v s2 ⟨v',H2,I2,r2,q2⟩=>wpAny_execs_nil ⟨rfl,H2,I2,q2⟩
end
end L2
namespace L2
open PySem PySem.Spec PyProof.Rows PySem.Builtin
open PySem.AutoSeq1 (wpAny_loadPart')
end L2
namespace L2
open PySem PySem.Spec PySem.Calls PyProof.Rows PySem.W Builtin Builtin.ObjectAttr
abbrev HX:List Value:=[.type "ValueError",.type "Exception",.type "BaseException",.type "object"]
structure ExcI (K:FrG)(C CB fI:Addr):Prop where
 ob:∃nm q N bs sn sub ab col dd k0 k1 k2 k3 k5,K.lookup C=some (excClassObj nm q C N bs (.ref CB::HX) true sn sub ab col dd k0 k1 k2 k3 k5 "ValueError.__new__")
 cb:PySem.W.excIn K CB HX "ValueError.__new__"=true
 it:PySem.W.findIn K (.ref C) "__init__"=some (some (.ref fI))
 kp:PySem.W.keepIn K (.ref C)=true
 hm:PySem.W.mroIn K C (.type "object")=some true
 hd:PySem.W.hasDictIn K C=true
 fn:PySem.W.typeIn K (.ref fI)=some (.type "function")
 sa:PySem.W.findIn K (.ref C) "__setattr__"=some (some (.builtin "object.__setattr__"))
 na:PySem.W.findIn K (.ref C) "at"=some none
 rd:PySem.W.readsIn K CB (.type "type")=true
 fc:PySem.W.findCls K (.ref CB) (.type "type") "__init__"=some (.val (.builtin "ValueError.__init__"))
 sg:PySem.W.specialIn K (.ref CB) "__getattribute__"=some (some (.builtin "type.__getattribute__"))
theorem ExcI.obj {K:FrG}{C CB fI:Addr}{h:Heap}(O:ExcI K C CB fI)(X:K.In h):
  ∃nm q N bs sn sub ab col dd k0 k1 k2 k3 k5,h.get? C=some (excClassObj nm q C N bs (.ref CB::HX) true sn sub ab col dd k0 k1 k2 k3 k5 "ValueError.__new__")/\OwnTail h HX (.ref CB::HX):=by
 obtain ⟨nm,q,N,bs,sn,sub,ab,col,dd,k0,k1,k2,k3,k5,l⟩:=O.ob;obtain ⟨bm,N',nm',qn',bs',hdct',sn',sub',ab',col',dd',a0,a1,a2,a3,a5,mN,hC,hN,hni,TL⟩:=uX X O.cb;exact ⟨nm,q,N,bs,sn,sub,ab,col,dd,k0,k1,k2,k3,k5,X _ _ l,.own hC hN hni .base⟩
abbrev I9 (vs:List Value):Obj:={ cls:=.type "tuple",data:=.seq vs.toArray }
abbrev IV (C t:Addr):Obj:={ cls:=.ref C,data:=.fields #[.ref t,.none,.none,.none,.bool false,.none] }
section
variable {prog:Program}{w:World}{A:Around}{E:Value->Shared->Prop}{h:Heap}{g:Array GenState}{d:Drawn}{t:Nat}{os:OsState}{K:FrG}{C CB fI:Addr}
theorem fH {rest:List Value}{Q:Fin->Shared->Prop}(X:K.In h)(O:ExcI K C CB fI)
  (hq:wpAny (model prog w) A (call (.ref fI) (.ref (h.objs.size+1)::rest)) (λ r s'=>r=.none/\Q (.done (.ret (.ref (h.objs.size+1)))) s') E ⟨(h.push (I9 rest)).push (IV C h.objs.size),g,d,t,os⟩) (hrest:rest.length<=sizeLine):
  wpAny (model prog w) A (Builtin.«type.__call__» ⟨.ref C::rest,[]⟩) Q E ⟨h,g,d,t,os⟩:=by
 obtain ⟨nm,q,N,bs,sn,sub,ab,col,dd,k0,k1,k2,k3,k5,hC,T⟩:=O.obj X;have kk:∀b o,h.get? b=some o->((h.push (I9 rest)).push (IV C h.objs.size)).get? b=some o:=λ b o e=>Heap.get?_push_of_some _ (Heap.get?_push_of_some _ e)
 have X1:=X.keeps kk;have hC1:=kk _ _ hC;have hx:((h.push (I9 rest)).push (IV C h.objs.size)).get? (h.objs.size+1)=some (IV C h.objs.size):=by heap_get
 have hcC:(Value.ref C::(.ref CB::HX)).contains (.ref C)=true:=by simp
 repeat (first | with_reducible refine wpAny_loadPart_at hC ?_ | with_reducible refine wpAny_madeBy_exc hC ?_ | wp_step)
 refine codeAny_call_builtin_code (Code.quiet_builtin _ F.excBase_ValueError.quiet) (wpAny_check_new_subT F.excBase_ValueError T hC (codeAny_exc_new_subT F.excBase_ValueError T hC ?_ hrest));show wpAny _ _ _ _ _ _;unfold isInstance
 repeat (first | with_reducible refine wpAny_loadPart_at hx ?_ | (with_reducible refine wpAny_isSubtype_exc hC1 ?_;rw [hcC]) | wp_step)
 show wpAny _ _ (typeLookup (.ref C) _) _ _ _;refine (looks_findIn X1 O.it).at (wpAny_holding (wpAny_bind ((bind_fn X1 _ O.fn).at ?_)));refine wpAny_bind (wpAny_mono hq (λ r s' ⟨e,z⟩=>?_) λ _ _ x=>x)
 subst e
 wp_walk
 exact z
theorem uP {rest:List Value}{Q:Value->Shared->Prop}(X:K.In h)(O:ExcI K C CB fI)
  (hq:wpAny (model prog w) (A.under (.builtin "type.__call__" ⟨.ref C::rest,[]⟩)) (call (.ref fI) (.ref (h.objs.size+1)::rest)) (λ r s'=>r=.none/\Q (.ref (h.objs.size+1)) s') E ⟨(h.push (I9 rest)).push (IV C h.objs.size),g,d,t,os⟩) (hrest:rest.length<=sizeLine):
  wpAny (model prog w) A (call (.ref C) rest) Q E ⟨h,g,d,t,os⟩:=by
 obtain ⟨nm,q,N,bs,sn,sub,ab,col,dd,k0,k1,k2,k3,k5,hC,T⟩:=O.obj X;have l1:=tc_lookup;have l2:=tc_bind (.ref C);have l3:(⟨h,g,d,t,os⟩:Shared).TypeIs (.ref C) "type":=⟨_,hC,rfl⟩;refine wpAny_call (codeAny_of_tree ?_);show wpAny _ _ (callAny (.ref C) _) _ _ _
 repeat (any_goals (first | assumption | with_reducible refine wpAny_loadPart_at hC ?_ | wp_step))
 exact ⟨rfl,codeAny_call_builtin_at (Code.quiet_builtin _ (by decide+kernel)) entry_typeCall (wpAny_check_type_call_sub hC (fH X O hq hrest))⟩
theorem dI {s:Shared}{env:Env}{x:Sem Value}{Q:Flow->Shared->Prop}(hh:A.handled=none)
  (hx:wpAny (model prog w) A x (λ v s₁=>∃e t od sl,v=.ref e/\K.In s₁.heap/\ExcI K C CB fI/\s₁.heap.get? e=some ⟨.ref C,od,.fields #[.ref t,.none,.none,.none,.bool false,.none],sl⟩/\E (.ref e) s₁) E s):wpAny (model prog w) A (raiseStmt env (some x) none) Q E s:=by
 unfold raiseStmt;refine wpAny_bind (wpAny_mono hx (λ v s₁ ⟨e,t0,od,sl,ev,X,O,he,z⟩=>?_) λ _ _ x=>x)
 subst ev;obtain ⟨nm,q,N,bs,sn,sub,ab,col,dd,k0,k1,k2,k3,k5,hC,T⟩:=O.obj X;have hcB:(Value.ref C::(.ref CB::HX)).contains (.type "BaseException")=true:=by rw [List.contains_cons,T.hasType (X:="BaseException") (b:=true) (by decide+kernel),Bool.or_true]
 obtain ⟨hp,g,d,tk,os⟩:=s₁
 repeat (first | with_reducible refine wpAny_loadPart_at he ?_ | with_reducible refine wpAny_loadPart_at hC ?_ | (with_reducible refine wpAny_isSubtype_exc hC ?_;rw [hcB]) | wp_step)
 exact wpAny_raiseNew_none hh z
abbrev Gh (C t:Addr)(od:Option Addr)(sl:Array (Option Value)):Obj:=⟨.ref C,od,.fields #[.ref t,.none,.none,.none,.bool false,.none],sl⟩
theorem vB {e t0:Addr}{u:Value}{od:Option Addr}{sl:Array (Option Value)}{Q:Value->Shared->Prop}(X:K.In h)(O:ExcI K C CB fI)(he:h.get? e=some (Gh C t0 od sl))
  (hq:∀h' t1,h'.get? e=some (Gh C t1 od sl)->(∀b o,b≠e->h.get? b=some o->h'.get? b=some o)->Q .none ⟨h',g,d,t,os⟩):
  wpAny (model prog w) A (call (.builtin "ValueError.__init__") [.ref e,u]) Q E ⟨h,g,d,t,os⟩:=by
 obtain ⟨nm,q,N,bs,sn,sub,ab,col,dd,k0,k1,k2,k3,k5,hC,T⟩:=O.obj X;refine wpAny_call (codeAny_call_builtin F.excBase_ValueError.init.plain F.excBase_ValueError.initEntry (wpAny_check_init_subT F.excBase_ValueError T hC he rfl ?_));have he1:(h.push (I9 [u])).get? e=some (Gh C t0 od sl):=Heap.get?_push_of_some _ he
 wp_walk
 refine hq _ h.objs.size ?_ λ b o n z=>?_
 ·rw [Heap.get?_update_self _ he1 rfl];rfl
 ·rw [Heap.get?_update_other _ _ (Ne.symm n)];exact Heap.get?_push_of_some _ z
theorem tL {e t0:Addr}{u:Value}{sl:Array (Option Value)}{Q:Unit->Shared->Prop}(X:K.In h)(O:ExcI K C CB fI)(he:h.get? e=some (Gh C t0 none sl))
  (hq:∀h',h'.Ns1 h.objs.size (λ y=>if y="at" then some u else none)->h'.get? e=some (Gh C t0 (some h.objs.size) sl)->(∀b o,b≠e->h.get? b=some o->h'.get? b=some o)->Q () ⟨h',g,d,t+2,os⟩):
  wpAny (model prog w) A (setAttr (.ref e) "at" u) Q E ⟨h,g,d,t,os⟩:=by
 obtain ⟨nm,q,N,bs,sn,sub,ab,col,dd,k0,k1,k2,k3,k5,hC,T⟩:=O.obj X;have J:InstAt h e (Gh C t0 none sl) C none:=⟨he,rfl,rfl,trivial⟩;have SF:=PySem.F.store_object;have LT:=J.type (M:=model prog w);have sb:Looks (model prog w) h (isInstance (.ref e) (.type "object")) true:=LT.andThen (looks_mroIn X O.hm);have LF:=looks_findIn (M:=model prog w) X O.na;refine set_plain (s:=⟨h,g,d,t,os⟩) X J O.sa (codeAny_call_builtin SF.slot.plain SF.entry (@check_slot (model prog w) _ _ ⟨h,g,d,t+1,os⟩ "object.__setattr__" "object" "__setattr__" (.ref e) [.str "at" t,u] [] _ SF.kind SF.split sb (SF.args (.ref e) (.str "at" t) u) ?_));rw [osa_eq,refuse_eq];refine wpAny_bind (wpAny_bind (LT.at (wpAny_bind (wpAny_mroOf_exc hC ?_))));rw [refuseLoop_ref,refuseLoop_ref,F.store_ValueError.passes];refine wpAny_pure (wpAny_bind (LT.at (wpAny_bind (LF.at (wpAny_bind (wpAny_pure ?_))))));have hes:e≠h.objs.size:=Nat.ne_of_lt (Heap.lt_size he);have he1:(h.push { cls:=.type "dict",data:=.dict #[] }).get? e=some (Gh C t0 none sl):=Heap.get?_push_of_some _ he;unfold storeInOwnDict ownDictForStores instanceDict
 iterate 14 (first | with_reducible refine wpAny_loadPart_at he ?_ | with_reducible refine wpAny_loadPart_at hC ?_ | wp_step)
 dsimp only
 refine wpAny_bind (wpAny_alloc' (wpAny_bind (wpAny_update' he1 (wpAny_pure ?_))));have g1:((h.push { cls:=.type "dict",data:=.dict #[] }).update e λ o=>{ cls:=o.cls,dict:=some h.objs.size,data:=o.data,slots:=o.slots }).get? h.objs.size=some { cls:=.type "dict",data:=.dict #[] }:=
  (Heap.get?_update_ne _ _ _ _ hes.symm).trans (Heap.get?_push_at rfl rfl)
 have g2:((h.push { cls:=.type "dict",data:=.dict #[] }).update e λ o=>{ cls:=o.cls,dict:=some h.objs.size,data:=o.data,slots:=o.slots }).get? e=some (Gh C t0 (some h.objs.size) sl):=Heap.get?_update_self _ he1 rfl
 have g3:∀b o,b≠e->h.get? b=some o->((h.push { cls:=.type "dict",data:=.dict #[] }).update e λ o=>{ cls:=o.cls,dict:=some h.objs.size,data:=o.data,slots:=o.slots }).get? b=some o:=λ b o n z=>(Heap.get?_update_ne _ _ _ _ n).trans (Heap.get?_push_of_some _ z)
 generalize ((h.push { cls:=.type "dict",data:=.dict #[] }).update e λ o=>{ cls:=o.cls,dict:=some h.objs.size,data:=o.data,slots:=o.slots })=hm at g1 g2 g3 ⊢
 have n1:hm.Ns h.objs.size (λ _=>none):=⟨_,#[],_,g1,rfl,(λ x hx=>absurd hx (by simp)),λ _=>rfl⟩
 show wpAny _ _ (storeInDict h.objs.size (.str "at" t) "at" u) _ _ _;unfold storeInDict newKeyGuard;refine wpAny_bind (wpAny_pure (wpAny_bind (wpAny_nsSet1 (Heap.Ns1.of_empty n1) λ h' n2 sb2=>?_)))
 obtain ⟨oD,eD,pD,z1,z2,z3⟩:=n2.count (Within.cons "at" u Within.nil);refine wpAny_bind (wpAny_lookBehind z1 (by rw [z2];exact pastItsLine_dict (Nat.le_trans z3 (by decide))) (wpAny_pure ?_))
 exact hq h' n2 ((sb2.2 _ hes).trans g2) λ b o n z=>(sb2.2 b (Nat.ne_of_lt (Heap.lt_size z))).trans (g3 b o n z)
end
def XN (e C:Addr)(d:Option Addr)(h:Heap):Prop:=∃t sl,h.get? e=some (Gh C t d sl)
abbrev xN (e C:Addr)(d:Option Addr):HO:=.ext (XN e C d)
theorem XN.stay {e C:Addr}{d:Option Addr}{h1 h2:Heap}(x:XN e C d h1)(k:∀o,h1.get? e=some o->h2.get? e=some o):XN e C d h2:=let ⟨t,sl,z⟩:=x;⟨t,sl,k _ z⟩
theorem XN.ok {P:Program}{w:World}{H:Hp}{h:Heap}{e C:Addr}{d:Option Addr}(x:XN e C d h):ObjOk P w H h e (xN e C d):=
 let ⟨_,_,z⟩:=x;⟨x,⟨_,z⟩,λ _ _ y k=>y.stay k⟩
def XC (e C:Addr)(d:Option Addr)(h:Heap):Prop:=∃o vs,h.get? e=some o/\o.cls=.ref C/\o.dict=d/\o.data=.fields vs
abbrev xC (e C:Addr)(d:Option Addr):HO:=.ext (XC e C d)
theorem XC.stay {e C:Addr}{d:Option Addr}{h1 h2:Heap}(x:XC e C d h1)(k:∀o,h1.get? e=some o->h2.get? e=some o):XC e C d h2:=let ⟨o,vs,z,r⟩:=x;⟨o,vs,k _ z,r⟩
section
variable {X:Cx}{C CB fI:Addr}{nb:Str}{e1 o value:Expr}{es:List Expr}{t:TA}{ta tv:TE}{np apos cpos epos pos pos':Pos}
def lQ (C:Addr)(t:TA):TS:=λ D σ H=>t σ H λ vs H1=>∃e v d,vs=[.ref e,v]/\H1 e=some (xN e C d)/\D.nx σ H1
theorem fZ {pl:Sem Bool}(O:ExcI X.K C CB fI)(hm:X.mg nb=some (.ref CB))(ha:PA X (e1::es) t)(hg:Gl X nb:=by rfl)(hdb:(nb == ("__debug__":Str))=false:=by decide)
  (he:starEach (e1::es) X.env=(false,eval e1 X.env)::starEach es X.env:=by rfl) (hpl:(backTo cpos (starEach es X.env)).any (·.1)=false:=by rfl)
  (hsw:swapsWith (.Call (.Attribute (.Name nb np) "__init__" apos) (e1::es) [] cpos) none epos.line X.env=pure false:=by rfl)
  (ht:eval (.Call (.Attribute (.Name nb np) "__init__" apos) (e1::es) [] cpos) X.env=(do
   let ov <- eval (.Name nb np) X.env
   standAt apos.atName
   let (f,first) <- holding [ov] (getMethod ov "__init__" pl)
   callWith cpos f first (backTo cpos (starEach (e1::es) X.env)) (backToKw cpos (keywordEach [] X.env))):=by rfl):
  PS X (.Expr (.Call (.Attribute (.Name nb np) "__init__" apos) (e1::es) [] cpos) epos) (lQ C t):=by
 intro pins s σ H D I h;refine wpAny_Expr_any (PySem.W.methodCall_KW (pl:=pl) (Hw I hg hm ?_ hdb) ht) I.quiet hsw;refine method_cls I.kIn O.sg (cls_value I.kIn O.rd O.fc rfl ?_);have hA:=ha cpos pins _ σ H _ (I.tok (s.toks+1)) h;rw [he] at hA ⊢;refine Calls.callWith_builtin (by show (false || (backTo cpos (starEach es X.env)).any (·.1))=false;rw [hpl]<;>rfl) (Calls.evalArgs_plain ?_)
 refine thn hA λ us s2 ⟨vs,H2,I2,r,e,v,d,ev,hx,q⟩=>?_
 subst ev;obtain ⟨u0,u,rfl,r0,ru⟩:=vals2 r;cases (show u0=Value.ref e from r0)
 obtain ⟨⟨t0,sl,ho⟩,_,_⟩:=(show ObjOk X.prog X.w H2 s2.heap e (xN e C d) from I2.hok e _ hx)
 obtain ⟨hh,g,dr,tk,os⟩:=s2;refine vB I2.kIn O ho λ h' t1 he' k=>?_
 have J:=I2.write (x:=e) (e:=e) (o:=xN e C d) (t':=tk) (by rw [hx];exact True.intro) (.inl rfl) (λ b o n=>k b o n) ⟨_,he'⟩ (XN.ok ⟨t1,sl,he'⟩)
 have e2:upd H2 e (xN e C d)=H2:=by
  funext b
  by_cases z:b=e
  ·subst z;rw [Aq,hx]
  ·rw [Av z]
 rw [e2] at J;exact ⟨σ,H2,J,q⟩
theorem vf {pins:List (Addr×Obj)}{σ:St}{H:Hp}{s:Shared}{A:Around}{E:Value->Shared->Prop}{y:V}{u:Value}{Q:Unit->Shared->Prop}{e:Addr}(I:Inv X pins σ H s)(O:ExcI X.K C CB fI)(hx:H e=some (xN e C none))(ry:RelV y u)
  (h:∀dx s',H dx=none->dx≠e->Inv X pins σ (upd (upd H dx (.xd [("at",y)])) e (xN e C (some dx))) s'->Q () s'):wpAny (model X.prog X.w) A (setAttr (.ref e) "at" u) Q E s:=by
 obtain ⟨⟨t0,sl,ho⟩,_,_⟩:=(show ObjOk X.prog X.w H s.heap e (xN e C none) from I.hok e _ hx)
 obtain ⟨hh,g,dr,tk,os⟩:=s;refine tL I.kIn O ho λ h' n1 he' k=>?_
 have ne:e≠hh.objs.size:=Nat.ne_of_lt (Heap.lt_size ho);obtain ⟨oD,es,ep,hD,dD,rD⟩:=id n1;have fD:oD.isFreed=false:=(Heap.get?_some_iff.mp hD).2;have hn:H hh.objs.size=none:=I.hok.fresh (Nat.le_refl _);have r1:∀f,RelO (List.lookup f [(("at":Str),y)]) (if f="at" then some u else none):=λ f=>by
  by_cases z:f="at"
  ·subst z;rw [if_pos rfl];exact ry
  ·rw [if_neg z,List.lookup_cons,show (f == ("at":Str))=false from beq_false_of_ne z];exact True.intro
 have J1:=I.laid (a:=hh.objs.size) (o:=.xd [("at",y)]) (h':=hh.push oD) (t':=tk+2) (λ b o z=>Heap.get?_push_of_some _ z) (Nat.le_refl _) ⟨_,⟨oD,es,ep,Heap.get?_push_size hh fD,dD,rD⟩,r1⟩
 have J2:=J1.write (x:=e) (e:=e) (o:=xN e C (some hh.objs.size)) (h':=h') (t':=tk+2) (by rw [Av ne,hx];exact True.intro) (.inl rfl) (λ b o n z=>?_) ⟨_,he'⟩ (XN.ok ⟨t0,sl,he'⟩)
 ·exact h hh.objs.size _ hn (Ne.symm ne) J2
 ·rcases Heap.get?_push_cases z with ⟨zb,zo⟩ | z
  ·rw [zb,zo];exact hD
  ·exact k b o n z
def mU (C:Addr)(ta tv:TE):TS:=λ D σ H=>tv σ H λ y H1=>ta σ H1 λ x H2=>∃e,x=.ref e/\H2 e=some (xN e C none)/\∀dx,H2 dx=none->dx≠e->D.nx σ (upd (upd H2 dx (.xd [("at",y)])) e (xN e C (some dx)))
theorem rK (O:ExcI X.K C CB fI)(ha:PE X o ta)(hv:PE X value tv)(hs:swapsWith value (some (.Attribute o "at" pos')) pos.line X.env=pure false:=by rfl):PS X (.Assign [.Attribute o "at" pos'] value pos) (mU C ta tv):=by
 intro pins s σ H D I h;refine plainObj_wpAny_Assign_Attribute (thn (hv pins s σ H _ I h) λ u s1 ⟨y,H1,I1,ry,q⟩=>thn (ha pins s1 σ H1 _ I1 q) λ ov s2 ⟨x,H2,I2,rx,e,ex,hx,q2⟩=>?_) hs
 subst ex;obtain rfl:ov=Value.ref e:=rx;exact vf I2 O hx ry λ dx s3 n1 n2 J=>⟨σ,_,J,q2 dx n1 n2⟩
end
def aU (C:Addr):Sp:=λ vs H Q _=>∃e v,vs=[.ref e,v]/\H e=some (xN e C none)/\∀dx,H dx=none->dx≠e->Q .non (upd (upd H dx (.xd [("at",v)])) e (xN e C (some dx)))
structure XMk (P:Program)(w:World)(K:FrG)(mg:Str->Option Value)(base:Heap)(k:Nat)(x:Str)(C:Addr):Prop where
 ex:∃(CB fI:Addr) (fd:FuncData),FnB P w K mg base true k fI fd ["self","at"] (aU C)/\ExcI K C CB fI/\Binds K fd ["self","at"] []
 mg:mg x=some (.ref C)
structure XFn (K:FrG)(mg:Str->Option Value)(x:Str)(C CB:Addr)(qual:Str)(st:Stmt):Prop where
 ex:∃(f:Addr) (fd:FuncData),Fun K "__init__" qual st f fd/\ExcI K C CB f
 mg:mg x=some (.ref C)
theorem XFn.xmk {P:Program}{w:World}{K:FrG}{mg:Str->Option Value}{base:Heap}{x:Str}{C CB:Addr}{qual:Str}{st:Stmt}{N:List Str}{k:Nat}(T:XFn K mg x C CB qual st)(S:FnScope N ["self","at"] (defScope st))
  (hb:∀(kV doc pm:Value) (an:Option Addr) (cdv ct:Value) (us:List Value),us.length=(["self","at"]:List Str).length->bindArgs (PySem.W.fnOf "__init__" qual (defArgs st) (defBody st) (defScope st) .none kV doc pm an cdv ct) ⟨us,[]⟩=pure ((["self","at"]:List Str).zip us))
  (hbody:∀(fI:Addr),ExcI K C CB fI->∀(f:Addr) (cdv:Value) (A:Around) (outer:List Env) (s:Shared) (H:Hp) (vs:List V) (Q:VK) (E:XK),RoomB true k (A.deeper (envOfC qual (defScope st) s.heap.objs.size f cdv))->aU C vs H Q E->
   ∃t,PSs (Dy true P w K mg base N qual (defScope st) f cdv A outer s H E).nox (defBody st) t/\t { nx:=λ _ H'=>Q .non H',rt:=Q } (start N vs) H):XMk P w K mg base (k+1) x C:=by
 obtain ⟨f,fd,F,hm⟩:=T.ex;obtain ⟨oc,od,kV,doc,pm,an,cdv,ct,osl,rfl,l,cd⟩:=id F.ex;refine ⟨⟨CB,f,_,Jx l cd S (λ vs H Q E h=>by obtain ⟨_,_,rfl,_⟩:=h;rfl) λ A outer s H vs Q E hr h=>?_,hm,F.binds hb⟩,T.mg⟩
 obtain ⟨t,h1,h2⟩:=hbody f hm f cdv A outer s H vs Q E hr h;exact ⟨t,h1.nox,h2⟩
def Iv (H:Hp)(e:Addr):Hp:=λ b=>if b=e then none else H b
theorem Hq {H:Hp}{e b:Addr}(n:b≠e):Iv H e b=H b:=if_neg n
theorem Vf {H:Hp}{e:Addr}:Iv H e e=none:=if_pos rfl
section
variable {X:Cx}{C:Addr}{x:Str}{e₀:Expr}{t:TA}{np cpos pos:Pos}{k:Nat}
theorem gR {E:XK}(Bd:BodyCx X E){pins:List (Addr×Obj)}{σ:St}{H:Hp}{s:Shared}{e:Addr}{φ:Heap->Prop}(I:Inv X pins σ H s)(hx:H e=some (.ext φ))(ne0:X.s₀.heap.get? e=none)(nL:e∉frs X.stack){h2:Heap}(up:s.heap.UpToSlots h2)(h'':Heap)
  (st:(PySem.W.hideAll s.heap (e::frs X.stack)).StaysIn h'') (up2:h2.UpToSlots h''):Un (frs X.outer) [] X.H₀ (Iv H e) X.s₀.heap h''/\HOk X.prog X.w (Iv H e) h'':=by
 have inB:∀b o,s.heap.get? b=some o->b≠e->b∉frs X.stack->h''.get? b=some o:=λ b o q n m=>st b o (PySem.W.hideAll_get _ q (by simp [n,m]))
 have sl:∀b o,s.heap.get? b=some o->b∈frs X.stack->∃sl,h''.get? b=some { o with slots:=sl }:=λ b o q m=>by
  obtain ⟨_,o',ho',hnf⟩:=I.stack.mem m;rw [q] at ho';cases ho';exact (up.trans up2) b o q hnf
 have nx:∀b:Addr,b∉X.ex:=λ b z=>by rw [Bd.ex] at z;cases z
 have neL:∀b o,X.s₀.heap.get? b=some o->b≠X.env.locals:=λ b o q=>Nat.ne_of_lt (Nat.lt_of_lt_of_le (Heap.lt_size q) I.ok.above)
 have nee:∀b o,X.s₀.heap.get? b=some o->b≠e:=λ b o q z=>by rw [z,ne0] at q;cases q
 have any:∀b o,s.heap.get? b=some o->b≠e->∃o',h''.get? b=some o':=λ b o q n=>by
  by_cases m:b∈frs X.stack
  ·obtain ⟨z,y⟩:=sl b o q m;exact ⟨_,y⟩
  ·exact ⟨_,inB b o q n m⟩
 have nt:∀b o',H b=some o'->(∀ψ,o'≠.ext ψ)->b≠e:=λ b o' q n z=>by rw [z,hx] at q;exact n φ (Option.some.inj q).symm
 refine ⟨⟨λ b o q n hb _=>?_,λ b o q n hb _=>?_,λ b o q n _=>?_,λ b o q _=>?_,λ b xs q=>?_,λ b o y q=>?_,λ b ps q=>?_⟩,λ a o q=>?_⟩
 ·exact inB b o (I.base.keep b o q n hb (nx b)) (nee b o q) λ m=>(YX Bd).mp m |>.elim (neL b o q) hb
 ·obtain ⟨z,y⟩:=I.base.slot b o q n hb (nx b);exact sl b _ y ((YX Bd).mpr (.inr hb)) |>.imp λ _ h=>h
 ·rw [Hq (nee b o q)];exact I.base.free b o q n (nx b)
 ·obtain ⟨o',y⟩:=I.base.there b o q (nx b);exact any b o' y (nee b o q)
 ·have y:=I.base.tups b xs q;rw [Hq (nt b _ y (λ _ h=>nomatch h))];exact y
 ·have y:=I.base.frzs b o _ q;rw [Hq (nt b _ y (λ _ h=>nomatch h))];exact y
 ·obtain ⟨m,y⟩:=I.base.tbls b ps q;exact ⟨m,by rw [Hq (nt b _ y (λ _ h=>nomatch h))];exact y⟩
 ·have hae:a≠e:=λ z=>by rw [z,Vf] at q;cases q
  rw [Hq hae] at q;refine (I.hok a o q).stay (λ b u hc y=>inB b u y ?_ λ m=>?_) (λ b y=>by rw [Hq (nt b _ y (λ _ h=>nomatch h))];exact y) λ b xs y=>by rw [Hq (nt b _ y (λ _ h=>nomatch h))];exact y
  ·rcases hc with z | z
   ·rw [z];exact hae
   ·exact nt b _ z (λ _ h=>nomatch h)
  ·have z:=I.stkFree b m;rcases hc with rfl | hc
   ·rw [z] at q;cases q
   ·rw [z] at hc;cases hc
def yE (E:XK)(C:Addr)(t:TA):TS:=λ _ σ H=>t σ H λ vs H1=>∃v,vs=[v]/\∀dx,H1 dx=none->E (.ref C) (some dx) (upd H1 dx (.xd [("at",v)]))
theorem wH {E:XK}(Bd:BodyCx X E)(hc:X.calm=true)(M:XMk X.prog X.w X.K X.mg X.base k x C)(hr:RoomB true (k+1) X.A)(ha:PA X [e₀] t)(hg:Gl X x:=by rfl)(hdb:(x == ("__debug__":Str))=false:=by decide)
  (he:starEach [e₀] X.env=[(false,eval e₀ X.env)]:=by rfl):
  PS X (.Raise (some (.Call (.Name x np) [e₀] [] cpos)) none pos) (yE E C t):=by
 obtain ⟨CB,fI,fd,Fi,O,hb⟩:=M.ex;intro pins s σ H D I h;rw [arm_exec_Raise];have key:wpAny (model X.prog X.w) X.A (eval (.Call (.Name x np) [e₀] [] cpos) X.env) (λ v s₁=>∃e t od sl,v=.ref e/\X.K.In s₁.heap/\ExcI X.K C CB fI/\s₁.heap.get? e=some ⟨.ref C,od,.fields #[.ref t,.none,.none,.none,.bool false,.none],sl⟩/\X.xe (.ref e) s₁) X.xe s:=by
  refine wpAny_Call_Name_kw (Hw I hg M.mg ?_ hdb);refine PySem.W.callWith_K (h₀:=X.base) I.ok.mod.kin O.kp (thn (ha cpos pins s σ H _ I h) λ us s1 ⟨vs,H1,I1,r,v,ev,q⟩=>⟨I1.kIn,?_⟩) he rfl
  subst ev;obtain ⟨u,rfl,ru⟩:=vals1 r;have new0':=cU I1 (λ b z=>by rw [Bd.ex] at z;cases z) (a:=s1.heap.objs.size+1) (Heap.get?_none_of_le (Nat.le_succ _))
  obtain ⟨hh,g,dr,tk,os⟩:=s1;refine uP I1.kIn O ?_ (by show 1<=sizeLine;decide)
  have hx0:((hh.push (I9 [u])).push (IV C hh.objs.size)).get? (hh.objs.size+1)=some (Gh C hh.objs.size none #[]):=by heap_get
  have J0:=I1.kept (h':=hh.push (I9 [u])) (t':=tk) (λ b o z=>Heap.get?_push_of_some _ z)
  have J:Inv X pins σ (upd H1 (hh.objs.size+1) (xN (hh.objs.size+1) C none)) ⟨(hh.push (I9 [u])).push (IV C hh.objs.size),g,dr,tk,os⟩:=
   J0.laid (a:=hh.objs.size+1) (o:=xN (hh.objs.size+1) C none) (t':=tk) (λ b o z=>Heap.get?_push_of_some _ z) (Nat.le_of_eq (Heap.size_push _ _)) (XN.ok ⟨_,_,hx0⟩)
  have he1:H1 (hh.objs.size+1)=none:=I1.hok.fresh (Nat.le_succ _);have r2:Vals [V.ref (hh.objs.size+1),v] [Value.ref (hh.objs.size+1),u]:=.cons rfl (.cons ru .nil);have hl:([Value.ref (hh.objs.size+1),u]++([]:List Value)).length=["self","at"].length:=rfl;refine wpAny_call (codeAny_mono (Fi.run _ X.stack _ _ ⟨[.ref (hh.objs.size+1),u],[]⟩ [.ref (hh.objs.size+1),u] [.ref (hh.objs.size+1),v]
   (λ v' H2=>v'=.non/\∃dx,H1 dx=none/\dx≠hh.objs.size+1/\H2=upd (upd (upd H1 (hh.objs.size+1) (xN (hh.objs.size+1) C none)) dx (.xd [("at",v)])) (hh.objs.size+1) (xN (hh.objs.size+1) C (some dx))) E0 (hr.room.make C [u] []).b (J.env0.make C [u] []) (hb _ [.ref (hh.objs.size+1),u] J.kIn hl) r2
   ⟨_,_,rfl,Aq,λ dx n1 n2=>⟨rfl,dx,by rw [Av n2] at n1;exact n1,n2,rfl⟩⟩) λ r s' hq'=>?_)
  cases r with
  | error e=>
   obtain ⟨_,_,_,_,_,_,_,_,_,_,_,_,z⟩:=hq';exact z.elim
  | ok fl=>
   cases fl with
   | next=>exact False.elim hq'
   | brk=>exact False.elim hq'
   | cont=>exact False.elim hq'
   | ret u'=>
    obtain ⟨v',H2,I2,rv,ev,dx,n1,n2,eH⟩:=J.after hq';subst ev;refine ⟨rv,?_⟩;have hx2:H2 (hh.objs.size+1)=some (xN (hh.objs.size+1) C (some dx)):=by rw [eH];exact Aq
    obtain ⟨⟨t1,sl1,ho1⟩,_,_⟩:=(show ObjOk X.prog X.w H2 s'.heap (hh.objs.size+1) (xN (hh.objs.size+1) C (some dx)) from I2.hok _ _ hx2)
    refine ⟨hh.objs.size+1,t1,some dx,sl1,rfl,I2.kIn,O,ho1,?_⟩;have eD:Iv H2 (hh.objs.size+1)=upd H1 dx (.xd [("at",v)]):=by
     funext b
     by_cases z:b=hh.objs.size+1
     ·subst z;rw [Vf,Av (Ne.symm n2)];exact he1.symm
     ·rw [Hq z,eH,Av z];by_cases z2:b=dx
      ·subst z2;rw [Aq,Aq]
      ·rw [Av z2,Av z2,Av z]
    have qE:E (.ref C) (some dx) (Iv H2 (hh.objs.size+1)):=by rw [eD];exact q dx n1
    rw [Bd.xe];have hfr:X.A.frames=some (X.env::X.outer):=by rw [<- Bd.stk];exact I.ok.frames
    have nS:hh.objs.size+1∉frs X.stack:=λ m=>by
     have:=I2.stkFree _ m;rw [hx2] at this;cases this
    have hin:∀env∈X.stack,∀b,env.frame=some b->b∈((hh.objs.size+1)::frs X.stack):=λ env he b hb=>List.mem_cons_of_mem _ (List.mem_filterMap.mpr ⟨env,he,hb⟩)
    have ff:s'.heap.FunFrames (PySem.W.hideAll s'.heap ((hh.objs.size+1)::frs X.stack)) (X.env::X.outer):=by
     have z:=PySem.W.funFrames_hide I2.stack hin;rw [<- Bd.stk];exact z
    refine gU (s:=s') hfr Bd.fr (λ b o q=>PySem.W.of_hideAll _ q) (PySem.W.hideAll_none _ (List.mem_cons_self ..)) ff ho1 rfl rfl ⟨_,rfl,.none⟩ λ h3 fly up=>?_
    exact ⟨_,C,some dx,Iv H2 (hh.objs.size+1),_,rfl,I2.os,I2.bare,λ h'' st up2=>gR Bd I2 hx2 new0' nS up h'' st up2,fly,Vf,new0',qE⟩
 first
  | refine wpAny_bind (wpAny_standAt (dI (K:=X.K) (C:=C) (CB:=CB) (fI:=fI) (I.ok.hd hc) (wpAny_bind (wpAny_mono key (λ v s₃ h₃=>wpAny_bind (wpAny_standAt (wpAny_pure h₃))) λ _ _ x=>x))))
  | (simp only [evalOpt,Option.map];refine wpAny_bind (wpAny_standAt (dI (K:=X.K) (C:=C) (CB:=CB) (fI:=fI) (I.ok.hd hc) (wpAny_bind (wpAny_mono key (λ v s₃ h₃=>wpAny_bind (wpAny_standAt (wpAny_pure h₃))) λ _ _ x=>x)))))
end
def yI (K:FrG)(Bc:Addr)(D:Ends)(σ:St)(i:Nat)(ts:TS):XK:=λ c d H2=>∃C,c=.ref C/\PySem.W.exmOne K (.ref C) (.ref Bc)=some true/\∀a,H2 a=none->ts (D.gone i) (σ.set i (some (.ref a))) (upd H2 a (xC a C d))
section
variable {X:Cx}{c:Bool}{k:Nat}{ps:List Str}{sp:Sp}{x xc n:Str}{p pos cpos epos np hp:Pos}{e:Expr}{es:List Expr}{t:TA}{Bc:Addr}{b₀:Stmt}{suite:List Stmt}{ts:TS}{i:Nat}
theorem Zg {body:List Stmt}{tb:dM}(hb:aj X body tb)(hst:X.stack=X.env::X.outer)(hf:X.env.frame=some X.env.locals)
  (hcl:X.mg xc=some (.ref Bc)) (hs:∀a,PSs (X.hnd a) (b₀::suite) ts) (hN:X.N.Nodup) (hi:X.N[i]?=some n) (hloc:X.env.scope.names.lookup n=some .local) (hgc:Gl X xc:=by rfl) (hdc:(xc == ("__debug__":Str))=false:=by decide):
  PS X (.Try body [.ExceptHandler (some (.Name xc np)) (some n) (b₀::suite) hp] [] [] pos) (λ D σ H=>tb (yI X.K Bc D σ i ts) (λ H2=>D.nx σ H2) σ H):=by
 intro pins s σ H D I h;refine wpAny_Try_except (wpAny_mono (hb pins s σ H _ _ I h) (λ f s1 hq=>?_) (λ e s' hx=>?_))
 ·obtain ⟨rfl,H2,I2,q⟩:=hq;exact wpAny_execs_nil ⟨σ,H2,I2,q⟩
 ·obtain ⟨H1,s1,I1,a,C,d,H',B,rfl,os,bare,clo,fly,na,nw,C',eC,hmm,q2⟩:=hx;cases eC
  exact lu (φ:=XC a C d) (λ _ o h1 h2 h3 ⟨vs,h4⟩=>⟨o,vs,h1,h2,h3,h4⟩) (λ _ _ z k=>z.stay k) I1 hst hf os bare clo fly na nw hgc hcl hmm (hs a) hN hi hloc (q2 a na) hdc
end
section
variable {prog:Program}{w:World}{A:Around}{E:Value->Shared->Prop}{s:Shared}{K:FrG}{x C:Addr}{ox od:Obj}{f:Str}{v:Value}
theorem qR {Q:Fin->Shared->Prop}{tk:Tok}(X:K.In s.heap)(I:InstAt s.heap x ox C (some od))(hf:findObj K C (some od) f=some (.value v))(hh:handedIn v=true)(hq:Q (.done (.ret v)) s):
  wpAny (model prog w) A (Builtin.«object.__getattribute__» ⟨[.ref x,.str f tk],[]⟩) Q E s:=by
 obtain ⟨hp,g,d,t,os⟩:=s;have y0:=I.type (M:=model prog w);have y2:=looks_find (M:=model prog w) X I hf;unfold Builtin.«object.__getattribute__»
 repeat (any_goals (first | assumption | (with_reducible refine y0.at ?_) | (with_reducible refine y2.at ?_) | wp_step))
theorem qt {expr:Bool}{Q:Value->Shared->Prop}(X:K.In s.heap)(F:ExcK K C)(I:InstAt s.heap x ox C (some od))(hf:findObj K C (some od) f=some (.value v))(hh:handedIn v=true)(h:Q v { s with toks:=s.toks+1 }):
  wpAny (model prog w) A (getAttr (.ref x) f expr) Q E s:=by
 obtain ⟨hp,g,d,t,os⟩:=s;have y0:=I.type (M:=model prog w);have y1:=looks_findIn (M:=model prog w) X F.ga;have y3:=looks_findIn (M:=model prog w) X F.gt;have f3:=PySem.F.excAttr_ValueError.ga.bind (.ref x);have ex:ExcAt x C hp:=⟨ox,I.at_,I.cls⟩;have hx1:(onTheHeap (Value.ref C) && Value.builtin "BaseException.__getattribute__" == Value.builtin "object.__getattribute__")=false:=by
  rw [show (Value.builtin "BaseException.__getattribute__" == Value.builtin "object.__getattribute__")=false by decide+kernel];rfl
 unfold getAttr getAttrBy;refine wpAny_bind (wpAny_mkText (wpAny_holding (wpAny_bind (y0.at (wpAny_bind (y1.at ?_))))));dsimp only
 rw [hx1];rw [if_neg Bool.false_ne_true];unfold getAttrByItsOwn hookBefore
 repeat (any_goals (first | assumption | wp_step | lk))
 have hx2:(expr && onTheHeap (Value.builtin "BaseException.__getattribute__"))=false:=Bool.and_false _;rw [hx2,if_neg Bool.false_ne_true];unfold boundAndCalled
 repeat (any_goals (first | assumption | wp_step | lk))
 refine codeAny_call_builtin PySem.F.excAttr_ValueError.ga.plain PySem.F.entry_bexc_ga (lG (s:=⟨hp,g,d,t+1,os⟩) X ex F (qR (s:=⟨hp,g,d,t+1,os⟩) X I hf hh ?_));show wpAny _ _ (handedOut v) _ _ _;rw [handedOut_of hh];exact wpAny_pure h
end
section
variable {X:Cx}{e:Expr}{ta:TE}{f:Str}{pos:Pos}
def ak (K:FrG)(ta:TE)(f:Str):TE:=λ σ H Q=>ta σ H λ x H1=>∃a C dx fs v,x=.ref a/\H1 a=some (xC a C (some dx))/\H1 dx=some (.xd fs)/\ExcK K C/\PySem.W.hasDictIn K C=true/\NoAttr K C f/\fs.lookup f=some v/\Q v H1
theorem oO (he:PE X e ta)(hb:attributeBase e f X.env (eval e X.env)=eval e X.env:=by rfl):PE X (.Attribute e f pos) (ak X.K ta f):=by
 intro pins s σ H Q I h;refine Yo hb (thn (he pins s σ H _ I h) λ u s1 ⟨x,H1,I1,rx,a,C,dx,fs,v,ex,ea,ed,F,hd,n,l,q⟩=>?_)
 subst ex;obtain rfl:u=Value.ref a:=rx;obtain ⟨⟨o,vs,ho,hc,hdd,hdat⟩,_,_⟩:=(show ObjOk X.prog X.w H1 s1.heap a (xC a C (some dx)) from I1.hok a _ ea)
 obtain ⟨mA,ns,r⟩:=(show ObjOk X.prog X.w H1 s1.heap dx (.xd fs) from I1.hok dx _ ed)
 obtain ⟨od,hod,hl⟩:=cD ns;obtain ⟨u,hu,ru⟩:=RelO.some_of (v:=v) (o:=mA f) (by rw [<- l];exact r f)
 have J:InstAt s1.heap a o C (some od):=⟨ho,hc,by obtain ⟨c0,d0,dt0,sl0⟩:=o;cases (show dt0=.fields vs from hdat);rfl,by rw [hdd];exact hod⟩
 exact qt I1.kIn F J (findObj_own hd n rfl (by rw [hl,hu])) (ZQ ru) ⟨v,H1,I1.tok _,ru,q⟩
theorem aR {K:FrG}(he:PE X e ta)(hb:attributeBase e f X.env (eval e X.env)=eval e X.env:=by rfl)(hK:X.K=K:=by rfl):PE X (.Attribute e f pos) (ak K ta f):=hK▸oO he hb
end
end L2
namespace L2
open PySem PySem.Spec PySem.Calls PyProof.Rows PySem.W
end L2
namespace Lib
open PySem L2 Fr Op
def qj:Option Nat->V
 | none=>.non
 | some i=>.int (i:Int)
def WQ (H:Hp)(C:Addr)(o:Option Nat)(E:XK):Prop:=∀H' dx,Same H H'->H' dx=some (.xd [("at",qj o)])->E (.ref C) (some dx) H'
end Lib
namespace L2
open PySem PySem.Spec PyProof.Rows
end L2
namespace L2
open PySem PySem.Spec PyProof.Rows PySem.Builtin PySem.Builtin.Str
end L2
namespace Lib
open PySem L2 Fr Op
end Lib
namespace L2
open PySem PySem.Spec PyProof.Rows PySem.Builtin PySem.SeqAt
def Zx (K:FrG)(neg:Bool):R2:=λ x y H Q=>∃p xs dx ds,y=.ref p/\SqL K H p xs/\DV K H x dx/\DVs K H xs ds/\dx.canLay0=true/\dx.depth<=60/\PyData.canLayAll0 ds=true/\Q (.bl (if neg then !ds.any (λ d=>PyData.eqv d dx) else ds.any (λ d=>PyData.eqv d dx))) H
theorem UV {h:Heap}:∀{us:List Value} {ds:List PyData} {as:List Addr},ReadsAll h us ds as->∀u∈us,∃d as,d∈ds/\Reads h u d as
 | _,_,_,.nil,u,hu=>nomatch hu
 | _,_,_,.cons r rs,u,hu=>by
  rcases List.mem_cons.mp hu with rfl | hu
  ·exact ⟨_,_,List.mem_cons_self,r⟩
  ·obtain ⟨d,as,hd,hr⟩:=UV rs u hu;exact ⟨d,as,List.mem_cons_of_mem _ hd,hr⟩
theorem Ks:∀{ds:List PyData},PyData.canLayAll0 ds=true->∀d∈ds,d.canLay0=true
 | [],_,d,h=>nomatch h
 | e::ds,c,d,h=>by
  rw [PyData.canLayAll0] at c;rcases List.mem_cons.mp h with rfl | h
  ·exact (Bool.and_eq_true_iff.mp c).1
  ·exact Ks (Bool.and_eq_true_iff.mp c).2 d h
noncomputable def Gv (h:Heap) (dx:PyData) (u:Value):Bool:=@dite Bool (∃d as,Reads h u d as/\d.canLay0=true) (Classical.propDecidable _) (λ c=>PyData.eqv (Classical.choose c) dx) (λ _=>false)
theorem TJ {h:Heap}{dx d:PyData}{u:Value}{as:List Addr}(r:Reads h u d as)(c:d.canLay0=true):Gv h dx u=PyData.eqv d dx:=by
 unfold Gv;have e:∃d as,Reads h u d as/\d.canLay0=true:=⟨d,as,r,c⟩;rw [dif_pos e];obtain ⟨as',r',_⟩:=Classical.choose_spec e;rw [<- PySem.SeqAt.Reads.unique d _ u as as' c r r']
theorem V7 {h:Heap}{dx:PyData}:∀{us:List Value} {ds:List PyData} {as:List Addr},ReadsAll h us ds as->PyData.canLayAll0 ds=true->us.any (Gv h dx)=ds.any (λ d=>PyData.eqv d dx)
 | _,_,_,.nil,_=>rfl
 | _,_,_,.cons r rs,c=>by
  rw [PyData.canLayAll0] at c;rw [List.any_cons,List.any_cons,V7 rs (Bool.and_eq_true_iff.mp c).2,TJ r (Bool.and_eq_true_iff.mp c).1]
section
variable {X:Cx}
theorem dB (hu:X.A.units+64 < cLine):OpR X (compareOp .In) (Zx X.K false):=by
 intro pins s σ H x y v u Q I rx ry h;obtain ⟨p,xs,dx,ds,rfl,hq,hx,hd,cx,dp,cs,q⟩:=h;cases ry
 obtain ⟨its,r,pl,hz⟩:=I.list hq;obtain ⟨a1,r1⟩:=hx.reads I cx rx;obtain ⟨a2,r2⟩:=DVs.reads I hd cs r;refine SeqAt.in_listAt (Gv s.heap dx) pl.isList (λ w hw=>?_) ⟨.bl _,H,I,rfl,?_⟩
 ·obtain ⟨d,as,hd',hr⟩:=UV r2 w (by simpa using hw)
  rw [TJ hr (Ks cs d hd')];refine eqAt_reads d dx X.A.in1 s w v as a1 hr r1 (Ks cs d hd') cx ?_;have:X.A.in1.units=X.A.units+1:=rfl;have:=Nat.min_le_right d.depth dx.depth;omega
 ·rw [show its.toArray.any (Gv s.heap dx)=its.any (Gv s.heap dx) by simp,V7 r2 cs]
  exact q
theorem cQ (hu:X.A.units+64 < cLine):OpR X (compareOp .NotIn) (Zx X.K true):=by
 intro pins s σ H x y v u Q I rx ry h;obtain ⟨p,xs,dx,ds,rfl,hq,hx,hd,cx,dp,cs,q⟩:=h;cases ry
 obtain ⟨its,r,pl,hz⟩:=I.list hq;obtain ⟨a1,r1⟩:=hx.reads I cx rx;obtain ⟨a2,r2⟩:=DVs.reads I hd cs r;refine SeqAt.notIn_listAt (Gv s.heap dx) pl.isList (λ w hw=>?_) ⟨.bl _,H,I,rfl,?_⟩
 ·obtain ⟨d,as,hd',hr⟩:=UV r2 w (by simpa using hw)
  rw [TJ hr (Ks cs d hd')];refine eqAt_reads d dx X.A.in1 s w v as a1 hr r1 (Ks cs d hd') cx ?_;have:X.A.in1.units=X.A.units+1:=rfl;have:=Nat.min_le_right d.depth dx.depth;omega
 ·rw [show its.toArray.any (Gv s.heap dx)=its.any (Gv s.heap dx) by simp,V7 r2 cs]
  exact q
end
end L2
namespace Op
open Fr
def Bw (a b:Aa):Bool:=if a.1=b.1 then decide (a.2 < b.2) else decide (a.1 < b.1)
def Ak (s e r:Aa):Rat:=(e.1 - s.1) * (r.2 - s.2) - (e.2 - s.2) * (r.1 - s.1)
def Bg (cs:List Aa)(i:Nat):Aa:=cs.getD i (0,0)
def Cz (cs:List Aa)(i:Nat):Aa:=if i=0 then Bg cs (cs.length - 1) else Bg cs (i - 1)
def Fj (cs:List Aa)(r:Aa):Nat->Bool
 | 0=>true
 | i+1=>Fj cs r i && !decide (Ak (Cz cs i) (Bg cs i) r < 0)
def Ez (cs:List Aa)(r:Aa):Bool:=
 if cs.length < 2 then cs.any (λ c=>decide (c=r)) else Fj cs r cs.length && (if 2 < cs.length then true else !Bw r (Bg cs 0) && !Bw (Bg cs 1) r)
theorem QK (cs:List Aa)(r:Aa):∀m,Fj cs r m=true↔∀i,i < m->¬ Ak (Cz cs i) (Bg cs i) r < 0
 | 0=>by simp [Fj]
 | m+1=>by
  rw [Fj,Bool.and_eq_true,QK cs r m]
  constructor
  ·rintro ⟨h1,h2⟩ i hi
   by_cases e:i=m
   ·subst e;simpa using h2
   ·exact h1 i (by omega)
  ·intro h;exact ⟨λ i hi=>h i (by omega),by simpa using h m (by omega)⟩
end Op
namespace Lib
open PySem L2 Fr Op
structure Rn (n:Nat)(r:Aa):Prop where
 y:Bd n r.1
 u:Bd n r.2
def qw:List PyData->PyData->Prop:=λ ds d=>∃a b n,ds=[Ax a,Ax b]/\Rn n a/\Rn n b/\n<=4000/\d=.bool (Bw a b)
theorem WY {cs:List Aa}{i:Nat}{c:Aa}(h:cs[i]?=some c):Bg cs i=c:=by
 unfold Bg;rw [List.getD_eq_getElem?_getD,h];rfl
theorem Hy {cs:List Aa}{i:Nat}(h:i < cs.length):Bg cs i∈cs:=by
 rw [WY (List.getElem?_eq_getElem h)];exact List.getElem_mem h
theorem XJ {cs:List Aa}{i:Nat}(h:i < cs.length):Cz cs i∈cs:=by
 unfold Cz
 split
 ·exact Hy (by omega)
 ·exact Hy (by omega)
theorem Hv {K:FrG}{H:Hp}{xs:List V}{cs:List Aa}(h:DVs K H xs (cs.map Ax)){i:Nat}(hi:i < cs.length):∃v,xs[i]?=some v/\DV K H v (Ax (Bg cs i)):=by
 have hl:=h.len;rw [List.length_map] at hl;obtain ⟨d,hd,hv⟩:=h.get (i:=i) (List.getElem?_eq_getElem (show i < xs.length by omega))
 obtain ⟨c,hc,rfl⟩:=Io hd;rw [<- WY hc] at hv;exact ⟨_,List.getElem?_eq_getElem (show i < xs.length by omega),hv⟩
theorem Yc {xs:List V}{v:V}(h:xs[xs.length - 1]?=some v):atI xs (-1)=some v:=yW (by rw [List.getLast?_eq_getElem?];exact h)
theorem XM {K:FrG}{H:Hp}{xs:List V}{cs:List Aa}(h:DVs K H xs (cs.map Ax)){i:Nat}(hi:i < cs.length):∃v,atI xs ((i:Int) - 1)=some v/\DV K H v (Ax (Cz cs i)):=by
 have hl:=h.len;rw [List.length_map] at hl;cases i with
 | zero=>
  obtain ⟨v,hv,hd⟩:=Hv h (i:=cs.length - 1) (by omega)
  refine ⟨v,?_,hd⟩;rw [show (((0:Nat):Int) - 1)=-1 from rfl]
  exact Yc (by rw [hl];exact hv)
 | succ j=>
  obtain ⟨v,hv,hd⟩:=Hv h (i:=j) (by omega)
  refine ⟨v,?_,hd⟩;rw [show (((j+1:Nat):Int) - 1)=(j:Int) by omega]
  exact Eh hv
theorem Rf (cs:List Aa)(r:Aa):(cs.map Ax).any (λ d=>PyData.eqv d (Ax r))=cs.any (λ c=>decide (c=r)):=by
 induction cs with
 | nil=>rfl
 | cons c cs ih=>rw [List.map_cons,List.any_cons,List.any_cons,ih,pX]
theorem W7 (cs:List Aa):PyData.canLayAll0 (cs.map Ax)=true:=by
 induction cs with
 | nil=>rfl
 | cons c cs ih=>
  rw [List.map_cons,PyData.canLayAll0,ih];rfl
end Lib
namespace Op
open Fr
abbrev BW:=Rat×Rat×Rat
def Ae (e:BW)(r:Aa):Rat:=e.1 * r.1+e.2.1 * r.2+e.2.2
def BL (t:Rat)(a b:Aa):Aa:=(a.1+t * (b.1 - a.1),a.2+t * (b.2 - a.2))
def Di (e:BW)(p q:Aa):Rat:=Ae e p / (Ae e p - Ae e q)
def Bh (e:BW)(p q:Aa):Aa:=BL (Di e p q) p q
theorem Jh (e:BW)(t:Rat)(a b:Aa):Ae e (BL t a b)=(1 - t) * Ae e a+t * Ae e b:=by
 unfold Ae BL;dsimp only
 grind
theorem JV (p q:Aa)(t:Rat)(a b:Aa):Ak p q (BL t a b)=(1 - t) * Ak p q a+t * Ak p q b:=by
 unfold Ak BL;dsimp only
 grind
theorem qJ (p q r:Aa):Ak q r p=Ak p q r:=by unfold Ak;grind
theorem az (p q r:Aa):Ak p r q=- Ak p q r:=by unfold Ak;grind
theorem Hi (p q:Aa):Ak p q q=0:=by unfold Ak;grind
theorem Jz (p q:Aa):Ak p q p=0:=by unfold Ak;grind
theorem xM (t:Rat)(p q z:Aa):Ak p (BL t p q) z=t * Ak p q z:=by
 unfold Ak BL;dsimp only
 grind
theorem W4 (t:Rat)(p q z:Aa):Ak (BL t p q) q z=(1 - t) * Ak p q z:=by
 unfold Ak BL;dsimp only
 grind
theorem DK {a b:Rat}(h:a * b < 0):(a < 0/\0 < b)\/(0 < a/\b < 0):=by
 rcases (show a < 0\/a=0\/0 < a by grind) with ha | ha | ha
 ·rcases (show b < 0\/b=0\/0 < b by grind) with hb | hb | hb
  ·have:=Rat.mul_pos (show 0 < -a by grind) (show 0 < -b by grind)
   exfalso;grind
  ·subst hb;exfalso;grind
  ·exact .inl ⟨ha,hb⟩
 ·subst ha;exfalso;grind
 ·rcases (show b < 0\/b=0\/0 < b by grind) with hb | hb | hb
  ·exact .inr ⟨ha,hb⟩
  ·subst hb;exfalso;grind
  ·have:=Rat.mul_pos ha hb;exfalso;grind
theorem Iu {a b:Rat}(ha:a < 0)(hb:0 < b):a * b < 0:=by
 have:=Rat.mul_pos (show 0 < -a by grind) hb
 grind
theorem GZ {e:BW}{p q:Aa}(h:Ae e p * Ae e q < 0):0 < Di e p q/\Di e p q < 1:=by
 unfold Di;generalize Ae e p=a at h ⊢;generalize Ae e q=b at h ⊢;have hd:a - b≠0:=by rcases DK h with ⟨h1,h2⟩ | ⟨h1,h2⟩<;>grind
 have e1:a / (a - b) * (a - b)=a:=by grind
 rcases DK h with ⟨h1,h2⟩ | ⟨h1,h2⟩
 ·constructor
  ·rcases (show a / (a - b)<=0\/0 < a / (a - b) by grind) with c | c
   ·have:=Rat.mul_nonneg (show 0<=-(a / (a - b)) by grind) (show 0<=-(a - b) by grind)
    grind
   ·exact c
  ·rcases (show 1<=a / (a - b)\/a / (a - b) < 1 by grind) with c | c
   ·have:=Rat.mul_nonneg (show 0<=a / (a - b) - 1 by grind) (show 0<=-(a - b) by grind)
    grind
   ·exact c
 ·constructor
  ·rcases (show a / (a - b)<=0\/0 < a / (a - b) by grind) with c | c
   ·have:=Rat.mul_nonneg (show 0<=-(a / (a - b)) by grind) (show 0<=(a - b) by grind)
    grind
   ·exact c
  ·rcases (show 1<=a / (a - b)\/a / (a - b) < 1 by grind) with c | c
   ·have:=Rat.mul_nonneg (show 0<=a / (a - b) - 1 by grind) (show 0<=(a - b) by grind)
    grind
   ·exact c
theorem Gf {e:BW}{p q:Aa}(h:Ae e p * Ae e q < 0):Ae e (Bh e p q)=0:=by
 unfold Bh;rw [Jh];unfold Di;generalize Ae e p=a at h ⊢;generalize Ae e q=b at h ⊢;have hd:a - b≠0:=by rcases DK h with ⟨h1,h2⟩ | ⟨h1,h2⟩<;>grind
 grind
theorem Jr {e:BW}{s t:Aa}(hs:Ae e s=0)(ht:Ae e t=0)(hst:s≠t)(he:e.1≠0\/e.2.1≠0):∃k:Rat,k≠0/\∀z,Ak s t z=k * Ae e z:=by
 obtain ⟨a,b,c⟩:=e;obtain ⟨s1,s2⟩:=s;obtain ⟨t1,t2⟩:=t;unfold Ae at hs ht ⊢;unfold Ak;dsimp only at hs ht he ⊢
 have hne:t1 - s1≠0\/t2 - s2≠0:=by
  rcases (show t1 - s1=0\/t1 - s1≠0 by grind) with c1 | c1
  ·rcases (show t2 - s2=0\/t2 - s2≠0 by grind) with c2 | c2
   ·exact absurd (show ((s1,s2):Aa)=(t1,t2) by rw [show t1=s1 by grind,show t2=s2 by grind]) hst
   ·exact .inr c2
  ·exact .inl c1
 rcases he with he | he
 ·refine ⟨-(t2 - s2) / a,?_,λ z=>?_⟩
  ·intro h;have h2:t2 - s2=0:=by grind
   have h1:a * (t1 - s1)=0:=by grind
   rcases hne with h3 | h3
   ·grind
   ·exact h3 h2
  ·grind
 ·refine ⟨(t1 - s1) / b,?_,λ z=>?_⟩
  ·intro h;have h2:t1 - s1=0:=by grind
   have h1:b * (t2 - s2)=0:=by grind
   rcases hne with h3 | h3
   ·exact h3 h2
   ·grind
  ·grind
def Bl (l:Aa):List Aa->List (Aa×Aa)
 | []=>[]
 | q::r=>(l,q)::Bl q r
def BR (ps:List Aa):List (Aa×Aa):=match ps.getLast? with
 | none=>[]
 | some l=>Bl l ps
theorem Tw (l q:Aa):∀ps:List Aa,Bl l (ps++[q])=Bl l ps++[(((l::ps).getLast (by simp)),q)]
 | []=>rfl
 | p::r=>by
  show (l,p)::Bl p (r++[q])=_;rw [Tw p q r];rfl
theorem Xd {l:Aa}{ps:List Aa}{x:Aa×Aa}(h:x∈Bl l ps):(x.1=l\/x.1∈ps)/\x.2∈ps:=by
 induction ps generalizing l with
 | nil=>cases h
 | cons q r ih=>
  rcases List.mem_cons.mp (show x∈(l,q)::Bl q r from h) with rfl | h
  ·exact ⟨.inl rfl,by simp⟩
  ·obtain ⟨h1,h2⟩:=ih h;exact ⟨.inr (by rcases h1 with h1 | h1<;>simp [h1]),List.mem_cons_of_mem _ h2⟩
theorem Cy {ps:List Aa}{x:Aa×Aa}(h:x∈BR ps):x.1∈ps/\x.2∈ps:=by
 unfold BR at h;cases e:ps.getLast? with
 | none=>rw [e] at h;cases h
 | some l=>
  rw [e] at h;obtain ⟨h1,h2⟩:=Xd h;refine ⟨?_,h2⟩;rcases h1 with h1 | h1
  ·rw [h1];exact List.mem_of_getLast? e
  ·exact h1
theorem ZW {l q:Aa}:∀{ps:List Aa},q∈ps->∃p,(p,q)∈Bl l ps
 | [],h=>nomatch h
 | z::r,h=>by
  rcases List.mem_cons.mp h with rfl | h
  ·exact ⟨l,by simp [Bl]⟩
  ·obtain ⟨p,hp⟩:=ZW (l:=z) h;exact ⟨p,List.mem_cons_of_mem _ hp⟩
theorem O1 {q:Aa}{ps:List Aa}(h:q∈ps):∃p,(p,q)∈BR ps:=by
 unfold BR;cases e:ps.getLast? with
 | none=>rw [List.getLast?_eq_none_iff] at e;subst e;cases h
 | some l=>exact ZW h
theorem Y0 {p:Aa}:∀{l:Aa} {ps:List Aa},p∈l::ps->(∃q,(p,q)∈Bl l ps)\/(l::ps).getLast (by simp)=p
 | l,[],h=>by rw [List.mem_singleton.mp h];exact .inr rfl
 | l,z::r,h=>by
  rcases List.mem_cons.mp h with rfl | h
  ·exact .inl ⟨z,by simp [Bl]⟩
  ·rcases Y0 h with ⟨q,hq⟩ | hq
   ·exact .inl ⟨q,List.mem_cons_of_mem _ hq⟩
   ·exact .inr (by rw [List.getLast_cons (by simp)];exact hq)
theorem Yw {p:Aa}{ps:List Aa}(h:p∈ps):∃q,(p,q)∈BR ps:=by
 cases ps with
 | nil=>cases h
 | cons z r=>
  have e:(z::r).getLast?=some ((z::r).getLast (by simp)):=List.getLast?_eq_some_getLast (by simp)
  unfold BR;rw [e];show ∃q,(p,q)∈((z::r).getLast (by simp),z)::Bl z r
  rcases Y0 (l:=z) (ps:=r) h with ⟨q,hq⟩ | hq
  ·exact ⟨q,List.mem_cons_of_mem _ hq⟩
  ·exact ⟨z,by rw [hq];simp⟩
structure ES (ps:List Aa):Prop where
 nd:ps.Nodup
 st:∀x∈BR ps,∀z∈ps,z≠x.1->z≠x.2->0 < Ak x.1 x.2 z
theorem ES.ge {ps:List Aa}(h:ES ps){x:Aa×Aa}(hx:x∈BR ps){z:Aa}(hz:z∈ps):0<=Ak x.1 x.2 z:=by
 by_cases c1:z=x.1
 ·rw [c1,Jz];exact Rat.le_refl
 ·by_cases c2:z=x.2
  ·rw [c2,Hi];exact Rat.le_refl
  ·have:=h.st x hx z hz c1 c2
   grind
theorem yO {l:Aa}{ps:List Aa}{x:Aa×Aa}(nd:(l::ps).Nodup)(h:x∈Bl l ps):x.1≠x.2:=by
 induction ps generalizing l with
 | nil=>cases h
 | cons q r ih=>
  rcases List.mem_cons.mp (show x∈(l,q)::Bl q r from h) with rfl | h
  ·intro e;have:=(List.nodup_cons.mp nd).1;exact this (by rw [show l=q from e];simp)
  ·exact ih (List.nodup_cons.mp nd).2 h
theorem Gr {ps:List Aa}{x:Aa×Aa}(nd:ps.Nodup)(h2:2<=ps.length)(h:x∈BR ps):x.1≠x.2:=by
 cases ps with
 | nil=>simp at h2
 | cons z r=>
  have e:(z::r).getLast?=some ((z::r).getLast (by simp)):=List.getLast?_eq_some_getLast (by simp)
  unfold BR at h;rw [e] at h;rcases List.mem_cons.mp (show x∈((z::r).getLast (by simp),z)::Bl z r from h) with rfl | h
  ·cases r with
   | nil=>simp at h2
   | cons y r=>
    intro e;have h3:(z::y::r).getLast (by simp)=z:=e
    rw [List.getLast_cons (by simp)] at h3
    exact (List.nodup_cons.mp nd).1 (by rw [<- h3];exact List.getLast_mem _)
  ·exact yO nd h
theorem third {ps:List Aa}(nd:ps.Nodup)(h3:3<=ps.length)(p q:Aa):∃z∈ps,z≠p/\z≠q:=by
 match ps,nd,h3 with
 | a::b::c::r,nd,_=>
  have n1:=(List.nodup_cons.mp nd).1;have n2:=(List.nodup_cons.mp (List.nodup_cons.mp nd).2).1;have ab:a≠b:=λ e=>n1 (by rw [e];simp)
  have ac:a≠c:=λ e=>n1 (by rw [e];simp)
  have bc:b≠c:=λ e=>n2 (by rw [e];simp)
  by_cases h1:a=p\/a=q
  ·by_cases h2:b=p\/b=q
   ·refine ⟨c,by simp,λ e=>?_,λ e=>?_⟩
    ·rcases h1 with h1 | h1<;>rcases h2 with h2 | h2
     ·exact ab (h1.trans h2.symm)
     ·exact ac (h1.trans e.symm)
     ·exact bc (h2.trans e.symm)
     ·exact ab (h1.trans h2.symm)
    ·rcases h1 with h1 | h1<;>rcases h2 with h2 | h2
     ·exact ab (h1.trans h2.symm)
     ·exact bc (h2.trans e.symm)
     ·exact ac (h1.trans e.symm)
     ·exact ab (h1.trans h2.symm)
   ·exact ⟨b,by simp,λ e=>h2 (.inl e),λ e=>h2 (.inr e)⟩
  ·exact ⟨a,by simp,λ e=>h1 (.inl e),λ e=>h1 (.inr e)⟩
theorem ES.back {ps:List Aa}(h:ES ps)(h3:3<=ps.length){p q:Aa}(h1:(p,q)∈BR ps)(h2:(q,p)∈BR ps):False:=by
 obtain ⟨z,hz,z1,z2⟩:=third h.nd h3 p q;have a1:=h.st _ h1 z hz z1 z2;have a2:=h.st _ h2 z hz z2 z1;dsimp only at a1 a2
 have:Ak q p z=- Ak p q z:=by unfold Ak;grind
 grind
theorem ES.mix {ps:List Aa}(h:ES ps)(h3:3<=ps.length){p q a b:Aa}(h1:(p,q)∈BR ps)(h2:(a,b)∈BR ps)(n:(a,b)≠(p,q)){t:Rat}(t0:0 < t)(t1:t < 1):0 < Ak p q (BL t a b):=by
 rw [JV];have ha:=h.ge h1 (Cy h2).1;have hb:=h.ge h1 (Cy h2).2;dsimp only at ha hb
 have nab:=Gr h.nd (by omega) h2
 dsimp only at nab
 rcases (show Ak p q a=0\/0 < Ak p q a by grind) with ca | ca
 ·rcases (show Ak p q b=0\/0 < Ak p q b by grind) with cb | cb
  ·exfalso;have in1:a=p\/a=q:=by
    by_cases c1:a=p
    ·exact .inl c1
    ·by_cases c2:a=q
     ·exact .inr c2
     ·have:=h.st _ h1 a (Cy h2).1 c1 c2;dsimp only at this
      grind
   have in2:b=p\/b=q:=by
    by_cases c1:b=p
    ·exact .inl c1
    ·by_cases c2:b=q
     ·exact .inr c2
     ·have:=h.st _ h1 b (Cy h2).2 c1 c2;dsimp only at this
      grind
   rcases in1 with rfl | rfl<;>rcases in2 with rfl | rfl
   ·exact nab rfl
   ·exact n rfl
   ·exact h.back h3 h1 h2
   ·exact nab rfl
  ·have:=Rat.mul_pos t0 cb;rw [ca]
   grind
 ·have x1:=Rat.mul_pos (show 0 < 1 - t by grind) ca
  have x2:=Rat.mul_nonneg (show 0<=t by grind) hb
  grind
theorem between {f:Aa->Rat}{t:Rat}{s z m:Aa}(hf:f m=(1 - t) * f s+t * f z)(t0:0 < t)(t1:t < 1)(hs:0<=f s)(hz:0<=f z)(hm:f m=0):f s=0/\f z=0:=by
 rw [hm] at hf;have a1:=Rat.mul_nonneg (show 0<=1 - t by grind) hs
 have a2:=Rat.mul_nonneg (show 0<=t by grind) hz
 have b1:(1 - t) * f s=0:=by grind
 have b2:t * f z=0:=by grind
 constructor
 ·rcases (show f s=0\/0 < f s by grind) with c | c
  ·exact c
  ·have:=Rat.mul_pos (show 0 < 1 - t by grind) c
   grind
 ·rcases (show f z=0\/0 < f z by grind) with c | c
  ·exact c
  ·have:=Rat.mul_pos t0 c
   grind
def CK (e:BW)(x:Aa×Aa):List Aa:=(if Ae e x.1 * Ae e x.2 < 0 then [Bh e x.1 x.2] else [])++(if 0<=Ae e x.2 then [x.2] else [])
def Bv (e:BW)(ps:List Aa):List Aa:=(BR ps).flatMap (CK e)
theorem emit_mem {e:BW}{x:Aa×Aa}{z:Aa}:z∈CK e x↔(Ae e x.1 * Ae e x.2 < 0/\z=Bh e x.1 x.2)\/(0<=Ae e x.2/\z=x.2):=by
 unfold CK;by_cases c1:Ae e x.1 * Ae e x.2 < 0<;>by_cases c2:0<=Ae e x.2<;>simp [c1,c2]
theorem cut_mem {e:BW}{ps:List Aa}{z:Aa}:z∈Bv e ps↔(z∈ps/\0<=Ae e z)\/∃x∈BR ps,Ae e x.1 * Ae e x.2 < 0/\z=Bh e x.1 x.2:=by
 unfold Bv;rw [List.mem_flatMap]
 constructor
 ·rintro ⟨x,hx,hz⟩
  rcases emit_mem.mp hz with ⟨h1,h2⟩ | ⟨h1,h2⟩
  ·exact .inr ⟨x,hx,h1,h2⟩
  ·rw [h2];exact .inl ⟨(Cy hx).2,h1⟩
 ·rintro (⟨h1,h2⟩ | ⟨x,hx,h1,h2⟩)
  ·obtain ⟨p,hp⟩:=O1 h1;exact ⟨(p,z),hp,emit_mem.mpr (.inr ⟨h2,rfl⟩)⟩
  ·exact ⟨x,hx,emit_mem.mpr (.inl ⟨h1,h2⟩)⟩
theorem R4 {e:BW}{ps:List Aa}{z:Aa}(h:z∈Bv e ps):0<=Ae e z:=by
 rcases cut_mem.mp h with ⟨_,h⟩ | ⟨x,_,h1,rfl⟩
 ·exact h
 ·rw [Gf h1];exact Rat.le_refl
theorem Xh (l:Aa):∀ps:List Aa,(Bl l ps).map Prod.snd=ps
 | []=>rfl
 | q::r=>by show q::(Bl q r).map Prod.snd=q::r;rw [Xh q r]
theorem Mf (ps:List Aa):(BR ps).map Prod.snd=ps:=by
 unfold BR;cases e:ps.getLast? with
 | none=>rw [List.getLast?_eq_none_iff] at e;rw [e];rfl
 | some l=>exact Xh l ps
theorem Yq {t:Rat}{p q:Aa}(h:p≠q)(t0:0 < t):BL t p q≠p:=λ e=>by
 apply h
 have h1:=congrArg Prod.fst e;have h2:=congrArg Prod.snd e;unfold BL at h1 h2;dsimp only at h1 h2
 have g1:t * (q.1 - p.1)=0:=by grind
 have g2:t * (q.2 - p.2)=0:=by grind
 exact Prod.ext (by grind) (by grind)
theorem bC {t:Rat}{p q:Aa}(h:p≠q)(t1:t < 1):BL t p q≠q:=λ e=>by
 apply h
 have h1:=congrArg Prod.fst e;have h2:=congrArg Prod.snd e;unfold BL at h1 h2;dsimp only at h1 h2
 have g1:(1 - t) * (q.1 - p.1)=0:=by grind
 have g2:(1 - t) * (q.2 - p.2)=0:=by grind
 exact Prod.ext (by grind) (by grind)
theorem Jl (p q:Aa)(t:Rat):Ak p q (BL t p q)=0:=by rw [JV,Jz,Hi];grind
section
variable {e:BW}{ps:List Aa}(h:ES ps)(h3:3<=ps.length)
include h h3
theorem Up {x:Aa×Aa}(hx:x∈BR ps)(hc:Ae e x.1 * Ae e x.2 < 0){z:Aa}(hz:z∈ps):Bh e x.1 x.2≠z:=λ ez=>by
 have t:=GZ hc;have n:=Gr h.nd (by omega) hx
 have h0:Ak x.1 x.2 z=0:=by rw [<- ez];exact Jl _ _ _
 by_cases c1:z=x.1
 ·exact Yq n t.1 (ez.trans c1)
 ·by_cases c2:z=x.2
  ·exact bC n t.2 (ez.trans c2)
  ·have:=h.st x hx z hz c1 c2
   grind
theorem Mi {x y:Aa×Aa}(hx:x∈BR ps)(hy:y∈BR ps)(n:x≠y)(hc:Ae e x.1 * Ae e x.2 < 0)(hd:Ae e y.1 * Ae e y.2 < 0):Bh e x.1 x.2≠Bh e y.1 y.2:=λ ez=>by
 have t:=GZ hd;have h1:0 < Ak x.1 x.2 (Bh e y.1 y.2):=h.mix (p:=x.1) (q:=x.2) (a:=y.1) (b:=y.2) h3 hx hy (λ z=>n z.symm) t.1 t.2
 rw [<- ez] at h1;have h2:Ak x.1 x.2 (Bh e x.1 x.2)=0:=Jl _ _ _
 grind
theorem Pz:(Bv e ps).Nodup:=by
 unfold Bv;show List.Pairwise _ _;rw [List.pairwise_flatMap];refine ⟨λ x hx=>?_,?_⟩
 ·unfold CK;by_cases c1:Ae e x.1 * Ae e x.2 < 0
  ·by_cases c2:0<=Ae e x.2
   ·rw [if_pos c1,if_pos c2];refine List.Pairwise.cons (λ z hz=>?_) (List.pairwise_singleton _ _)
    rw [List.mem_singleton.mp hz];exact Up h h3 hx c1 (Cy hx).2
   ·rw [if_pos c1,if_neg c2];exact List.pairwise_singleton _ _
  ·by_cases c2:0<=Ae e x.2
   ·rw [if_neg c1,if_pos c2];exact List.pairwise_singleton _ _
   ·rw [if_neg c1,if_neg c2];exact List.Pairwise.nil
 ·have nd:=h.nd;rw [<- Mf ps] at nd;have pw:(BR ps).Pairwise (λ a b=>a.2≠b.2):=List.pairwise_map.mp nd
  refine List.Pairwise.imp_of_mem (λ {a b} ha hb nab=>?_) pw
  intro x hx y hy exy;have nab':a≠b:=λ z=>nab (by rw [z])
  rcases emit_mem.mp hx with ⟨c1,rfl⟩ | ⟨c1,rfl⟩<;>rcases emit_mem.mp hy with ⟨c2,e2⟩ | ⟨c2,e2⟩
  ·exact Mi h h3 ha hb nab' c1 c2 (exy.trans e2)
  ·exact Up h h3 ha c1 (Cy hb).2 (exy.trans e2)
  ·exact Up h h3 hb c2 (Cy ha).2 (e2.symm.trans exy.symm)
  ·exact nab (exy.trans e2)
end
inductive Oc (e:BW)(ps:List Aa)(s t:Aa):Prop
 | old (p q:Aa) (k:Rat):(p,q)∈BR ps->0 < k->(∀z,Ak s t z=k * Ak p q z)->(s=p\/(s=Bh e p q/\Ae e p < 0))->(t=q\/(t=Bh e p q/\Ae e q < 0))->(Ae e p * Ae e q < 0->s=Bh e p q\/t=Bh e p q)->Oc e ps s t
 | cut (p q:Aa) (k:Rat):Ae e s=0->Ae e t=0->(p,q)∈BR ps->Ae e q < 0->0 < k->(∀z,Ak s q z=k * Ak p q z)->Oc e ps s t
def Q3 (e:BW)(ps:List Aa)(s l:Aa):Prop:=(0<=Ae e l/\s=l)\/(Ae e l < 0/\Ae e s=0/\∃p q k,(p,q)∈BR ps/\Ae e q < 0/\0 < k/\∀z,Ak s q z=k * Ak p q z)
theorem bZ (e:BW)(l q:Aa):
  (0<=Ae e l/\0<=Ae e q/\¬ Ae e l * Ae e q < 0/\CK e (l,q)=[q])\/(0 < Ae e l/\Ae e q < 0/\Ae e l * Ae e q < 0/\CK e (l,q)=[Bh e l q])\/(Ae e l=0/\Ae e q < 0/\CK e (l,q)=[])\/
  (Ae e l < 0/\0 < Ae e q/\Ae e l * Ae e q < 0/\CK e (l,q)=[Bh e l q,q])\/(Ae e l < 0/\Ae e q=0/\CK e (l,q)=[q])\/(Ae e l < 0/\Ae e q < 0/\CK e (l,q)=[]):=by
 unfold CK;dsimp only
 generalize Ae e l=a;generalize Ae e q=b;rcases (show a < 0\/a=0\/0 < a by grind) with ha | ha | ha<;>rcases (show b < 0\/b=0\/0 < b by grind) with hb | hb | hb
 ·have n:¬ a * b < 0:=λ z=>by rcases DK z with h | h<;>grind
  exact .inr (.inr (.inr (.inr (.inr ⟨ha,hb,by rw [if_neg n,if_neg (by grind)];rfl⟩))))
 ·have n:¬ a * b < 0:=λ z=>by rcases DK z with h | h<;>grind
  exact .inr (.inr (.inr (.inr (.inl ⟨ha,hb,by rw [if_neg n,if_pos (by grind)];rfl⟩))))
 ·have n:=Iu ha hb;exact .inr (.inr (.inr (.inl ⟨ha,hb,n,by rw [if_pos n,if_pos (by grind)];rfl⟩)))
 ·have n:¬ a * b < 0:=λ z=>by rcases DK z with h | h<;>grind
  exact .inr (.inr (.inl ⟨ha,hb,by rw [if_neg n,if_neg (by grind)];rfl⟩))
 ·have n:¬ a * b < 0:=λ z=>by rcases DK z with h | h<;>grind
  exact .inl ⟨by grind,by grind,n,by rw [if_neg n,if_pos (by grind)];rfl⟩
 ·have n:¬ a * b < 0:=λ z=>by rcases DK z with h | h<;>grind
  exact .inl ⟨by grind,by grind,n,by rw [if_neg n,if_pos (by grind)];rfl⟩
 ·have n:a * b < 0:=by have:=Iu hb ha;grind
  exact .inr (.inl ⟨ha,hb,n,by rw [if_pos n,if_neg (by grind)];rfl⟩)
 ·have n:¬ a * b < 0:=λ z=>by rcases DK z with h | h<;>grind
  exact .inl ⟨by grind,by grind,n,by rw [if_neg n,if_pos (by grind)];rfl⟩
 ·have n:¬ a * b < 0:=λ z=>by rcases DK z with h | h<;>grind
  exact .inl ⟨by grind,by grind,n,by rw [if_neg n,if_pos (by grind)];rfl⟩
theorem cC {e:BW}{ps:List Aa}:∀(qs:List Aa) (l s:Aa),(∀x∈Bl l qs,x∈BR ps)->Q3 e ps s l->∀y∈Bl s ((Bl l qs).flatMap (CK e)),Oc e ps y.1 y.2
 | [],_,_,_,_,_,h=>nomatch h
 | q::r,l,s,hE,hR,y,hy=>by
  have hlq:(l,q)∈BR ps:=hE (l,q) (by simp [Bl])
  have hE':∀x∈Bl q r,x∈BR ps:=λ x hx=>hE x (List.mem_cons_of_mem _ hx)
  have hy:y∈Bl s (CK e (l,q)++(Bl q r).flatMap (CK e)):=hy;have ih:=λ s' (hr:Q3 e ps s' q)=>cC r q s' hE' hr y
  rcases bZ e l q with ⟨a,b,n,em⟩ | ⟨a,b,n,em⟩ | ⟨a,b,em⟩ | ⟨a,b,n,em⟩ | ⟨a,b,em⟩ | ⟨a,b,em⟩
  ·have hs:s=l:=by
    rcases hR with ⟨_,h⟩ | ⟨h,_⟩
    ·exact h
    ·exfalso;grind
   rw [em] at hy;rcases List.mem_cons.mp (show y∈(s,q)::Bl q ((Bl q r).flatMap (CK e)) from hy) with rfl | hy
   ·exact .old l q 1 hlq (by decide) (λ z=>by dsimp only;rw [hs];grind) (.inl hs) (.inl rfl) (λ z=>absurd z n)
   ·exact ih q (.inl ⟨b,rfl⟩) hy
  ·have hs:s=l:=by
    rcases hR with ⟨_,h⟩ | ⟨h,_⟩
    ·exact h
    ·exfalso;grind
   have t:=GZ n;rw [em] at hy;rcases List.mem_cons.mp (show y∈(s,Bh e l q)::Bl (Bh e l q) ((Bl q r).flatMap (CK e)) from hy) with rfl | hy
   ·exact .old l q (Di e l q) hlq t.1 (λ z=>by dsimp only;rw [hs];exact xM _ _ _ _) (.inl hs) (.inr ⟨rfl,b⟩) (λ _=>.inr rfl)
   ·exact ih _ (.inr ⟨b,Gf n,l,q,1 - Di e l q,hlq,b,by grind,λ z=>W4 _ _ _ _⟩) hy
  ·have hs:s=l:=by
    rcases hR with ⟨_,h⟩ | ⟨h,_⟩
    ·exact h
    ·exfalso;grind
   rw [em] at hy;exact ih s (.inr ⟨b,by rw [hs];exact a,l,q,1,hlq,b,by decide,λ z=>by rw [hs];grind⟩) hy
  ·obtain ⟨h0,p',q',k',g1,g2,g3,g4⟩:Ae e s=0/\∃p q k,(p,q)∈BR ps/\Ae e q < 0/\0 < k/\∀z,Ak s q z=k * Ak p q z:=by
    rcases hR with ⟨h,_⟩ | ⟨_,h⟩
    ·exfalso;grind
    ·exact h
   have t:=GZ n;rw [em] at hy;rcases List.mem_cons.mp (show y∈(s,Bh e l q)::(Bh e l q,q)::Bl q ((Bl q r).flatMap (CK e)) from hy) with rfl | hy
   ·exact .cut p' q' k' h0 (Gf n) g1 g2 g3 g4
   ·rcases List.mem_cons.mp hy with rfl | hy
    ·exact .old l q (1 - Di e l q) hlq (by grind) (λ z=>W4 _ _ _ _) (.inr ⟨rfl,a⟩) (.inl rfl) (λ _=>.inl rfl)
    ·exact ih q (.inl ⟨by grind,rfl⟩) hy
  ·obtain ⟨h0,p',q',k',g1,g2,g3,g4⟩:Ae e s=0/\∃p q k,(p,q)∈BR ps/\Ae e q < 0/\0 < k/\∀z,Ak s q z=k * Ak p q z:=by
    rcases hR with ⟨h,_⟩ | ⟨_,h⟩
    ·exfalso;grind
    ·exact h
   rw [em] at hy;rcases List.mem_cons.mp (show y∈(s,q)::Bl q ((Bl q r).flatMap (CK e)) from hy) with rfl | hy
   ·exact .cut p' q' k' h0 b g1 g2 g3 g4
   ·exact ih q (.inl ⟨by grind,rfl⟩) hy
  ·have h0:Ae e s=0/\∃p q k,(p,q)∈BR ps/\Ae e q < 0/\0 < k/\∀z,Ak s q z=k * Ak p q z:=by
    rcases hR with ⟨h,_⟩ | ⟨_,h⟩
    ·exfalso;grind
    ·exact h
   rw [em] at hy;exact ih s (.inr ⟨b,h0⟩) hy
theorem ir {P:List Aa->Prop}(h0:P [])(h1:∀xs x,P xs->P (xs++[x]))(l:List Aa):P l:=by
 have:∀n (l:List Aa),l.length=n->P l:=by
  intro n
  induction n with
  | zero=>intro l hl;rw [List.length_eq_zero_iff.mp hl];exact h0
  | succ n ih=>
   intro l hl;rcases List.eq_nil_or_concat l with rfl | ⟨xs,x,rfl⟩
   ·simp at hl
   ·have:=h1 xs x (ih xs (by simp at hl;exact hl))
    simpa using this
 exact this _ l rfl
theorem dj {e:BW}{ps:List Aa}(l:Aa)(qs:List Aa)(hE:∀x∈Bl l qs,x∈BR ps)(v:Aa)(hv:((Bl l qs).flatMap (CK e)).getLast?=some v):Q3 e ps v ((l::qs).getLast (by simp)):=by
 induction qs using ir generalizing v with
 | h0=>cases hv
 | h1 xs q ih=>
  have e1:(l::(xs++[q])).getLast (by simp)=q:=by
   have h1:(l::(xs++[q])).getLast?=some q:=List.getLast?_concat (l:=l::xs) (a:=q);rw [List.getLast?_eq_some_getLast (by simp)] at h1
   exact Option.some.inj h1
  rw [e1];rw [Tw] at hE hv;generalize hp:(l::xs).getLast (by simp)=p at hE hv
  have hpq:(p,q)∈BR ps:=hE _ (by simp)
  have ih':=ih (λ x hx=>hE x (List.mem_append_left _ hx))
  rw [hp] at ih';rw [List.flatMap_append,show ([(p,q)]:List (Aa×Aa)).flatMap (CK e)=CK e (p,q) by simp] at hv
  rcases bZ e p q with ⟨a,b,n,em⟩ | ⟨a,b,n,em⟩ | ⟨a,b,em⟩ | ⟨a,b,n,em⟩ | ⟨a,b,em⟩ | ⟨a,b,em⟩
  ·rw [em,List.getLast?_concat] at hv;cases hv
   exact .inl ⟨b,rfl⟩
  ·rw [em,List.getLast?_concat] at hv;cases hv
   exact .inr ⟨b,Gf n,p,q,1 - Di e p q,hpq,b,by have:=(GZ n).2;grind,λ z=>W4 _ _ _ _⟩
  ·rw [em,List.append_nil] at hv;rcases ih' v hv with ⟨_,h⟩ | ⟨h,_⟩
   ·exact .inr ⟨b,by rw [h];exact a,p,q,1,hpq,b,by decide,λ z=>by rw [h];grind⟩
   ·exfalso;grind
  ·rw [em,show ((Bl l xs).flatMap (CK e))++[Bh e p q,q]=((Bl l xs).flatMap (CK e)++[Bh e p q])++[q] by simp,List.getLast?_concat] at hv
   cases hv
   exact .inl ⟨by grind,rfl⟩
  ·rw [em,List.getLast?_concat] at hv;cases hv
   exact .inl ⟨by grind,rfl⟩
  ·rw [em,List.append_nil] at hv;rcases ih' v hv with ⟨h,_⟩ | ⟨_,h⟩
   ·exfalso;grind
   ·exact .inr ⟨b,h⟩
theorem Qs {e:BW}{ps:List Aa}{y:Aa×Aa}(hy:y∈BR (Bv e ps)):Oc e ps y.1 y.2:=by
 cases hp:ps.getLast? with
 | none=>
  rw [List.getLast?_eq_none_iff] at hp;subst hp;cases hy
 | some l=>
  have eE:BR ps=Bl l ps:=by unfold BR;rw [hp]
  have eC:Bv e ps=(Bl l ps).flatMap (CK e):=by unfold Bv;rw [eE]
  unfold BR at hy;cases hv:(Bv e ps).getLast? with
  | none=>rw [hv] at hy;cases hy
  | some v=>
   rw [hv] at hy;dsimp only at hy
   rw [eC] at hy hv;have h1:=dj (ps:=ps) l ps (λ x hx=>by rw [eE];exact hx) v hv
   have e2:(l::ps).getLast (by simp)=l:=by
    cases ps with
    | nil=>cases hp
    | cons z r=>
     rw [List.getLast_cons (by simp)]
     have:=List.getLast?_eq_some_getLast (l:=z::r) (by simp)
     rw [this] at hp;exact Option.some.inj hp
   rw [e2] at h1;exact cC ps l v (λ x hx=>by rw [eE];exact hx) h1 y hy
section
variable {e:BW}{ps:List Aa}(h:ES ps)(h3:3<=ps.length)
include h h3
theorem Km {x:Aa×Aa}(hx:x∈BR ps){z:Aa}(hz:z∈Bv e ps):0<=Ak x.1 x.2 z:=by
 rcases cut_mem.mp hz with ⟨h1,_⟩ | ⟨y,hy,hc,rfl⟩
 ·exact h.ge hx h1
 ·have t:=GZ hc;unfold Bh;rw [JV];have a:=h.ge hx (Cy hy).1;have b:=h.ge hx (Cy hy).2;have x1:=Rat.mul_nonneg (show 0<=1 - Di e y.1 y.2 by grind) a
  have x2:=Rat.mul_nonneg (show 0<=Di e y.1 y.2 by grind) b
  grind
theorem Qx (he:e.1≠0\/e.2.1≠0){s z m:Aa}(hs:s∈Bv e ps)(hz:z∈Bv e ps)(hm:m∈Bv e ps)(rs:Ae e s=0)(rz:Ae e z=0)(rm:Ae e m=0)(nsz:s≠z){t:Rat}(t0:0 < t)(t1:t < 1)(em:m=BL t s z):False:=by
 obtain ⟨k,k0,hk⟩:=Jr rs rz nsz he;have main:∀x∈BR ps,Ak x.1 x.2 m=0->Ae e x.1=0/\Ae e x.2=0:=by
  intro x hx h0;have a1:=Km h h3 hx hs;have a2:=Km h h3 hx hz;have hb:=between (f:=Ak x.1 x.2) (t:=t) (s:=s) (z:=z) (m:=m) (by rw [em];exact JV _ _ _ _ _) t0 t1 a1 a2 h0
  have n:=Gr h.nd (by omega) hx
  have l1:Ak s z x.1=0:=by
   have q1:=hb.1;have q2:=hb.2;unfold Ak at q1 q2 ⊢;have nn:x.2.1 - x.1.1≠0\/x.2.2 - x.1.2≠0:=by
    rcases (show x.2.1 - x.1.1=0\/x.2.1 - x.1.1≠0 by grind) with c1 | c1
    ·rcases (show x.2.2 - x.1.2=0\/x.2.2 - x.1.2≠0 by grind) with c2 | c2
     ·exact absurd (Prod.ext (by grind) (by grind)) n
     ·exact .inr c2
    ·exact .inl c1
   rcases nn with nn | nn<;>grind
  have l2:Ak s z x.2=0:=by
   have q1:=hb.1;have q2:=hb.2;unfold Ak at q1 q2 ⊢;have nn:x.2.1 - x.1.1≠0\/x.2.2 - x.1.2≠0:=by
    rcases (show x.2.1 - x.1.1=0\/x.2.1 - x.1.1≠0 by grind) with c1 | c1
    ·rcases (show x.2.2 - x.1.2=0\/x.2.2 - x.1.2≠0 by grind) with c2 | c2
     ·exact absurd (Prod.ext (by grind) (by grind)) n
     ·exact .inr c2
    ·exact .inl c1
   rcases nn with nn | nn<;>grind
  rw [hk] at l1 l2
  constructor
  ·rcases (show Ae e x.1=0\/Ae e x.1≠0 by grind) with c | c
   ·exact c
   ·exfalso;grind
  ·rcases (show Ae e x.2=0\/Ae e x.2≠0 by grind) with c | c
   ·exact c
   ·exfalso;grind
 rcases cut_mem.mp hm with ⟨h1,_⟩ | ⟨y,hy,hc,e2⟩
 ·obtain ⟨p,hp⟩:=O1 h1;obtain ⟨q,hq⟩:=Yw h1;have r1:=(main (p,m) hp (by dsimp only;exact Hi _ _)).1
  have r2:=(main (m,q) hq (by dsimp only;exact Jz _ _)).2
  dsimp only at r1 r2
  have nm:=Gr h.nd (by omega) hq
  have np:=Gr h.nd (by omega) hp
  dsimp only at nm np
  have npq:p≠q:=λ z=>h.back h3 hp (by rw [z];exact hq)
  have st:=h.st (p,m) hp q (Cy hq).2 (λ z=>npq z.symm) (λ z=>nm z.symm)
  dsimp only at st
  obtain ⟨k2,k20,hk2⟩:=Jr r1 rm np he;rw [hk2,r2] at st
  grind
 ·have r:=main y hy (by rw [e2];exact Jl _ _ _)
  rw [r.1,r.2] at hc
  grind
end
theorem YB {s z m:Aa}(nsz:s≠z)(h0:Ak s z m=0):∃t,m=BL t s z:=by
 obtain ⟨s1,s2⟩:=s;obtain ⟨z1,z2⟩:=z;obtain ⟨m1,m2⟩:=m;unfold Ak at h0;unfold BL;dsimp only at h0 ⊢
 rcases (show z1 - s1=0\/z1 - s1≠0 by grind) with c1 | c1
 ·rcases (show z2 - s2=0\/z2 - s2≠0 by grind) with c2 | c2
  ·exact absurd (show ((s1,s2):Aa)=(z1,z2) by rw [show z1=s1 by grind,show z2=s2 by grind]) nsz
  ·refine ⟨(m2 - s2) / (z2 - s2),?_⟩;have g1:m1=s1:=by grind
   rw [g1];refine Prod.ext ?_ ?_<;>dsimp only<;>grind
 ·refine ⟨(m1 - s1) / (z1 - s1),?_⟩;refine Prod.ext ?_ ?_<;>dsimp only
  ·grind
  ·have:(m2 - s2) * (z1 - s1)=(z2 - s2) * (m1 - s1):=by grind
   have g:(m1 - s1) / (z1 - s1) * (z1 - s1)=m1 - s1:=by grind
   grind
theorem JT {a b:Rat}(hb:0 < b):(a / b) * b=a:=by grind
theorem Pa {a b:Rat}(ha:0 < a)(hb:0 < b):0 < a / b:=by
 have g:=JT (a:=a) hb;generalize a / b=c at g;rcases (show c<=0\/0 < c by grind) with z | z
 ·have:=Rat.mul_nonneg (show 0<=-c by grind) (show 0<=b by grind)
  grind
 ·exact z
theorem Uj {a b:Rat}(hab:a < b)(hb:0 < b):a / b < 1:=by
 have g:=JT (a:=a) hb;generalize a / b=c at g;rcases (show 1<=c\/c < 1 by grind) with z | z
 ·have:=Rat.mul_nonneg (show 0<=c - 1 by grind) (show 0<=b by grind)
  grind
 ·exact z
theorem m7 {s z:Aa}{t u:Rat}(g:u * (1 - t)=-t):s=BL u (BL t s z) z:=by
 unfold BL;refine Prod.ext ?_ ?_<;>dsimp only<;>grind
theorem fG {s z:Aa}{t u:Rat}(g:u * t=1):z=BL u s (BL t s z):=by
 unfold BL;refine Prod.ext ?_ ?_<;>dsimp only<;>grind
theorem Pk (s z:Aa):BL 0 s z=s:=by unfold BL;exact Prod.ext (by dsimp only;grind) (by dsimp only;grind)
theorem Nh (s z:Aa):BL 1 s z=z:=by unfold BL;exact Prod.ext (by dsimp only;grind) (by dsimp only;grind)
theorem Xr {s z m:Aa}(nsz:s≠z)(nsm:s≠m)(nzm:z≠m)(h0:Ak s z m=0):(∃t,0 < t/\t < 1/\m=BL t s z)\/(∃t,0 < t/\t < 1/\s=BL t m z)\/(∃t,0 < t/\t < 1/\z=BL t s m):=by
 obtain ⟨t,ht⟩:=YB nsz h0;have t0:t≠0:=λ c=>nsm (by rw [ht,c,Pk])
 have t1:t≠1:=λ c=>nzm (by rw [ht,c,Nh])
 clear nsz nsm nzm h0;rcases (show t < 0\/(0 < t/\t < 1)\/1 < t by grind) with c | c | c
 ·exact .inr (.inl ⟨(-t) / (1 - t),Pa (by grind) (by grind),Uj (by grind) (by grind),by rw [ht];exact m7 (JT (by grind))⟩)
 ·exact .inl ⟨t,c.1,c.2,ht⟩
 ·exact .inr (.inr ⟨1 / t,Pa (by grind) (by grind),Uj (by grind) (by grind),by rw [ht];exact fG (JT (by grind))⟩)
section
variable {e:BW}{ps:List Aa}(h:ES ps)(h3:3<=ps.length)
include h h3
theorem ZV (he:e.1≠0\/e.2.1≠0){s z m:Aa}(hs:s∈Bv e ps)(hz:z∈Bv e ps)(hm:m∈Bv e ps)(rs:Ae e s=0)(rz:Ae e z=0)(nsz:s≠z)(nsm:m≠s)(nzm:m≠z):0 < Ae e m:=by
 rcases (show Ae e m=0\/0 < Ae e m by have:=R4 hm;grind) with c | c
 ·exfalso;obtain ⟨k,k0,hk⟩:=Jr rs rz nsz he;have h0:Ak s z m=0:=by rw [hk,c];grind
  rcases Xr nsz (Ne.symm nsm) (Ne.symm nzm) h0 with ⟨t,t0,t1,em⟩ | ⟨t,t0,t1,em⟩ | ⟨t,t0,t1,em⟩
  ·exact Qx h h3 he hs hz hm rs rz c nsz t0 t1 em
  ·exact Qx h h3 he hm hz hs c rz rs nzm t0 t1 em
  ·exact Qx h h3 he hs hm hz rs c rz (Ne.symm nsm) t0 t1 em
 ·exact c
theorem dC (he:e.1≠0\/e.2.1≠0)(h2:2<=(Bv e ps).length):ES (Bv e ps):=by
 have nd:=Pz (e:=e) h h3;refine ⟨nd,λ y hy z hz z1 z2=>?_⟩
 have nst:=Gr nd h2 hy;obtain ⟨s,t⟩:=y;have ms:=(Cy hy).1;have mt:=(Cy hy).2;have ny:=Qs hy;dsimp only at nst ms mt ny z1 z2 ⊢
 cases ny with
 | old p q k hpq k0 hk hs ht hx=>
  rw [hk];have key:0 < Ak p q z:=by
   rcases cut_mem.mp hz with ⟨hzp,rz⟩ | ⟨y,hy',hc,ez⟩
   ·refine h.st (p,q) hpq z hzp ?_ ?_
    ·intro c;dsimp only at c
     rcases hs with hs | ⟨_,hs⟩
     ·exact z1 (c.trans hs.symm)
     ·rw [c] at rz;grind
    ·intro c;dsimp only at c
     rcases ht with ht | ⟨_,ht⟩
     ·exact z2 (c.trans ht.symm)
     ·rw [c] at rz;grind
   ·by_cases c:y=(p,q)
    ·subst c;rcases hx hc with hx | hx
     ·exact absurd (ez.trans hx.symm) z1
     ·exact absurd (ez.trans hx.symm) z2
    ·rw [ez];have t':=GZ hc;exact h.mix h3 hpq (a:=y.1) (b:=y.2) hy' c t'.1 t'.2
  exact Rat.mul_pos k0 key
 | cut p q k rs rt hpq rq k0 hk=>
  obtain ⟨c,c0,hc⟩:=Jr rs rt nst he;have g1:Ak s t q=c * Ae e q:=hc q;have g2:Ak s q t=k * Ak p q t:=hk t;have g3:=Km h h3 hpq mt;dsimp only at g3
  have g4:Ak s q t=- Ak s t q:=az s t q;have g5:=Rat.mul_nonneg (show 0<=k by grind) g3
  have cp:0 < c:=by
   rcases (show c < 0\/0 < c by grind) with cc | cc
   ·have:=Rat.mul_pos (show 0 < -c by grind) (show 0 < - Ae e q by grind)
    grind
   ·exact cc
  rw [hc];exact Rat.mul_pos cp (ZV h h3 he ms mt hz rs rt nst z1 z2)
theorem Y9 {w:Aa}(hw:w∈ps)(rw':0 < Ae e w):3<=(Bv e ps).length:=by
 obtain ⟨p,hp⟩:=O1 hw;obtain ⟨q,hq⟩:=Yw hw;have np:=Gr h.nd (by omega) hp
 have nq:=Gr h.nd (by omega) hq
 dsimp only at np nq
 have npq:p≠q:=λ z=>h.back h3 hp (by rw [z];exact hq)
 have ww:w∈Bv e ps:=cut_mem.mpr (.inl ⟨hw,by grind⟩)
 obtain ⟨a,ha,na,ta,da⟩:∃a∈Bv e ps,a≠w/\Ak p w a=0/\0 < Ak w q a:=by
  have hpq:0 < Ak w q p:=h.st (w,q) hq p (Cy hp).1 np npq;rcases (show 0<=Ae e p\/Ae e p < 0 by grind) with c | c
  ·exact ⟨p,cut_mem.mpr (.inl ⟨(Cy hp).1,c⟩),np,Jz _ _,hpq⟩
  ·have n:=Iu c rw';have t:=GZ n;refine ⟨Bh e p w,cut_mem.mpr (.inr ⟨(p,w),hp,n,rfl⟩),bC np t.2,Jl _ _ _,?_⟩;unfold Bh;rw [JV,Jz];have:=Rat.mul_pos (show 0 < 1 - Di e p w by grind) hpq
   grind
 obtain ⟨b,hb,nb,tb⟩:∃b∈Bv e ps,b≠w/\Ak w q b=0:=by
  rcases (show 0<=Ae e q\/Ae e q < 0 by grind) with c | c
  ·exact ⟨q,cut_mem.mpr (.inl ⟨(Cy hq).2,c⟩),Ne.symm nq,Hi _ _⟩
  ·have n:Ae e w * Ae e q < 0:=by have:=Iu c rw';grind
   have t:=GZ n;exact ⟨Bh e w q,cut_mem.mpr (.inr ⟨(w,q),hq,n,rfl⟩),Yq nq t.1,Jl _ _ _⟩
 have nab:a≠b:=λ z=>by rw [z,tb] at da;grind
 have nd:=Pz (e:=e) h h3;generalize Bv e ps=cs at *
 match cs,nd,ww,ha,hb with
 | [],_,h1,_,_=>cases h1
 | [x],_,h1,h2,h3=>
  exfalso;exact na ((List.mem_singleton.mp h2).trans (List.mem_singleton.mp h1).symm)
 | [x,y],_,h1,h2,h3=>
  exfalso;simp only [List.mem_cons,List.not_mem_nil,or_false] at h1 h2 h3;rcases h1 with h1 | h1<;>rcases h2 with h2 | h2<;>rcases h3 with h3 | h3<;>first
   | exact na (h2.trans h1.symm)
   | exact nb (h3.trans h1.symm)
   | exact nab (h2.trans h3.symm)
 | _::_::_::_,_,_,_,_=>simp
end
structure Aff (f:Aa->Rat):Prop where
 ex:∃a b c:Rat,∀r:Aa,f r=a * r.1+b * r.2+c
theorem Ny (e:BW):Aff (Ae e):=⟨e.1,e.2.1,e.2.2,λ _=>rfl⟩
theorem Zy (p q:Aa):Aff (Ak p q):=⟨-(q.2 - p.2),q.1 - p.1,(q.2 - p.2) * p.1 - (q.1 - p.1) * p.2,λ r=>by unfold Ak;grind⟩
structure Mean (a b c x:Aa):Prop where
 ex:∃u v w:Rat,0<=u/\0<=v/\0<=w/\u+v+w=1/\x.1=u * a.1+v * b.1+w * c.1/\x.2=u * a.2+v * b.2+w * c.2
theorem Mean.aff {a b c x:Aa}{f:Aa->Rat}(hf:Aff f):∀{u v w:Rat},u+v+w=1->x.1=u * a.1+v * b.1+w * c.1->x.2=u * a.2+v * b.2+w * c.2->f x=u * f a+v * f b+w * f c:=by
 obtain ⟨A,B,C,h⟩:=hf.ex;intro u v w h1 h2 h3;rw [h x,h a,h b,h c,h2,h3]
 grind
theorem lW {u v w a b c:Rat}(hu:0<=u)(hv:0<=v)(hw:0<=w)(ha:0<=a)(hb:0<=b)(hc:0<=c):0<=u * a+v * b+w * c:=by
 have h1:=Rat.mul_nonneg hu ha;have h2:=Rat.mul_nonneg hv hb;have h3:=Rat.mul_nonneg hw hc
 grind
theorem Mean.ge {a b c x:Aa}(m:Mean a b c x){f:Aa->Rat}(hf:Aff f)(ha:0<=f a)(hb:0<=f b)(hc:0<=f c):0<=f x:=by
 obtain ⟨u,v,w,hu,hv,hw,h1,h2,h3⟩:=m.ex;rw [Mean.aff hf h1 h2 h3];exact lW hu hv hw ha hb hc
theorem km {a b c x:Aa}(T:0 < Ak a b c)(h1:0<=Ak b c x)(h2:0<=Ak c a x)(h3:0<=Ak a b x):Mean a b c x:=by
 have s:Ak b c x+Ak c a x+Ak a b x=Ak a b c:=by unfold Ak;grind
 have ge:∀y:Rat,0<=y->0<=y / Ak a b c:=λ y hy=>by
  rcases (show y=0\/0 < y by grind) with c | c
  ·rw [c];grind
  ·have:=Pa c T;grind
 refine ⟨Ak b c x / Ak a b c,Ak c a x / Ak a b c,Ak a b x / Ak a b c,ge _ h1,ge _ h2,ge _ h3,?_,?_,?_⟩
 ·have:Ak a b c≠0:=by grind
  have e:Ak b c x / Ak a b c+Ak c a x / Ak a b c+Ak a b x / Ak a b c=(Ak b c x+Ak c a x+Ak a b x) / Ak a b c:=by grind
  rw [e,s]
  grind
 ·have:Ak a b c≠0:=by grind
  have g:Ak b c x * a.1+Ak c a x * b.1+Ak a b x * c.1=Ak a b c * x.1:=by unfold Ak;grind
  have e:Ak b c x / Ak a b c * a.1+Ak c a x / Ak a b c * b.1+Ak a b x / Ak a b c * c.1=(Ak b c x * a.1+Ak c a x * b.1+Ak a b x * c.1) / Ak a b c:=by grind
  rw [e,g]
  grind
 ·have:Ak a b c≠0:=by grind
  have g:Ak b c x * a.2+Ak c a x * b.2+Ak a b x * c.2=Ak a b c * x.2:=by unfold Ak;grind
  have e:Ak b c x / Ak a b c * a.2+Ak c a x / Ak a b c * b.2+Ak a b x / Ak a b c * c.2=(Ak b c x * a.2+Ak c a x * b.2+Ak a b x * c.2) / Ak a b c:=by grind
  rw [e,g]
  grind
theorem fan {p0 x:Aa}:∀(l:Aa) (qs:List Aa),0<=Ak p0 l x->Ak p0 ((l::qs).getLast (by simp)) x<=0->(∃y∈Bl l qs,0<=Ak p0 y.1 x/\Ak p0 y.2 x<=0)\/(qs=[]/\Ak p0 l x=0)
 | l,[],h1,h2=>.inr ⟨rfl,by have:Ak p0 l x<=0:=h2;grind⟩
 | l,q::r,h1,h2=>by
  rcases (show 0<=Ak p0 q x\/Ak p0 q x < 0 by grind) with c | c
  ·rcases fan q r c (by rw [List.getLast_cons (by simp)] at h2;exact h2) with ⟨y,hy,hh⟩ | ⟨_,h0⟩
   ·exact .inl ⟨y,List.mem_cons_of_mem _ hy,hh⟩
   ·exact .inl ⟨(l,q),by simp [Bl],h1,by dsimp only;grind⟩
  ·exact .inl ⟨(l,q),by simp [Bl],h1,by dsimp only;grind⟩
theorem cu {ps:List Aa}(h:ES ps)(h3:3<=ps.length){x:Aa}(hx:∀y∈BR ps,0<=Ak y.1 y.2 x):∃a∈ps,∃b∈ps,∃c∈ps,Mean a b c x:=by
 match ps,h,h3,hx with
 | p0::p1::p2::r,h,h3,hx=>
  have el:(p0::p1::p2::r).getLast?=some ((p0::p1::p2::r).getLast (by simp)):=List.getLast?_eq_some_getLast (by simp)
  have eE:BR (p0::p1::p2::r)=((p1::p2::r).getLast (by simp),p0)::(p0,p1)::Bl p1 (p2::r):=by
   unfold BR;rw [el];rfl
  have e1:=hx (p0,p1) (by rw [eE];simp)
  have e2:=hx ((p1::p2::r).getLast (by simp),p0) (by rw [eE];simp)
  dsimp only at e1 e2
  have e3:Ak p0 ((p1::p2::r).getLast (by simp)) x<=0:=by
   have:Ak ((p1::p2::r).getLast (by simp)) p0 x=- Ak p0 ((p1::p2::r).getLast (by simp)) x:=by unfold Ak;grind
   grind
  rcases fan p1 (p2::r) e1 e3 with ⟨y,hy,g1,g2⟩ | ⟨hn,_⟩
  ·have hyE:y∈BR (p0::p1::p2::r):=by rw [eE];exact List.mem_cons_of_mem _ (List.mem_cons_of_mem _ hy)
   obtain ⟨m1,m2⟩:=Xd hy;have nd:=h.nd;have n0:=(List.nodup_cons.mp nd).1;have k1:y.1∈p1::p2::r:=by rcases m1 with m1 | m1<;>simp [m1]
   have k2:y.2∈p1::p2::r:=List.mem_cons_of_mem _ m2;have T:=h.st y hyE p0 (by simp) (λ z=>n0 (by rw [z];exact k1)) (λ z=>n0 (by rw [z];exact k2))
   refine ⟨p0,by simp,y.1,List.mem_cons_of_mem _ k1,y.2,List.mem_cons_of_mem _ k2,km ?_ (hx y hyE) ?_ g1⟩
   ·rw [<- qJ];exact T
   ·have:Ak y.2 p0 x=- Ak p0 y.2 x:=by unfold Ak;grind
    grind
  ·cases hn
def InP:List Aa->Aa->Prop
 | [],_=>False
 | [p],x=>x=p
 | [p,q],x=>∃t,0<=t/\t<=1/\x=BL t p q
 | p::q::r::s,x=>∀y∈BR (p::q::r::s),0<=Ak y.1 y.2 x
theorem InP.three {ps:List Aa}(h3:3<=ps.length){x:Aa}:InP ps x↔∀y∈BR ps,0<=Ak y.1 y.2 x:=by
 match ps,h3 with
 | p::q::r::s,_=>exact Iff.rfl
theorem Rx {ps:List Aa}(h:ES ps)(h3:3<=ps.length){x:Aa}(hx:InP ps x){f:Aa->Rat}(hf:Aff f)(hp:∀p∈ps,0<=f p):0<=f x:=by
 obtain ⟨a,ha,b,hb,c,hc,m⟩:=cu h h3 ((InP.three h3).mp hx);exact m.ge hf (hp a ha) (hp b hb) (hp c hc)
section
variable {e:BW}{ps:List Aa}(h:ES ps)(h3:3<=ps.length)(he:e.1≠0\/e.2.1≠0)
include h h3 he
theorem uY {w:Aa}(hw:w∈ps)(rw':0 < Ae e w)(x:Aa):InP (Bv e ps) x↔InP ps x/\0<=Ae e x:=by
 have h3':=Y9 h h3 hw rw';have hE:=dC h h3 he (by omega)
 constructor
 ·intro hx;refine ⟨(InP.three h3).mpr λ y hy=>Rx hE h3' hx (Zy _ _) λ p hp=>Km h h3 hy hp,Rx hE h3' hx (Ny e) λ p hp=>R4 hp⟩
 ·rintro ⟨hx,rx⟩
  rw [InP.three h3]at hx;refine (InP.three h3').mpr λ y hy=>?_
  have nst:=Gr hE.nd (by omega) hy
  obtain ⟨s,t⟩:=y;have mt:=(Cy hy).2;have ny:=Qs hy;dsimp only at nst mt ny ⊢
  cases ny with
  | old p q k hpq k0 hk hs ht hc=>
   rw [hk];exact Rat.mul_nonneg (by grind) (hx (p,q) hpq)
  | cut p q k rs rt hpq rq k0 hk=>
   obtain ⟨c,c0,hc⟩:=Jr rs rt nst he;have g1:Ak s t q=c * Ae e q:=hc q;have g2:Ak s q t=k * Ak p q t:=hk t;have g3:=Km h h3 hpq mt;dsimp only at g3
   have g4:Ak s q t=- Ak s t q:=az s t q;have g5:=Rat.mul_nonneg (show 0<=k by grind) g3
   have cp:0 < c:=by
    rcases (show c < 0\/0 < c by grind) with cc | cc
    ·have:=Rat.mul_pos (show 0 < -c by grind) (show 0 < - Ae e q by grind)
     grind
    ·exact cc
   rw [hc];exact Rat.mul_nonneg (by grind) rx
end
def En (e:BW):List (Aa×Aa)->List Aa->List Aa
 | [],left=>left
 | x::r,left=>En e r ((if Ae e x.1 * Ae e x.2 < 0/\Bh e x.1 x.2∉left then left++[Bh e x.1 x.2] else left)++(if 0<=Ae e x.2 then [x.2] else []))
def Cw (e:BW)(ps:List Aa):List Aa:=En e (BR ps) []
theorem Yn (e:BW):∀(xs:List (Aa×Aa)) (left:List Aa),(left++xs.flatMap (CK e)).Nodup->En e xs left=left++xs.flatMap (CK e)
 | [],left,_=>by simp [En]
 | x::r,left,h=>by
  rw [List.flatMap_cons,<- List.append_assoc] at h ⊢;have hl:=(List.nodup_append.mp h).1;rw [En];have e1:(if Ae e x.1 * Ae e x.2 < 0/\Bh e x.1 x.2∉left then left++[Bh e x.1 x.2] else left)++(if 0<=Ae e x.2 then [x.2] else [])=left++CK e x:=by
   unfold CK at hl ⊢;by_cases c:Ae e x.1 * Ae e x.2 < 0
   ·rw [if_pos c] at hl ⊢;have nm:Bh e x.1 x.2∉left:=λ m=>(List.nodup_append.mp hl).2.2 _ m _ (by simp) rfl
    rw [if_pos ⟨c,nm⟩,List.append_assoc]
   ·rw [if_neg c,if_neg (λ z=>c z.1)]
    rfl
  rw [e1];exact Yn e r _ h
theorem mV {e:BW}{ps:List Aa}(h:(Bv e ps).Nodup):Cw e ps=Bv e ps:=by
 have:=Yn e (BR ps) [] (by rw [List.nil_append];exact h)
 unfold Cw;rw [this];rfl
theorem ES.no_three {ps:List Aa}(h:ES ps)(h3:3<=ps.length){a b c:Aa}(ha:a∈ps)(hb:b∈ps)(hc:c∈ps)(nab:a≠b)(nbc:b≠c)(nac:a≠c){t:Rat}(t0:0 < t)(t1:t < 1)(eb:b=BL t a c):False:=by
 obtain ⟨p,hp⟩:=O1 hb;have g1:=h.ge hp ha;have g2:=h.ge hp hc;have g3:Ak p b b=(1 - t) * Ak p b a+t * Ak p b c:=by
  have:=JV p b t a c;rw [<- eb] at this;exact this
 rw [Hi] at g3;obtain ⟨z1,z2⟩:=between (f:=Ak p b) (s:=a) (z:=c) (m:=b) (by rw [Hi];exact g3) t0 t1 g1 g2 (Hi p b)
 have e1:a=p:=by
  by_cases c1:a=p
  ·exact c1
  ·have:=h.st _ hp a ha c1 nab;dsimp only at this
   grind
 have e2:c=p:=by
  by_cases c1:c=p
  ·exact c1
  ·have:=h.st _ hp c hc c1 (λ z=>nbc z.symm)
   dsimp only at this
   grind
 exact nac (e1.trans e2.symm)
theorem ES.no_line {ps:List Aa}(h:ES ps)(h3:3<=ps.length){e:BW}(he:e.1≠0\/e.2.1≠0){a b c:Aa}(ha:a∈ps)(hb:b∈ps)(hc:c∈ps)(nab:a≠b)(nbc:b≠c)(nac:a≠c)(ra:Ae e a=0)(rb:Ae e b=0)(rc:Ae e c=0):False:=by
 obtain ⟨k,k0,hk⟩:=Jr ra rb nab he;have h0:Ak a b c=0:=by rw [hk,rc];grind
 rcases Xr nab nac nbc h0 with ⟨t,t0,t1,e⟩ | ⟨t,t0,t1,e⟩ | ⟨t,t0,t1,e⟩
 ·exact h.no_three h3 ha hc hb nac (λ z=>nbc z.symm) nab t0 t1 e
 ·exact h.no_three h3 hc ha hb (λ z=>nac z.symm) nab (λ z=>nbc z.symm) t0 t1 e
 ·exact h.no_three h3 ha hb hc nab nbc nac t0 t1 e
theorem ES.nil:ES []:=⟨List.nodup_nil,λ x hx=>nomatch hx⟩
theorem ES.one (p:Aa):ES [p]:=⟨by simp,λ x hx z hz n1 n2=>by
 have:=(Cy hx).1;simp only [List.mem_singleton] at this hz;exact absurd (hz.trans this.symm) n1⟩
theorem ES.two {p q:Aa}(n:p≠q):ES [p,q]:=⟨by simpa using n,λ x hx z hz n1 n2=>by
 have hx:x∈[(q,p),(p,q)]:=hx;simp only [List.mem_cons,List.not_mem_nil,or_false] at hx hz;rcases hx with rfl | rfl<;>rcases hz with rfl | rfl<;>first | exact absurd rfl n1 | exact absurd rfl n2⟩
theorem Hs (l:List Aa):l=[]\/(∃p,l=[p])\/(∃p q,l=[p,q])\/3<=l.length:=by
 match l with
 | []=>exact .inl rfl
 | [p]=>exact .inr (.inl ⟨p,rfl⟩)
 | [p,q]=>exact .inr (.inr (.inl ⟨p,q,rfl⟩))
 | p::q::r::s=>exact .inr (.inr (.inr (by simp)))
theorem bH (e:BW):∀(xs:List (Aa×Aa)),(∀x∈xs,¬ Ae e x.1 * Ae e x.2 < 0)->xs.flatMap (CK e)=(xs.map Prod.snd).filter (λ z=>decide (0<=Ae e z))
 | [],_=>rfl
 | x::r,h=>by
  rw [List.flatMap_cons,bH e r λ x hx=>h x (List.mem_cons_of_mem _ hx),List.map_cons,List.filter_cons]
  unfold CK;rw [if_neg (h x (List.mem_cons_self ..))];by_cases c:0<=Ae e x.2
  ·rw [if_pos c,if_pos (decide_eq_true c)];rfl
  ·rw [if_neg c,if_neg (by simpa using c)];rfl
section
variable {e:BW}{ps:List Aa}
theorem Ph (hn:∀p∈ps,¬ 0 < Ae e p):Bv e ps=ps.filter (λ z=>decide (0<=Ae e z)):=by
 unfold Bv;rw [bH e (BR ps),Mf];intro x hx c;have h1:=hn _ (Cy hx).1;have h2:=hn _ (Cy hx).2;rcases DK c with h | h<;>grind
theorem fM (h:ES ps)(hn:∀p∈ps,¬ 0 < Ae e p):(Bv e ps).Nodup:=by
 rw [Ph hn];exact h.nd.filter _
end
theorem yf {p q x:Aa}{t:Rat}(t0:0<=t)(t1:t<=1)(e:x=BL t p q){f:Aa->Rat}(hf:Aff f)(hp:0<=f p)(hq:0<=f q):0<=f x:=by
 obtain ⟨a,b,c,h⟩:=hf;have e2:f x=(1 - t) * f p+t * f q:=by rw [e,h,h,h];unfold BL;dsimp only;grind
 rw [e2];have h1:=Rat.mul_nonneg (show 0<=1 - t by grind) hp
 have h2:=Rat.mul_nonneg t0 hq
 grind
theorem QJ {ps:List Aa}(h:ES ps){x:Aa}(hx:InP ps x){f:Aa->Rat}(hf:Aff f)(hp:∀p∈ps,0<=f p):0<=f x:=by
 rcases Hs ps with rfl | ⟨p,rfl⟩ | ⟨p,q,rfl⟩ | h3
 ·exact hx.elim
 ·have hx:x=p:=hx;rw [hx];exact hp p (by simp)
 ·obtain ⟨t,t0,t1,e⟩:∃t,0<=t/\t<=1/\x=BL t p q:=hx;exact yf t0 t1 e hf (hp p (by simp)) (hp q (by simp))
 ·exact Rx h h3 hx hf hp
theorem vD {ps:List Aa}(h:ES ps){x:Aa}(hx:x∈ps):InP ps x:=by
 rcases Hs ps with rfl | ⟨p,rfl⟩ | ⟨p,q,rfl⟩ | h3
 ·cases hx
 ·exact List.mem_singleton.mp hx
 ·rcases List.mem_cons.mp hx with rfl | hx
  ·exact ⟨0,by grind,by grind,(Pk _ _).symm⟩
  ·rw [List.mem_singleton.mp hx];exact ⟨1,by grind,by grind,(Nh _ _).symm⟩
 ·exact (InP.three h3).mpr λ y hy=>h.ge hy hx
theorem wz {u v w a b c:Rat}(hu:0<=u)(hv:0<=v)(hw:0<=w)(ha:a<=0)(hb:b<=0)(hc:c<=0)(h:0<=u * a+v * b+w * c):u * a=0/\v * b=0/\w * c=0:=by
 have h1:=Rat.mul_nonneg hu (show 0<=-a by grind)
 have h2:=Rat.mul_nonneg hv (show 0<=-b by grind)
 have h3:=Rat.mul_nonneg hw (show 0<=-c by grind)
 grind
theorem Kp {u a:Rat}(h:u * a=0):u=0\/a=0:=by
 rcases Rat.mul_eq_zero.mp h with h | h
 ·exact .inl h
 ·exact .inr h
theorem share {u:Rat}{a p q:Aa}(hu:0<=u)(h:u=0\/a=p\/a=q):∃t,0<=t/\t<=u/\u * a.1=(u - t) * p.1+t * q.1/\u * a.2=(u - t) * p.2+t * q.2:=by
 rcases h with rfl | rfl | rfl
 ·exact ⟨0,by grind,by grind,by grind,by grind⟩
 ·exact ⟨0,by grind,by grind,by grind,by grind⟩
 ·exact ⟨u,by grind,by grind,by grind,by grind⟩
section
variable {e:BW}{ps:List Aa}(h:ES ps)(h3:3<=ps.length)(he:e.1≠0\/e.2.1≠0)(hn:∀p∈ps,¬ 0 < Ae e p)
include h h3 he hn
theorem Zh:(Bv e ps).length<=2:=by
 rw [Ph hn];have mem:∀z∈ps.filter (λ z=>decide (0<=Ae e z)),z∈ps/\Ae e z=0:=λ z hz=>by
  have:=List.mem_filter.mp hz;have h1:=hn z this.1;have h2:0<=Ae e z:=of_decide_eq_true this.2;exact ⟨this.1,by grind⟩
 have nd:(ps.filter (λ z=>decide (0<=Ae e z))).Nodup:=h.nd.filter _
 generalize ps.filter (λ z=>decide (0<=Ae e z))=l at mem nd
 match l,mem,nd with
 | [],_,_=>simp
 | [_],_,_=>simp
 | [_,_],_,_=>simp
 | a::b::c::r,mem,nd=>
  exfalso;obtain ⟨a1,a2⟩:=mem a (by simp)
  obtain ⟨b1,b2⟩:=mem b (by simp)
  obtain ⟨c1,c2⟩:=mem c (by simp)
  simp only [List.nodup_cons,List.mem_cons,not_or] at nd;exact h.no_line h3 he a1 b1 c1 nd.1.1 nd.2.1.1 nd.1.2.1 a2 b2 c2
theorem ZM:ES (Bv e ps):=by
 have l:=Zh h h3 he hn;have nd:=fM h hn;rcases Hs (Bv e ps) with c | ⟨p,c⟩ | ⟨p,q,c⟩ | c
 ·rw [c];exact ES.nil
 ·rw [c];exact ES.one p
 ·rw [c] at nd ⊢;exact ES.two (by simpa using nd)
 ·omega
theorem jb (x:Aa):InP (Bv e ps) x↔InP ps x/\0<=Ae e x:=by
 have hE:=ZM h h3 he hn
 constructor
 ·intro hx;refine ⟨(InP.three h3).mpr λ y hy=>QJ hE hx (Zy _ _) λ p hp=>?_,QJ hE hx (Ny e) λ p hp=>R4 hp⟩
  rw [Ph hn] at hp;exact h.ge hy (List.mem_filter.mp hp).1
 ·rintro ⟨hx,rx⟩
  obtain ⟨a,ha,b,hb,c,hc,m⟩:=cu h h3 ((InP.three h3).mp hx);obtain ⟨u,v,w,hu,hv,hw,s1,s2,s3⟩:=m.ex;rw [Mean.aff (Ny e) s1 s2 s3] at rx;obtain ⟨z1,z2,z3⟩:=wz hu hv hw (show Ae e a<=0 by have:=hn a ha;grind) (show Ae e b<=0 by have:=hn b hb;grind) (show Ae e c<=0 by have:=hn c hc;grind) rx
  have key:∀{u:Rat} {a:Aa},a∈ps->u * Ae e a=0->u=0\/a∈Bv e ps:=λ ha z=>by
   rcases Kp z with z | z
   ·exact .inl z
   ·refine .inr ?_;rw [Ph hn];exact List.mem_filter.mpr ⟨ha,decide_eq_true (by grind)⟩
  have k1:=key ha z1;have k2:=key hb z2;have k3:=key hc z3;have l:=Zh h h3 he hn;rcases Hs (Bv e ps) with c | ⟨p,c⟩ | ⟨p,q,c⟩ | c
  ·rw [c] at k1 k2 k3;simp only [List.not_mem_nil,or_false] at k1 k2 k3
   grind
  ·rw [c] at k1 k2 k3 ⊢;simp only [List.mem_singleton] at k1 k2 k3;show x=p;obtain ⟨t1,_,_,a1,a2⟩:=share (p:=p) (q:=p) hu (k1.imp id .inl);obtain ⟨t2,_,_,b1,b2⟩:=share (p:=p) (q:=p) hv (k2.imp id .inl);obtain ⟨t3,_,_,c1,c2⟩:=share (p:=p) (q:=p) hw (k3.imp id .inl);exact Prod.ext (by rw [s2];grind) (by rw [s3];grind)
  ·rw [c] at k1 k2 k3 ⊢;simp only [List.mem_cons,List.not_mem_nil,or_false] at k1 k2 k3;obtain ⟨t1,p1,q1,a1,a2⟩:=share (p:=p) (q:=q) hu k1;obtain ⟨t2,p2,q2,b1,b2⟩:=share (p:=p) (q:=q) hv k2;obtain ⟨t3,p3,q3,c1,c2⟩:=share (p:=p) (q:=q) hw k3;refine ⟨t1+t2+t3,by grind,by grind,?_⟩
   unfold BL;exact Prod.ext (by rw [s2,a1,b1,c1];dsimp only;grind) (by rw [s3,a2,b2,c2];dsimp only;grind)
  ·omega
end
theorem cM {e:BW}{p q:Aa}(h:Ae e p * Ae e q < 0):Bh e q p=Bh e p q:=by
 have n:Ae e p - Ae e q≠0:=by rcases DK h with z | z<;>grind
 have n2:Ae e q - Ae e p≠0:=by grind
 have g:Di e q p=1 - Di e p q:=by unfold Di;grind
 unfold Bh BL;rw [g];exact Prod.ext (by dsimp only;grind) (by dsimp only;grind)
theorem Qc (e:BW)(p q:Aa):Cw e [p,q]=
  if Ae e p * Ae e q < 0 then (if 0<=Ae e p then [Bh e p q,p] else [Bh e p q,q]) else (if 0<=Ae e p then [p] else [])++(if 0<=Ae e q then [q] else []):=by
 have e1:Cw e [p,q]=En e [(q,p),(p,q)] []:=rfl;rw [e1];unfold En En En;dsimp only
 have cm:Ae e q * Ae e p=Ae e p * Ae e q:=Rat.mul_comm _ _;rw [cm];by_cases c:Ae e p * Ae e q < 0
 ·have i1:(if Ae e p * Ae e q < 0/\Bh e q p∉([]:List Aa) then []++[Bh e q p] else [])=[Bh e p q]:=by
   rw [if_pos ⟨c,List.not_mem_nil⟩,cM c];rfl
  rw [i1,if_pos c];by_cases c1:0<=Ae e p
  ·have c2:¬ 0<=Ae e q:=by rcases DK c with z | z<;>grind
   rw [if_pos c1,if_neg c2,if_pos c1,if_neg (λ z=>z.2 (by simp))]
   rfl
  ·have c2:0<=Ae e q:=by rcases DK c with z | z<;>grind
   rw [if_neg c1,if_pos c2,if_neg c1,if_neg (λ z=>z.2 (by simp))]
   rfl
 ·rw [if_neg c,if_neg (λ z=>c z.1),if_neg (λ z=>c z.1)]
  rfl
theorem YL {e:BW}{p q x:Aa}(hp:Ae e p < 0)(hq:0 < Ae e q):(∃t,0<=t/\t<=1/\x=BL t (Bh e p q) q)↔(∃t,0<=t/\t<=1/\x=BL t p q)/\0<=Ae e x:=by
 have hc:Ae e p * Ae e q < 0:=Iu hp hq;obtain ⟨c0,c1⟩:=GZ hc;have r0:=Gf hc;have er:(1 - Di e p q) * Ae e p+Di e p q * Ae e q=0:=by rw [<- Jh];exact r0
 unfold Bh;generalize Di e p q=c at c0 c1 er
 constructor
 ·rintro ⟨t,t0,t1,rfl⟩
  have e1:BL t (BL c p q) q=BL (c+t * (1 - c)) p q:=by unfold BL;exact Prod.ext (by dsimp only;grind) (by dsimp only;grind)
  have n1:=Rat.mul_nonneg t0 (show 0<=1 - c by grind)
  have n2:=Rat.mul_nonneg (show 0<=1 - t by grind) (show 0<=1 - c by grind)
  refine ⟨⟨c+t * (1 - c),by grind,by grind,e1⟩,?_⟩
  rw [Jh,Jh,er];have:=Rat.mul_nonneg t0 (show 0<=Ae e q by grind)
  grind
 ·rintro ⟨⟨t,t0,t1,rfl⟩,rx⟩
  rw [Jh] at rx;have n0:0 < Ae e q - Ae e p:=by grind
  have ct:c<=t:=by
   rcases (show c<=t\/t < c by grind) with h | h
   ·exact h
   ·exfalso;have:=Rat.mul_pos (show 0 < c - t by grind) n0
    grind
  refine ⟨(t - c) / (1 - c),?_,?_,?_⟩
  ·rcases (show t=c\/0 < t - c by grind) with h | h
   ·rw [h];grind
   ·have:=Pa h (show 0 < 1 - c by grind);grind
  ·rcases (show t=1\/t < 1 by grind) with h | h
   ·rw [h];grind
   ·have:=Uj (a:=t - c) (b:=1 - c) (by grind) (by grind);grind
  ·have g:(t - c) / (1 - c) * (1 - c)=t - c:=JT (by grind)
   generalize (t - c) / (1 - c)=s at g;have e1:BL s (BL c p q) q=BL (c+s * (1 - c)) p q:=by unfold BL;exact Prod.ext (by dsimp only;grind) (by dsimp only;grind)
   rw [e1,g]
   congr 1
   grind
theorem ph (t:Rat)(p q:Aa):BL t p q=BL (1 - t) q p:=by unfold BL;exact Prod.ext (by dsimp only;grind) (by dsimp only;grind)
theorem Zj {p q x:Aa}:(∃t,0<=t/\t<=1/\x=BL t p q)↔(∃t,0<=t/\t<=1/\x=BL t q p):=by
 constructor<;>rintro ⟨t,t0,t1,e⟩<;>exact ⟨1 - t,by grind,by grind,by rw [e,ph]⟩
theorem bF {e:BW}{p q:Aa}(h:Ae e p * Ae e q < 0):Bh e p q≠p/\Bh e p q≠q:=by
 have r:=Gf h;refine ⟨λ z=>?_,λ z=>?_⟩
 ·rw [z] at r;rw [r] at h;grind
 ·rw [z] at r;rw [r] at h;grind
theorem xO {e:BW}{p q:Aa}(n:p≠q):ES (Cw e [p,q])/\∀x,InP (Cw e [p,q]) x↔InP [p,q] x/\0<=Ae e x:=by
 rw [Qc];by_cases c:Ae e p * Ae e q < 0
 ·rw [if_pos c];by_cases c1:0<=Ae e p
  ·rw [if_pos c1];refine ⟨ES.two (bF c).1,λ x=>?_⟩
   have hs:Ae e q < 0/\0 < Ae e p:=by rcases DK c with z | z<;>grind
   have hh:=YL (x:=x) hs.1 hs.2;rw [cM c] at hh;show (∃t,0<=t/\t<=1/\x=BL t (Bh e p q) p)↔(∃t,0<=t/\t<=1/\x=BL t p q)/\_;rw [hh,Zj]
  ·rw [if_neg c1];have hs:Ae e p < 0/\0 < Ae e q:=by rcases DK c with z | z<;>grind
   exact ⟨ES.two (bF c).2,λ x=>YL hs.1 hs.2⟩
 ·rw [if_neg c];have room:∀t,Ae e (BL t p q)=(1 - t) * Ae e p+t * Ae e q:=λ t=>Jh e t p q
  by_cases c1:0<=Ae e p
  ·by_cases c2:0<=Ae e q
   ·rw [if_pos c1,if_pos c2];refine ⟨ES.two n,λ x=>⟨λ hx=>⟨hx,?_⟩,λ hx=>hx.1⟩⟩
    exact QJ (ES.two n) hx (Ny e) λ r hr=>by
     simp only [List.mem_cons,List.not_mem_nil,or_false] at hr;rcases hr with rfl | rfl<;>assumption
   ·have z:Ae e p=0:=by
     rcases (show Ae e p=0\/0 < Ae e p by grind) with h | h
     ·exact h
     ·exfalso;exact c (by have:=Iu (show Ae e q < 0 by grind) h;rw [Rat.mul_comm];exact this)
    rw [if_pos c1,if_neg c2];refine ⟨ES.one p,λ x=>?_⟩
    show x=p↔(∃t,0<=t/\t<=1/\x=BL t p q)/\_
    constructor
    ·rintro rfl
     exact ⟨⟨0,by grind,by grind,(Pk _ _).symm⟩,c1⟩
    ·rintro ⟨⟨t,t0,t1,rfl⟩,rx⟩
     rw [room,z] at rx;have:t=0:=by
      rcases (show t=0\/0 < t by grind) with h | h
      ·exact h
      ·have:=Rat.mul_pos h (show 0 < - Ae e q by grind);grind
     rw [this,Pk]
  ·by_cases c2:0<=Ae e q
   ·have z:Ae e q=0:=by
     rcases (show Ae e q=0\/0 < Ae e q by grind) with h | h
     ·exact h
     ·exfalso;exact c (Iu (show Ae e p < 0 by grind) h)
    rw [if_neg c1,if_pos c2];refine ⟨ES.one q,λ x=>?_⟩
    show x=q↔(∃t,0<=t/\t<=1/\x=BL t p q)/\_
    constructor
    ·rintro rfl
     exact ⟨⟨1,by grind,by grind,(Nh _ _).symm⟩,c2⟩
    ·rintro ⟨⟨t,t0,t1,rfl⟩,rx⟩
     rw [room,z] at rx;have:t=1:=by
      rcases (show t=1\/0 < 1 - t by grind) with h | h
      ·exact h
      ·have:=Rat.mul_pos h (show 0 < - Ae e p by grind);grind
     rw [this,Nh]
   ·rw [if_neg c1,if_neg c2];refine ⟨ES.nil,λ x=>⟨λ hx=>hx.elim,?_⟩⟩
    rintro ⟨⟨t,t0,t1,rfl⟩,rx⟩
    rw [room] at rx;have h1:=Rat.mul_nonneg t0 (show 0<=- Ae e q by grind)
    have h2:=Rat.mul_nonneg (show 0<=1 - t by grind) (show 0<=- Ae e p by grind)
    rcases (show t=0\/0 < t by grind) with h | h
    ·rw [h] at rx;grind
    ·have:=Rat.mul_pos h (show 0 < - Ae e q by grind);grind
theorem T3 (e:BW)(p:Aa):Cw e [p]=if 0<=Ae e p then [p] else []:=by
 have e1:Cw e [p]=En e [(p,p)] []:=rfl;rw [e1];unfold En En;dsimp only
 have c:¬ Ae e p * Ae e p < 0:=λ z=>by rcases DK z with h | h<;>grind
 rw [if_neg (λ z=>c z.1)]
 rfl
theorem Wb {e:BW}{ps:List Aa}(h:ES ps)(h3:3<=ps.length):Cw e ps=Bv e ps:=mV (Pz h h3)
theorem Wh {e:BW}{ps:List Aa}(h:ES ps)(he:e.1≠0\/e.2.1≠0):ES (Cw e ps)/\∀x,InP (Cw e ps) x↔InP ps x/\0<=Ae e x:=by
 rcases Hs ps with rfl | ⟨p,rfl⟩ | ⟨p,q,rfl⟩ | h3
 ·exact ⟨ES.nil,λ x=>⟨λ hx=>hx.elim,λ hx=>hx.1⟩⟩
 ·rw [T3];by_cases c:0<=Ae e p
  ·rw [if_pos c];exact ⟨ES.one p,λ x=>⟨λ hx=>⟨hx,by rw [show x=p from hx];exact c⟩,λ hx=>hx.1⟩⟩
  ·rw [if_neg c];exact ⟨ES.nil,λ x=>⟨λ hx=>hx.elim,λ hx=>c (by rw [<- show x=p from hx.1];exact hx.2)⟩⟩
 ·exact xO (by simpa using h.nd)
 ·rw [Wb h h3];by_cases c:∃w∈ps,0 < Ae e w
  ·obtain ⟨w,hw,rw'⟩:=c;exact ⟨dC h h3 he (by have:=Y9 h h3 hw rw';omega),uY h h3 he hw rw'⟩
  ·have hn:∀p∈ps,¬ 0 < Ae e p:=λ p hp z=>c ⟨p,hp,z⟩
   exact ⟨ZM h h3 he hn,jb h h3 he hn⟩
def Ir (e:BW)(x:Aa×Aa):Bool:=decide (Ae e x.1 * Ae e x.2 < 0)
theorem ZZ (e:BW):∀xs:List (Aa×Aa),(xs.flatMap (CK e)).length=(xs.filter (Ir e)).length+((xs.map Prod.snd).filter (λ z=>decide (0<=Ae e z))).length
 | []=>rfl
 | x::r=>by
  rw [List.flatMap_cons,List.length_append,ZZ e r,List.map_cons,List.filter_cons,List.filter_cons];unfold CK Ir;by_cases c1:Ae e x.1 * Ae e x.2 < 0<;>by_cases c2:0<=Ae e x.2
  ·rw [if_pos c1,if_pos c2,if_pos (decide_eq_true c1),if_pos (decide_eq_true c2)];simp only [List.length_append,List.length_cons,List.length_nil];omega
  ·rw [if_pos c1,if_neg c2,if_pos (decide_eq_true c1),if_neg (by simpa using c2)]
   simp only [List.length_append,List.length_cons,List.length_nil];omega
  ·rw [if_neg c1,if_pos c2,if_neg (by simpa using c1),if_pos (decide_eq_true c2)]
   simp only [List.length_append,List.length_cons,List.length_nil];omega
  ·rw [if_neg c1,if_neg c2,if_neg (by simpa using c1),if_neg (by simpa using c2)]
   simp only [List.length_append,List.length_nil];omega
theorem XD {α β:Type}{f:α->β}:∀{l:List α},(l.map f).Nodup->l.Nodup
 | [],_=>List.nodup_nil
 | a::r,h=>by
  rw [List.map_cons,List.nodup_cons] at h;exact List.nodup_cons.mpr ⟨λ m=>h.1 (List.mem_map_of_mem m),XD h.2⟩
theorem xX {e:BW}{ps:List Aa}(h:ES ps)(he:e.1≠0\/e.2.1≠0):(Cw e ps).length<=ps.length+1:=by
 rcases Hs ps with rfl | ⟨p,rfl⟩ | ⟨p,q,rfl⟩ | h3
 ·exact Nat.zero_le _
 ·rw [T3];split<;>simp
 ·rw [Qc]
  split
  ·split<;>simp
  ·split<;>split<;>simp
 ·rw [Wb h h3];unfold Bv;rw [ZZ,Mf];have ndE:(BR ps).Nodup:=XD (f:=Prod.snd) (by rw [Mf];exact h.nd)
  have nd:((BR ps).filter (Ir e)).Nodup:=ndE.filter _;have mem:∀x∈(BR ps).filter (Ir e),x∈BR ps/\Ae e x.1 * Ae e x.2 < 0:=λ x hx=>⟨(List.mem_filter.mp hx).1,of_decide_eq_true (List.mem_filter.mp hx).2⟩
  have le:=List.length_filter_le (λ z=>decide (0<=Ae e z)) ps
  have two:((BR ps).filter (Ir e)).length<=2:=by
   generalize (BR ps).filter (Ir e)=l at nd mem
   match l,nd,mem with
   | [],_,_=>simp
   | [_],_,_=>simp
   | [_,_],_,_=>simp
   | a::b::c::r,nd,mem=>
    exfalso;obtain ⟨a1,a2⟩:=mem a (by simp)
    obtain ⟨b1,b2⟩:=mem b (by simp)
    obtain ⟨c1,c2⟩:=mem c (by simp)
    simp only [List.nodup_cons,List.mem_cons,not_or] at nd;have nab:=Mi h h3 a1 b1 nd.1.1 a2 b2;have nac:=Mi h h3 a1 c1 nd.1.2.1 a2 c2;have nbc:=Mi h h3 b1 c1 nd.2.1.1 b2 c2;have:=ZV h h3 he (cut_mem.mpr (.inr ⟨a,a1,a2,rfl⟩)) (cut_mem.mpr (.inr ⟨b,b1,b2,rfl⟩)) (cut_mem.mpr (.inr ⟨c,c1,c2,rfl⟩)) (Gf a2) (Gf b2) nab (λ z=>nac z.symm) (λ z=>nbc z.symm)
    rw [Gf c2] at this
    grind
  by_cases c:(BR ps).filter (Ir e)=[]
  ·rw [c];simp only [List.length_nil];omega
  ·obtain ⟨x,hx⟩:=List.exists_mem_of_ne_nil _ c;obtain ⟨x1,x2⟩:=mem x hx;have neg:∃z∈ps,¬ 0<=Ae e z:=by
    obtain ⟨m1,m2⟩:=Cy x1;rcases DK x2 with z | z
    ·exact ⟨_,m1,by grind⟩
    ·exact ⟨_,m2,by grind⟩
   have lt:(ps.filter (λ z=>decide (0<=Ae e z))).length < ps.length:=by
    rw [List.length_filter_lt_length_iff_exists];obtain ⟨z,hz,nz⟩:=neg;exact ⟨z,hz,by simpa using nz⟩
   omega
structure LinB (L:Nat)(A B C:Int):Prop where
 a:A.natAbs < 2 ^ L
 b:B.natAbs < 2 ^ L
 c:C.natAbs < 2 ^ L
def Ei (A B C:Int)(p:Aa):Prop:=(A:Rat) * p.1+(B:Rat) * p.2+(C:Rat)=0
structure OnL (L:Nat)(p q:Aa):Prop where
 ex:∃A B C:Int,LinB L A B C/\(A≠0\/B≠0)/\Ei A B C p/\Ei A B C q
structure Two (L:Nat)(p:Aa):Prop where
 ex:∃A B C A' B' C':Int,LinB L A B C/\LinB L A' B' C'/\A * B' - A' * B≠0/\Ei A B C p/\Ei A' B' C' p
structure EdB (L:Nat)(e:BW):Prop where
 ex:∃(A B C:Int) (k:Rat),LinB L A B C/\k≠0/\e.1=k * A/\e.2.1=k * B/\e.2.2=k * C
theorem Two.self {L:Nat}{p:Aa}(h:Two L p):OnL L p p:=by
 obtain ⟨A,B,C,A',B',C',h1,h2,d,o1,o2⟩:=h.ex;refine ⟨A,B,C,h1,?_,o1,o1⟩;by_cases a:A=0
 ·by_cases b:B=0
  ·exfalso;apply d;rw [a,b];simp
  ·exact .inr b
 ·exact .inl a
theorem OnL.swap {L:Nat}{p q:Aa}(h:OnL L p q):OnL L q p:=by
 obtain ⟨A,B,C,h1,h2,o1,o2⟩:=h.ex;exact ⟨A,B,C,h1,h2,o2,o1⟩
theorem W3 {A B C:Int}{p q:Aa}(t:Rat)(hp:Ei A B C p)(hq:Ei A B C q):Ei A B C (BL t p q):=by
 unfold Ei BL at *;dsimp only
 grind
theorem EdB.on {L:Nat}{e:BW}(h:EdB L e):∃A B C:Int,LinB L A B C/\((e.1≠0\/e.2.1≠0)->(A≠0\/B≠0))/\(∃k:Rat,k≠0/\∀p:Aa,Ae e p=k * ((A:Rat) * p.1+(B:Rat) * p.2+(C:Rat))):=by
 obtain ⟨A,B,C,k,h1,k0,e1,e2,e3⟩:=h.ex;refine ⟨A,B,C,h1,?_,k,k0,λ p=>?_⟩
 ·rintro (n | n)
  ·exact .inl λ z=>n (by rw [e1,z];grind)
  ·exact .inr λ z=>n (by rw [e2,z];grind)
 ·unfold Ae;rw [e1,e2,e3]
  grind
theorem dX {L:Nat}{e:BW}{p q:Aa}(hl:OnL L p q)(hb:EdB L e)(h:Ae e p * Ae e q < 0):Two L (Bh e p q):=by
 obtain ⟨A,B,C,h1,n1,o1,o2⟩:=hl.ex;obtain ⟨A',B',C',h2,_,k,k0,hk⟩:=hb.on;have rc:=Gf h;refine ⟨A,B,C,A',B',C',h1,h2,λ d=>?_,W3 _ o1 o2,?_⟩
 ·have ne:Ae e p≠Ae e q:=by rcases DK h with z | z<;>grind
  apply ne
  rw [hk p,hk q];have d':(A:Rat) * B'=(A':Rat) * B:=by
   have:A * B'=A' * B:=by omega
   have:=congrArg (λ z:Int=>(z:Rat)) this
   simpa only [Rat.intCast_mul] using this
  unfold Ei at o1 o2;have g:(A':Rat) * (p.1 - q.1)+(B':Rat) * (p.2 - q.2)=0:=by
   rcases n1 with n | n
   ·have n:(A:Rat)≠0:=λ z=>n (by have:=Rat.intCast_eq_zero_iff.mp z;exact this)
    have:(A:Rat) * ((A':Rat) * (p.1 - q.1)+(B':Rat) * (p.2 - q.2))=0:=by grind
    rcases Kp this with z | z
    ·exact absurd z n
    ·exact z
   ·have n:(B:Rat)≠0:=λ z=>n (by have:=Rat.intCast_eq_zero_iff.mp z;exact this)
    have:(B:Rat) * ((A':Rat) * (p.1 - q.1)+(B':Rat) * (p.2 - q.2))=0:=by grind
    rcases Kp this with z | z
    ·exact absurd z n
    ·exact z
  congr 1
  grind
 ·rw [hk] at rc;rcases Kp rc with z | z
  ·exact absurd z k0
  ·exact z
theorem j9 {L:Nat}{e:BW}{s t:Aa}(hb:EdB L e)(he:e.1≠0\/e.2.1≠0)(rs:Ae e s=0)(rt:Ae e t=0):OnL L s t:=by
 obtain ⟨A,B,C,h2,n,k,k0,hk⟩:=hb.on;have f:∀z:Aa,Ae e z=0->Ei A B C z:=λ z rz=>by
  rw [hk] at rz;rcases Kp rz with z | z
  ·exact absurd z k0
  ·exact z
 exact ⟨A,B,C,h2,n he,f s rs,f t rt⟩
structure PolB (L:Nat)(ps:List Aa):Prop where
 two:∀p∈ps,Two L p
 on:∀x∈BR ps,OnL L x.1 x.2
theorem OnL.mixL {L:Nat}{p q s t:Aa}(h:OnL L p q)(hs:s=p\/s=q\/∃c,s=BL c p q)(ht:t=p\/t=q\/∃c,t=BL c p q):OnL L s t:=by
 obtain ⟨A,B,C,h1,n1,o1,o2⟩:=h.ex;refine ⟨A,B,C,h1,n1,?_,?_⟩
 ·rcases hs with rfl | rfl | ⟨c,rfl⟩
  ·exact o1
  ·exact o2
  ·exact W3 _ o1 o2
 ·rcases ht with rfl | rfl | ⟨c,rfl⟩
  ·exact o1
  ·exact o2
  ·exact W3 _ o1 o2
theorem rC {L:Nat}{e:BW}{ps:List Aa}(h:PolB L ps)(hb:EdB L e)(he:e.1≠0\/e.2.1≠0):PolB L (Bv e ps):=by
 refine ⟨λ p hp=>?_,λ y hy=>?_⟩
 ·rcases cut_mem.mp hp with ⟨h1,_⟩ | ⟨x,hx,hc,rfl⟩
  ·exact h.two p h1
  ·exact dX (h.on x hx) hb hc
 ·obtain ⟨s,t⟩:=y;have ny:=Qs hy;dsimp only at ny ⊢
  cases ny with
  | old p q k hpq k0 hk hs ht hc=>
   refine (h.on _ hpq).mixL ?_ ?_
   ·rcases hs with rfl | ⟨rfl,_⟩
    ·exact .inl rfl
    ·exact .inr (.inr ⟨_,rfl⟩)
   ·rcases ht with rfl | ⟨rfl,_⟩
    ·exact .inr (.inl rfl)
    ·exact .inr (.inr ⟨_,rfl⟩)
  | cut p q k rs rt hpq rq k0 hk=>exact j9 hb he rs rt
theorem PolB.nil (L:Nat):PolB L []:=by
 refine ⟨λ p hp=>?_,λ x hx=>?_⟩
 ·cases hp
 ·cases hx
theorem PolB.one {L:Nat}{p:Aa}(h:Two L p):PolB L [p]:=by
 refine ⟨λ q hq=>?_,λ x hx=>?_⟩
 ·rw [List.mem_singleton.mp hq];exact h
 ·have hx:x∈[(p,p)]:=hx;rw [List.mem_singleton.mp hx];exact h.self
theorem PolB.pair {L:Nat}{p q:Aa}(h1:Two L p)(h2:Two L q)(h:OnL L p q):PolB L [p,q]:=by
 refine ⟨λ r hr=>?_,λ x hx=>?_⟩
 ·simp only [List.mem_cons,List.not_mem_nil,or_false] at hr;rcases hr with rfl | rfl<;>assumption
 ·have hx:x∈[(q,p),(p,q)]:=hx;simp only [List.mem_cons,List.not_mem_nil,or_false] at hx;rcases hx with rfl | rfl
  ·exact h.swap
  ·exact h
theorem vY {L:Nat}{e:BW}{ps:List Aa}(h:ES ps)(hp:PolB L ps)(hb:EdB L e)(he:e.1≠0\/e.2.1≠0):PolB L (Cw e ps):=by
 rcases Hs ps with rfl | ⟨p,rfl⟩ | ⟨p,q,rfl⟩ | h3
 ·exact PolB.nil L
 ·rw [T3]
  split
  ·exact hp
  ·exact PolB.nil L
 ·have o1:OnL L p q:=hp.on (p,q) (show (p,q)∈[(q,p),(p,q)] by simp)
  have tp:=hp.two p (by simp)
  have tq:=hp.two q (by simp)
  rw [Qc];by_cases c:Ae e p * Ae e q < 0
  ·rw [if_pos c];have tx:=dX o1 hb c
   split
   ·exact PolB.pair tx tp (o1.mixL (.inr (.inr ⟨_,rfl⟩)) (.inl rfl))
   ·exact PolB.pair tx tq (o1.mixL (.inr (.inr ⟨_,rfl⟩)) (.inr (.inl rfl)))
  ·rw [if_neg c]
   split<;>split
   ·exact hp
   ·exact PolB.one tp
   ·exact PolB.one tq
   ·exact PolB.nil L
 ·rw [Wb h h3];exact rC hp hb he
theorem Two.rb {L:Nat}{p:Aa}(h:Two L p):Rb (2 * L+1) p.1 p.2:=by
 obtain ⟨A,B,C,A',B',C',h1,h2,d,o1,o2⟩:=h.ex;have bits:∀{x y z w:Int},x.natAbs < 2 ^ L->y.natAbs < 2 ^ L->z.natAbs < 2 ^ L->w.natAbs < 2 ^ L->(x * y - z * w).natAbs < 2 ^ (2 * L+1):=λ hx hy hz hw=>by
  have:=cg (Dt hx hy) (Dt hz hw);rw [<- Nat.two_mul] at this;exact this
 have cd:∀x y z w:Int,((x * y - z * w:Int):Rat)=(x:Rat) * y - (z:Rat) * w:=λ x y z w=>by rw [Rat.intCast_sub,Rat.intCast_mul,Rat.intCast_mul]
 unfold Ei at o1 o2;have e1:p.1 * ((A * B' - A' * B:Int):Rat)=((B * C' - B' * C:Int):Rat):=by rw [cd,cd];grind
 have e2:p.2 * ((A * B' - A' * B:Int):Rat)=((A' * C - A * C':Int):Rat):=by rw [cd,cd];grind
 have dR:((A * B' - A' * B:Int):Rat)≠0:=λ z=>d (Rat.intCast_eq_zero_iff.mp z)
 have fin:∀(D Y U:Int),D≠0->(D:Rat)≠0->D.natAbs < 2 ^ (2 * L+1)->Y.natAbs < 2 ^ (2 * L+1)->U.natAbs < 2 ^ (2 * L+1)->p.1 * (D:Rat)=(Y:Rat)->p.2 * (D:Rat)=(U:Rat)->Rb (2 * L+1) p.1 p.2:=λ D Y U d0 d1 hD hY hU q1 q2=>by
  by_cases s:0 < D
  ·refine ⟨Y,U,D.natAbs,by omega,hD,hY,hU,?_,?_⟩
   ·rw [show ((D.natAbs:Nat):Int)=D by omega,Rat.divInt_eq_div];grind
   ·rw [show ((D.natAbs:Nat):Int)=D by omega,Rat.divInt_eq_div];grind
  ·have en:((D.natAbs:Nat):Int)=-D:=by omega
   refine ⟨-Y,-U,D.natAbs,by omega,hD,by rw [Int.natAbs_neg];exact hY,by rw [Int.natAbs_neg];exact hU,?_,?_⟩
   ·rw [en,Rat.divInt_eq_div,Rat.intCast_neg,Rat.intCast_neg];grind
   ·rw [en,Rat.divInt_eq_div,Rat.intCast_neg,Rat.intCast_neg];grind
 exact fin _ _ _ d dR (bits h1.a h2.b h2.a h1.b) (bits h1.b h2.c h2.b h1.c) (bits h2.a h1.c h1.a h2.c) e1 e2
theorem aY (l:Aa):∀ps:List Aa,(Bl l ps).length=ps.length
 | []=>rfl
 | p::r=>by show (Bl p r).length+1=r.length+1;rw [aY p r]
theorem Z8 (ps:List Aa):(BR ps).length=ps.length:=by
 unfold BR;cases h:ps.getLast? with
 | none=>rw [List.getLast?_eq_none_iff.mp h];rfl
 | some l=>exact aY l ps
theorem Ys (l:Aa):∀(ps:List Aa) (i:Nat),i < ps.length->(Bl l ps)[i]?=some (if i=0 then l else Bg ps (i - 1),Bg ps i)
 | p::r,0,_=>rfl
 | p::r,i+1,h=>by
  show (Bl p r)[i]?=_;rw [Ys p r i (by simpa using h)]
  cases i with
  | zero=>rfl
  | succ j=>rfl
theorem Q7 {ps:List Aa}{i:Nat}(h:i < ps.length):(BR ps)[i]?=some (Cz ps i,Bg ps i):=by
 unfold BR;cases hl:ps.getLast? with
 | none=>rw [List.getLast?_eq_none_iff.mp hl] at h;exact absurd h (by simp)
 | some l=>
  show (Bl l ps)[i]?=_;rw [Ys l ps i h];unfold Cz;by_cases e:i=0
  ·rw [if_pos e,if_pos e];have:Bg ps (ps.length - 1)=l:=by
    unfold Bg;rw [List.getD_eq_getElem?_getD,<- List.getLast?_eq_getElem?,hl];rfl
   rw [this]
  ·rw [if_neg e,if_neg e]
theorem edges_iff {ps:List Aa}{x:Aa×Aa}:x∈BR ps↔∃i,i < ps.length/\x=(Cz ps i,Bg ps i):=by
 constructor
 ·intro h;obtain ⟨i,hi⟩:=List.mem_iff_getElem?.mp h;have hl:i < ps.length:=by
   rw [<- Z8];exact (List.getElem?_eq_some_iff.mp hi).1
  rw [Q7 hl] at hi;exact ⟨i,hl,(Option.some.inj hi).symm⟩
 ·rintro ⟨i,hi,rfl⟩
  exact List.mem_of_getElem? (Q7 hi)
theorem PN {P:List Aa->Prop}(h:∀x r,P (x::r)->P (r++[x])):∀a b:List Aa,P (a++b)->P (b++a)
 | [],b,p=>by rw [List.append_nil];exact p
 | x::a,b,p=>by
  have p1:=h x (a++b) p;rw [List.append_assoc] at p1;have p2:=PN h a (b++[x]) p1;rw [List.append_assoc] at p2;exact p2
theorem rot_edges {x:Aa}{r:List Aa}{y:Aa×Aa}:y∈BR (r++[x])↔y∈BR (x::r):=by
 have e1:BR (r++[x])=Bl x (r++[x]):=by
  unfold BR;rw [List.getLast?_append];rfl
 have e2:BR (x::r)=((x::r).getLast (by simp),x)::Bl x r:=by
  unfold BR;rw [List.getLast?_eq_some_getLast (by simp)]
  rfl
 rw [e1,e2,Tw,List.mem_append,List.mem_cons,List.mem_cons];simp only [List.not_mem_nil,or_false];exact Or.comm
theorem ES.rot {x:Aa}{r:List Aa}(h:ES (x::r)):ES (r++[x]):=by
 refine ⟨?_,λ y hy z hz n1 n2=>?_⟩
 ·have nd:=h.nd;rw [List.nodup_cons] at nd;rw [List.nodup_append];refine ⟨nd.2,by simp,λ a ha b hb e=>?_⟩
  rw [List.mem_singleton.mp hb] at e;exact nd.1 (e▸ha)
 ·refine h.st y (rot_edges.mp hy) z ?_ n1 n2;rw [List.mem_append,List.mem_singleton] at hz;rw [List.mem_cons];exact hz.symm
theorem PolB.rot {L:Nat}{x:Aa}{r:List Aa}(h:PolB L (x::r)):PolB L (r++[x]):=by
 refine ⟨λ p hp=>h.two p ?_,λ y hy=>h.on y (rot_edges.mp hy)⟩
 rw [List.mem_append,List.mem_singleton] at hp;rw [List.mem_cons];exact hp.symm
theorem InP.rot {x:Aa}{r:List Aa}(z:Aa):InP (r++[x]) z↔InP (x::r) z:=by
 match r with
 | []=>exact Iff.rfl
 | [p]=>exact Zj
 | p::q::s=>
  rw [InP.three (ps:=p::q::s++[x]) (by simp),InP.three (ps:=x::p::q::s) (by simp)]
  constructor
  ·intro h y hy;exact h y (rot_edges.mpr hy)
  ·intro h y hy;exact h y (rot_edges.mp hy)
theorem Ja {a b:Aa}:Bw a b=true↔a.1 < b.1\/(a.1=b.1/\a.2 < b.2):=by
 unfold Bw
 split
 ·rename_i h
  rw [decide_eq_true_iff]
  constructor
  ·intro c;exact .inr ⟨h,c⟩
  ·rintro (c | c)
   ·grind
   ·exact c.2
 ·rename_i h
  rw [decide_eq_true_iff]
  constructor
  ·intro c;exact .inl c
  ·rintro (c | c)
   ·exact c
   ·exact absurd c.1 h
theorem jH {a b c:Aa}(h:Bw a b=true)(k:Bw b c=true):Bw a c=true:=by
 rw [Ja] at *
 grind
theorem gk (a:Aa):Bw a a=false:=by
 cases h:Bw a a with
 | false=>rfl
 | true=>rw [Ja] at h;grind
theorem eG {a b:Aa}(n:a≠b)(h:Bw b a=false):Bw a b=true:=by
 have h:¬ Bw b a=true:=by rw [h];decide
 rw [Ja] at *;rcases (show a.1 < b.1\/a.1=b.1\/b.1 < a.1 by grind) with c | c | c
 ·exact .inl c
 ·rcases (show a.2 < b.2\/a.2=b.2\/b.2 < a.2 by grind) with d | d | d
  ·exact .inr ⟨c,d⟩
  ·exact absurd (Prod.ext c d) n
  ·exact absurd (.inr ⟨c.symm,d⟩) h
 ·exact absurd (.inl c) h
def Ca (cs:List Aa):Nat->Nat
 | 0=>0
 | i+1=>if Bw (Bg cs i) (Bg cs (Ca cs i))=true then i else Ca cs i
def Fb (cs:List Aa):List Aa:=cs.drop (Ca cs cs.length)++cs.take (Ca cs cs.length)
theorem W0 (cs:List Aa):∀m,0 < m->Ca cs m < m
 | 0,h=>absurd h (by decide)
 | m+1,_=>by
  rw [Ca]
  split
  ·omega
  ·cases m with
   | zero=>show 0 < 1;decide
   | succ k=>have:=W0 cs (k+1) (by omega);omega
theorem Ub (cs:List Aa):∀m i,i < m->Bw (Bg cs i) (Bg cs (Ca cs m))=false
 | 0,i,h=>absurd h (by omega)
 | m+1,i,h=>by
  rw [Ca];by_cases c:Bw (Bg cs m) (Bg cs (Ca cs m))=true
  ·rw [if_pos c];by_cases e:i=m
   ·rw [e];exact gk _
   ·have ih:=Ub cs m i (by omega)
    cases hb:Bw (Bg cs i) (Bg cs m) with
    | false=>rfl
    | true=>rw [jH hb c] at ih;cases ih
  ·rw [if_neg c];by_cases e:i=m
   ·rw [e];simpa using c
   ·exact Ub cs m i (by omega)
def Lf (cs:List Aa):Prop:=∀c∈cs,Bw c (Bg cs 0)=false
theorem MF (cs:List Aa):∃a b,cs=a++b/\Fb cs=b++a:=⟨cs.take (Ca cs cs.length),cs.drop (Ca cs cs.length),(List.take_append_drop _ _).symm,rfl⟩
theorem rot_mem {cs:List Aa}{c:Aa}:c∈Fb cs↔c∈cs:=by
 obtain ⟨a,b,e1,e2⟩:=MF cs;rw [e2,e1,List.mem_append,List.mem_append];exact Or.comm
theorem iC (cs:List Aa):(Fb cs).length=cs.length:=by
 obtain ⟨a,b,e1,e2⟩:=MF cs;rw [e2,e1,List.length_append,List.length_append];omega
theorem nA {cs:List Aa}(h:ES cs):ES (Fb cs):=by
 obtain ⟨a,b,e1,e2⟩:=MF cs;rw [e2];exact PN (P:=ES) (λ x r p=>p.rot) a b (e1▸h)
theorem fu {L:Nat}{cs:List Aa}(h:PolB L cs):PolB L (Fb cs):=by
 obtain ⟨a,b,e1,e2⟩:=MF cs;rw [e2];exact PN (P:=PolB L) (λ x r p=>p.rot) a b (e1▸h)
theorem gf (cs:List Aa)(z:Aa):InP (Fb cs) z↔InP cs z:=by
 obtain ⟨a,b,e1,e2⟩:=MF cs;rw [e2];refine PN (P:=λ l=>InP l z↔InP cs z) (λ x r p=>(InP.rot z).trans p) a b ?_
 rw [<- e1]
theorem Za (cs:List Aa):Lf (Fb cs):=by
 intro c hc;have hc:=rot_mem.mp hc;have hl:0 < cs.length:=List.length_pos_of_mem hc;have lt:=W0 cs cs.length hl;have e:Bg (Fb cs) 0=Bg cs (Ca cs cs.length):=by
  unfold Fb Bg;rw [List.getD_eq_getElem?_getD,List.getD_eq_getElem?_getD,List.getElem?_append_left (by rw [List.length_drop];omega),List.getElem?_drop,Nat.add_zero]
 rw [e];obtain ⟨i,hi,rfl⟩:=List.mem_iff_getElem.mp hc;have:=Ub cs cs.length i hi;rw [show Bg cs i=cs[i] by unfold Bg;rw [List.getD_eq_getElem?_getD,List.getElem?_eq_getElem hi];rfl] at this
 exact this
theorem gM {p q x:Aa}(h:Bw p q=true):(0<=Ak q p x/\0<=Ak p q x/\Bw x p=false/\Bw q x=false)↔∃t,0<=t/\t<=1/\x=BL t p q:=by
 constructor
 ·rintro ⟨h1,h2,h3,h4⟩
  have h3:¬ Bw x p=true:=by rw [h3];decide
  have h4:¬ Bw q x=true:=by rw [h4];decide
  rw [Ja] at h h3 h4;have tz:Ak p q x=0:=by unfold Ak at *;grind
  have n:p≠q:=by rintro rfl;rcases h with c | c<;>grind
  obtain ⟨t,rfl⟩:=YB n tz;refine ⟨t,?_,?_,rfl⟩
  ·rcases (show 0<=t\/t < 0 by grind) with c | c
   ·exact c
   ·exfalso
    apply h3
    unfold BL;dsimp only
    rcases h with d | d
    ·left
     have:=Rat.mul_pos (show 0 < -t by grind) (show 0 < q.1 - p.1 by grind)
     grind
    ·right
     have:=Rat.mul_pos (show 0 < -t by grind) (show 0 < q.2 - p.2 by grind)
     have e:=d.1
     constructor
     ·rw [<- e];grind
     ·grind
  ·rcases (show t<=1\/1 < t by grind) with c | c
   ·exact c
   ·exfalso
    apply h4
    unfold BL;dsimp only
    rcases h with d | d
    ·left
     have:=Rat.mul_pos (show 0 < t - 1 by grind) (show 0 < q.1 - p.1 by grind)
     grind
    ·right
     have:=Rat.mul_pos (show 0 < t - 1 by grind) (show 0 < q.2 - p.2 by grind)
     have e:=d.1
     constructor
     ·rw [<- e];grind
     ·grind
 ·rintro ⟨t,t0,t1,rfl⟩
  have z1:Ak p q (BL t p q)=0:=Jl p q t;have z2:Ak q p (BL t p q)=0:=by rw [JV,Hi,Jz];grind
  refine ⟨by rw [z2];grind,by rw [z1];grind,?_,?_⟩
  ·cases hb:Bw (BL t p q) p with
   | false=>rfl
   | true=>
    exfalso;rw [Ja] at hb h;unfold BL at hb;dsimp only at hb
    rcases h with d | d
    ·have:=Rat.mul_nonneg t0 (show 0<=q.1 - p.1 by grind)
     rcases hb with b | b
     ·grind
     ·rcases (show t=0\/0 < t by grind) with c | c
      ·subst c;grind
      ·have:=Rat.mul_pos c (show 0 < q.1 - p.1 by grind);grind
    ·have:=Rat.mul_nonneg t0 (show 0<=q.2 - p.2 by grind)
     have e:=d.1;rcases hb with b | b
     ·rw [<- e] at b;grind
     ·grind
  ·cases hb:Bw q (BL t p q) with
   | false=>rfl
   | true=>
    exfalso;rw [Ja] at hb h;unfold BL at hb;dsimp only at hb
    rcases h with d | d
    ·have:=Rat.mul_nonneg (show 0<=1 - t by grind) (show 0<=q.1 - p.1 by grind)
     rcases hb with b | b
     ·grind
     ·rcases (show t=1\/0 < 1 - t by grind) with c | c
      ·subst c;grind
      ·have:=Rat.mul_pos c (show 0 < q.1 - p.1 by grind);grind
    ·have:=Rat.mul_nonneg (show 0<=1 - t by grind) (show 0<=q.2 - p.2 by grind)
     have e:=d.1;rcases hb with b | b
     ·rw [<- e] at b;grind
     ·grind
theorem Yh (cs:List Aa)(r:Aa):Fj cs r cs.length=true↔∀y∈BR cs,0<=Ak y.1 y.2 r:=by
 rw [QK]
 constructor
 ·intro h y hy;obtain ⟨i,hi,rfl⟩:=edges_iff.mp hy;have:=h i hi;dsimp only
  grind
 ·intro h i hi;have:=h _ (edges_iff.mpr ⟨i,hi,rfl⟩);dsimp only at this
  grind
theorem ZX {cs:List Aa}(h:ES cs)(lf:Lf cs)(r:Aa):Ez cs r=true↔InP cs r:=by
 rcases Hs cs with rfl | ⟨p,rfl⟩ | ⟨p,q,rfl⟩ | h3
 ·show (false=true)↔False;simp
 ·show ((decide (p=r) || false)=true)↔r=p
  rw [Bool.or_false,decide_eq_true_iff];exact eq_comm
 ·have n:p≠q:=by have:=h.nd;simpa using this
  have b:Bw p q=true:=eG n (lf q (by simp))
  show (Fj [p,q] r 2 && (!Bw r p && !Bw q r))=true↔∃t,0<=t/\t<=1/\r=BL t p q;rw [<- gM b,Bool.and_eq_true,Bool.and_eq_true];have e:=Yh [p,q] r;rw [show [p,q].length=2 from rfl] at e
  rw [e];have m:∀y,y∈BR [p,q]↔y=(q,p)\/y=(p,q):=λ y=>by
   show y∈[(q,p),(p,q)]↔_;simp
  constructor
  ·rintro ⟨h1,h2,h3⟩
   exact ⟨h1 (q,p) ((m _).mpr (.inl rfl)),h1 (p,q) ((m _).mpr (.inr rfl)),by simpa using h2,by simpa using h3⟩
  ·rintro ⟨h1,h2,h3,h4⟩
   refine ⟨λ y hy=>?_,by simpa using h3,by simpa using h4⟩
   rcases (m y).mp hy with rfl | rfl
   ·exact h1
   ·exact h2
 ·unfold Ez;rw [if_neg (by omega),if_pos (by omega),Bool.and_true,Yh,InP.three h3]
structure Box where
 a:Rat
 b:Rat
 c:Rat
 d:Rat
def Box.four (x:Box):List Aa:=[(x.a,x.c),(x.b,x.c),(x.b,x.d),(x.a,x.d)]
def Hf:List Aa->List Aa->List Aa
 | [],acc=>acc
 | c::cs,acc=>Hf cs (if c∈acc then acc else acc++[c])
def Df (x:Box):List Aa:=Hf x.four []
structure Box.ok (x:Box):Prop where
 h:x.a<=x.b
 s:x.c<=x.d
def Box.has (x:Box)(r:Aa):Prop:=x.a<=r.1/\r.1<=x.b/\x.c<=r.2/\r.2<=x.d
theorem Ie {a b c d:Rat}:((a,b):Aa)=(c,d)↔a=c/\b=d:=Prod.mk.injEq a b c d▸Iff.rfl
theorem NK {x:Box}(h1:x.a < x.b)(h2:x.c < x.d):Df x=[(x.a,x.c),(x.b,x.c),(x.b,x.d),(x.a,x.d)]:=by
 have n1:x.b≠x.a:=by grind
 have n2:x.d≠x.c:=by grind
 have n3:x.a≠x.b:=by grind
 have n4:x.c≠x.d:=by grind
 unfold Df Box.four;simp [Hf,Ie,n1,n2,n3,n4]
theorem MP {x:Box}(h1:x.a=x.b)(h2:x.c < x.d):Df x=[(x.a,x.c),(x.a,x.d)]:=by
 have n2:x.d≠x.c:=by grind
 have n4:x.c≠x.d:=by grind
 unfold Df Box.four;simp [Hf,Ie,<- h1,n2,n4]
theorem Nq {x:Box}(h1:x.a < x.b)(h2:x.c=x.d):Df x=[(x.a,x.c),(x.b,x.c)]:=by
 have n2:x.b≠x.a:=by grind
 have n4:x.a≠x.b:=by grind
 unfold Df Box.four;simp [Hf,Ie,<- h2,n2,n4]
theorem NB {x:Box}(h1:x.a=x.b)(h2:x.c=x.d):Df x=[(x.a,x.c)]:=by
 unfold Df Box.four;simp [Hf,Ie,<- h1,<- h2]
theorem Box.cases {x:Box}(h:x.ok):(x.a < x.b/\x.c < x.d)\/(x.a=x.b/\x.c < x.d)\/(x.a < x.b/\x.c=x.d)\/(x.a=x.b/\x.c=x.d):=by
 have:=h.h;have:=h.s;rcases (show x.a < x.b\/x.a=x.b by grind) with a | a<;>rcases (show x.c < x.d\/x.c=x.d by grind) with b | b
 ·exact .inl ⟨a,b⟩
 ·exact .inr (.inr (.inl ⟨a,b⟩))
 ·exact .inr (.inl ⟨a,b⟩)
 ·exact .inr (.inr (.inr ⟨a,b⟩))
theorem FN {k z:Rat}(hk:0 < k):0<=k * z↔0<=z:=by
 constructor
 ·intro h;rcases (show 0<=z\/z < 0 by grind) with c | c
  ·exact c
  ·have:=Rat.mul_pos hk (show 0 < -z by grind)
   grind
 ·intro h;exact Rat.mul_nonneg (by grind) h
theorem kj {x:Box}(h:x.ok):ES (Df x):=by
 rcases Box.cases h with ⟨h1,h2⟩ | ⟨h1,h2⟩ | ⟨h1,h2⟩ | ⟨h1,h2⟩
 ·rw [NK h1 h2];have n1:x.b≠x.a:=by grind
  have n2:x.d≠x.c:=by grind
  have n3:x.a≠x.b:=by grind
  have n4:x.c≠x.d:=by grind
  have wp:=Rat.mul_pos (show 0 < x.b - x.a by grind) (show 0 < x.d - x.c by grind)
  refine ⟨by simp [Ie,n1,n2,n3,n4],λ y hy z hz m1 m2=>?_⟩
  have hy:y∈[((x.a,x.d),(x.a,x.c)),((x.a,x.c),(x.b,x.c)),((x.b,x.c),(x.b,x.d)),((x.b,x.d),(x.a,x.d))]:=hy;simp only [List.mem_cons,List.not_mem_nil,or_false] at hy hz;unfold Ak;rcases hy with rfl | rfl | rfl | rfl<;>rcases hz with rfl | rfl | rfl | rfl<;>dsimp only at m1 m2 ⊢<;>first | exact absurd rfl m1 | exact absurd rfl m2 | grind
 ·rw [MP h1 h2];exact ES.two (by rw [Ne,Ie];grind)
 ·rw [Nq h1 h2];exact ES.two (by rw [Ne,Ie];grind)
 ·rw [NB h1 h2];exact ES.one _
theorem O7 {t:Rat}{p q r:Aa}:r=BL t p q↔r.1=p.1+t * (q.1 - p.1)/\r.2=p.2+t * (q.2 - p.2):=by
 unfold BL;rw [Prod.ext_iff]
theorem oH {x:Box}(h:x.ok)(r:Aa):InP (Df x) r↔x.has r:=by
 unfold Box.has;rcases Box.cases h with ⟨h1,h2⟩ | ⟨h1,h2⟩ | ⟨h1,h2⟩ | ⟨h1,h2⟩
 ·rw [NK h1 h2];have hm:∀y,y∈BR [(x.a,x.c),(x.b,x.c),(x.b,x.d),(x.a,x.d)]↔(y=((x.a,x.d),(x.a,x.c))\/y=((x.a,x.c),(x.b,x.c))\/y=((x.b,x.c),(x.b,x.d))\/y=((x.b,x.d),(x.a,x.d))):=λ y=>by
   show y∈[((x.a,x.d),(x.a,x.c)),((x.a,x.c),(x.b,x.c)),((x.b,x.c),(x.b,x.d)),((x.b,x.d),(x.a,x.d))]↔_;simp
  rw [InP.three (by simp)]
  have hw:0 < x.b - x.a:=by grind
  have hs:0 < x.d - x.c:=by grind
  have t1:Ak (x.a,x.d) (x.a,x.c) r=(x.d - x.c) * (r.1 - x.a):=by unfold Ak;grind
  have t2:Ak (x.a,x.c) (x.b,x.c) r=(x.b - x.a) * (r.2 - x.c):=by unfold Ak;grind
  have t3:Ak (x.b,x.c) (x.b,x.d) r=(x.d - x.c) * (x.b - r.1):=by unfold Ak;grind
  have t4:Ak (x.b,x.d) (x.a,x.d) r=(x.b - x.a) * (x.d - r.2):=by unfold Ak;grind
  constructor
  ·intro g;have g1:=g _ ((hm _).mpr (.inl rfl));have g2:=g _ ((hm _).mpr (.inr (.inl rfl)));have g3:=g _ ((hm _).mpr (.inr (.inr (.inl rfl))));have g4:=g _ ((hm _).mpr (.inr (.inr (.inr rfl))));dsimp only at g1 g2 g3 g4
   rw [t1,FN hs] at g1;rw [t2,FN hw] at g2;rw [t3,FN hs] at g3;rw [t4,FN hw] at g4
   grind
  ·rintro ⟨g1,g2,g3,g4⟩ y hy
   rcases (hm y).mp hy with rfl | rfl | rfl | rfl<;>dsimp only
   ·rw [t1,FN hs];grind
   ·rw [t2,FN hw];grind
   ·rw [t3,FN hs];grind
   ·rw [t4,FN hw];grind
 ·rw [MP h1 h2];show (∃t,0<=t/\t<=1/\r=BL t (x.a,x.c) (x.a,x.d))↔_;have hs:0 < x.d - x.c:=by grind
  constructor
  ·rintro ⟨t,t0,t1,e⟩
   rw [O7] at e;dsimp only at e
   have:=Rat.mul_nonneg t0 (show 0<=x.d - x.c by grind)
   have:=Rat.mul_nonneg (show 0<=1 - t by grind) (show 0<=x.d - x.c by grind)
   grind
  ·rintro ⟨g1,g2,g3,g4⟩
   have e:(r.2 - x.c) / (x.d - x.c) * (x.d - x.c)=r.2 - x.c:=JT hs;refine ⟨(r.2 - x.c) / (x.d - x.c),?_,?_,?_⟩
   ·rw [<- FN hs];grind
   ·have:0<=1 - (r.2 - x.c) / (x.d - x.c):=by rw [<- FN hs];grind
    grind
   ·rw [O7];dsimp only;grind
 ·rw [Nq h1 h2];show (∃t,0<=t/\t<=1/\r=BL t (x.a,x.c) (x.b,x.c))↔_;have hs:0 < x.b - x.a:=by grind
  constructor
  ·rintro ⟨t,t0,t1,e⟩
   rw [O7] at e;dsimp only at e
   have:=Rat.mul_nonneg t0 (show 0<=x.b - x.a by grind)
   have:=Rat.mul_nonneg (show 0<=1 - t by grind) (show 0<=x.b - x.a by grind)
   grind
  ·rintro ⟨g1,g2,g3,g4⟩
   have e:(r.1 - x.a) / (x.b - x.a) * (x.b - x.a)=r.1 - x.a:=JT hs;refine ⟨(r.1 - x.a) / (x.b - x.a),?_,?_,?_⟩
   ·rw [<- FN hs];grind
   ·have:0<=1 - (r.1 - x.a) / (x.b - x.a):=by rw [<- FN hs];grind
    grind
   ·rw [O7];dsimp only;grind
 ·rw [NB h1 h2];show r=(x.a,x.c)↔_;rw [Prod.ext_iff];dsimp only
  grind
structure Box.bd (n:Nat)(x:Box):Prop where
 a:Bd n x.a
 b:Bd n x.b
 c:Bd n x.c
 d:Bd n x.d
theorem Hc (q:Rat):(q.den:Rat) * q=(q.num:Rat):=by
 have h:q=(q.num:Rat) / (q.den:Rat):=by rw [<- Rat.intCast_natCast,<- Rat.divInt_eq_div];exact (Rat.num_divInt_den q).symm
 have d:(q.den:Rat)≠0:=λ z=>q.den_nz (by exact_mod_cast z)
 generalize (q.num:Rat)=a at *;generalize (q.den:Rat)=b at *
 grind
theorem Ol {L:Nat}{p q:Rat}(hp:Bd L p)(hq:Bd L q)(h0:0 < L):Two L (p,q):=by
 have z:(0:Int).natAbs < 2 ^ L:=by show 0 < 2 ^ L;exact Nat.two_pow_pos L
 refine ⟨(p.den:Int),0,-p.num,0,(q.den:Int),-q.num,⟨hp.d,z,by rw [Int.natAbs_neg];exact hp.n⟩,⟨z,hq.d,by rw [Int.natAbs_neg];exact hq.n⟩,?_,?_,?_⟩
 ·have h1:=p.den_nz;have h2:=q.den_nz;rw [Int.zero_mul,Int.sub_zero];intro e;rcases Int.mul_eq_zero.mp e with e | e<;>omega
 ·unfold Ei;have:=Hc p;simp only [Rat.intCast_natCast,Rat.intCast_neg,Rat.intCast_zero]
  grind
 ·unfold Ei;have:=Hc q;simp only [Rat.intCast_natCast,Rat.intCast_neg,Rat.intCast_zero]
  grind
theorem WT {L:Nat}{p u v:Rat}(hp:Bd L p):OnL L (p,u) (p,v):=by
 have z:(0:Int).natAbs < 2 ^ L:=by show 0 < 2 ^ L;exact Nat.two_pow_pos L
 have:=Hc p;have h1:=p.den_nz;refine ⟨(p.den:Int),0,-p.num,⟨hp.d,z,by rw [Int.natAbs_neg];exact hp.n⟩,.inl (by omega),?_,?_⟩<;>
 ·unfold Ei;simp only [Rat.intCast_natCast,Rat.intCast_neg,Rat.intCast_zero]
  grind
theorem QD {L:Nat}{p u v:Rat}(hp:Bd L p):OnL L (u,p) (v,p):=by
 have z:(0:Int).natAbs < 2 ^ L:=by show 0 < 2 ^ L;exact Nat.two_pow_pos L
 have:=Hc p;have h1:=p.den_nz;refine ⟨0,(p.den:Int),-p.num,⟨z,hp.d,by rw [Int.natAbs_neg];exact hp.n⟩,.inr (by omega),?_,?_⟩<;>
 ·unfold Ei;simp only [Rat.intCast_natCast,Rat.intCast_neg,Rat.intCast_zero]
  grind
theorem wC {L:Nat}{x:Box}(h:x.ok)(b:x.bd L)(h0:0 < L):PolB L (Df x):=by
 have c1:=Ol b.a b.c h0;have c2:=Ol b.b b.c h0;have c3:=Ol b.b b.d h0;have c4:=Ol b.a b.d h0;rcases Box.cases h with ⟨h1,h2⟩ | ⟨h1,h2⟩ | ⟨h1,h2⟩ | ⟨h1,h2⟩
 ·rw [NK h1 h2];refine ⟨λ p hp=>?_,λ y hy=>?_⟩
  ·simp only [List.mem_cons,List.not_mem_nil,or_false] at hp;rcases hp with rfl | rfl | rfl | rfl<;>assumption
  ·have hy:y∈[((x.a,x.d),(x.a,x.c)),((x.a,x.c),(x.b,x.c)),((x.b,x.c),(x.b,x.d)),((x.b,x.d),(x.a,x.d))]:=hy;simp only [List.mem_cons,List.not_mem_nil,or_false] at hy;rcases hy with rfl | rfl | rfl | rfl
   ·exact WT b.a
   ·exact QD b.c
   ·exact WT b.b
   ·exact QD b.d
 ·rw [MP h1 h2];exact PolB.pair c1 c4 (WT b.a)
 ·rw [Nq h1 h2];exact PolB.pair c1 c2 (QD b.c)
 ·rw [NB h1 h2];exact PolB.one c1
theorem uD {x:Box}(h:x.ok):(Df x).length<=4:=by
 rcases Box.cases h with ⟨h1,h2⟩ | ⟨h1,h2⟩ | ⟨h1,h2⟩ | ⟨h1,h2⟩
 ·rw [NK h1 h2];show 4<=4;decide
 ·rw [MP h1 h2];show 2<=4;decide
 ·rw [Nq h1 h2];show 2<=4;decide
 ·rw [NB h1 h2];show 1<=4;decide
theorem nH {n M:Nat}{a b c:Rat}(ha:Bd n a)(hb:Bd n b)(hc:Bd M c):EdB (2 * n+M) (a,b,c):=by
 have d1:=a.den_nz;have d2:=b.den_nz;have d3:=c.den_nz;have e1:=Hc a;have e2:=Hc b;have e3:=Hc c;have m3:∀{x y z p q r:Nat},x < 2 ^ p->y < 2 ^ q->z < 2 ^ r->x * y * z < 2 ^ (p+q+r):=λ {x y z p q r} hx hy hz=>by
  rw [Nat.pow_add,Nat.pow_add];have h1:x * y < 2 ^ p * 2 ^ q:=Nat.mul_lt_mul'' hx hy;exact Nat.mul_lt_mul'' h1 hz
 have f1:(a.den:Rat)≠0:=λ z=>d1 (by exact_mod_cast z)
 have f2:(b.den:Rat)≠0:=λ z=>d2 (by exact_mod_cast z)
 have f3:(c.den:Rat)≠0:=λ z=>d3 (by exact_mod_cast z)
 refine ⟨a.num * (b.den:Int) * (c.den:Int),(a.den:Int) * b.num * (c.den:Int),(a.den:Int) * (b.den:Int) * c.num,1 / ((a.den:Rat) * (b.den:Rat) * (c.den:Rat)),⟨?_,?_,?_⟩,?_,?_,?_,?_⟩
 ·rw [Int.natAbs_mul,Int.natAbs_mul,Int.natAbs_natCast,Int.natAbs_natCast,show 2 * n+M=n+n+M by omega]
  exact m3 ha.n hb.d hc.d
 ·rw [Int.natAbs_mul,Int.natAbs_mul,Int.natAbs_natCast,Int.natAbs_natCast,show 2 * n+M=n+n+M by omega]
  exact m3 ha.d hb.n hc.d
 ·rw [Int.natAbs_mul,Int.natAbs_mul,Int.natAbs_natCast,Int.natAbs_natCast,show 2 * n+M=n+n+M by omega]
  exact m3 ha.d hb.d hc.n
 ·grind
 ·simp only [Rat.intCast_mul,Rat.intCast_natCast]
  grind
 ·simp only [Rat.intCast_mul,Rat.intCast_natCast]
  grind
 ·simp only [Rat.intCast_mul,Rat.intCast_natCast]
  grind
end Op
namespace Lib
open PySem L2 Fr Op
def Ib (e:BW):PyData:=.tuple [Af e.1,Af e.2.1,Af e.2.2]
def HQ (x:Box):PyData:=.tuple [Af x.a,Af x.b,Af x.c,Af x.d]
def Ge (cs:List Aa):PyData:=.list (cs.map Ax)
def Gp (l:Lim):BW:=(l.a,l.b,0 - l.lo)
def JG (l:Lim):BW:=(0 - l.a,0 - l.b,l.hi)
structure LimB (n M:Nat)(l:Lim):Prop where
 a:Bd n l.a
 b:Bd n l.b
 lo:Bd M l.lo
 hi:Bd M l.hi
 z:l.a=0->l.b≠0
structure EdS (n M:Nat)(e:BW):Prop where
 a:Bd n e.1
 b:Bd n e.2.1
 c:Bd M e.2.2
 z:e.1≠0\/e.2.1≠0
theorem U6 (q:Rat):0 - q=-q:=by grind
theorem LimB.up {n M:Nat}{l:Lim}(h:LimB n M l):EdS n M (Gp l):=by
 refine ⟨h.a,h.b,?_,?_⟩
 ·show Bd M (0 - l.lo);rw [U6];exact h.lo.neg
 ·show l.a≠0\/l.b≠0;by_cases z:l.a=0
  ·exact .inr (h.z z)
  ·exact .inl z
theorem LimB.dn {n M:Nat}{l:Lim}(h:LimB n M l):EdS n M (JG l):=by
 refine ⟨?_,?_,h.hi,?_⟩
 ·show Bd n (0 - l.a);rw [U6];exact h.a.neg
 ·show Bd n (0 - l.b);rw [U6];exact h.b.neg
 ·show 0 - l.a≠0\/0 - l.b≠0;by_cases z:l.a=0
  ·right
   have:=h.z z
   grind
  ·left
   grind
theorem EdS.edb {n M:Nat}{e:BW}(h:EdS n M e):EdB (2 * n+M) e:=nH h.a h.b h.c
structure Poly (L k:Nat)(ps:List Aa):Prop where
 es:ES ps
 pb:PolB L ps
 len:ps.length<=k
theorem Poly.cut {n M k:Nat}{e:BW}{ps:List Aa}(h:Poly (2 * n+M) k ps)(he:EdS n M e):Poly (2 * n+M) (k+1) (Cw e ps):=
 ⟨(Wh h.es he.z).1,vY h.es h.pb he.edb he.z,Nat.le_trans (xX h.es he.z) (Nat.add_le_add_right h.len 1)⟩
theorem Poly.rb {L k:Nat}{ps:List Aa}(h:Poly L k ps):∀p∈ps,RB (2 * L+1) p:=λ p hp=>(h.pb.two p hp).rb
theorem Poly.rn {L k:Nat}{ps:List Aa}(h:Poly L k ps):∀p∈ps,Rn (2 * L+1) p:=λ p hp=>⟨(h.rb p hp).y,(h.rb p hp).u⟩
def Hu (ps:List Aa)(l:Lim):List Aa:=Cw (JG l) (Cw (Gp l) ps)
def ik (ps:List Aa)(l:Lim):Nat->List Aa
 | 0=>ps
 | 1=>Cw (Gp l) ps
 | _=>Hu ps l
def HR (ls:List Lim)(ps:List Aa):List Aa:=ls.foldl Hu ps
def Fo (ls:List Lim)(x:Box):List Aa:=Fb (HR ls (Df x))
theorem lC {ls:List Lim}{i:Nat}{l:Lim}(h:ls[i]?=some l)(ps:List Aa):HR (ls.take (i+1)) ps=Hu (HR (ls.take i) ps) l:=by
 unfold HR;rw [List.take_add_one,h];show (ls.take i++[l]).foldl Hu ps=_;rw [List.foldl_append];rfl
theorem Poly.lim {n M k:Nat}{l:Lim}{ps:List Aa}(h:Poly (2 * n+M) k ps)(hl:LimB n M l):Poly (2 * n+M) (k+2) (Hu ps l):=(h.cut hl.up).cut hl.dn
theorem Poly.all {n M:Nat}:∀(ls:List Lim) {k:Nat} {ps:List Aa},Poly (2 * n+M) k ps->(∀l∈ls,LimB n M l)->Poly (2 * n+M) (k+2 * ls.length) (HR ls ps)
 | [],k,ps,h,_=>h
 | l::ls,k,ps,h,hl=>by
  have:=Poly.all ls (h.lim (hl l List.mem_cons_self)) (λ x hx=>hl x (List.mem_cons_of_mem _ hx))
  rw [List.length_cons,show k+2 * (ls.length+1)=k+2+2 * ls.length by omega]
  exact this
theorem Rk {L:Nat}{x:Box}(h:x.ok)(b:x.bd L)(h0:0 < L):Poly L 4 (Df x):=⟨kj h,wC h b h0,uD h⟩
theorem ig {ps:List Aa}{l:Lim}(h:ES ps)(z:l.a=0->l.b≠0)(r:Aa):InP (Hu ps l) r↔InP ps r/\l.bad r=false:=by
 have z1:(Gp l).1≠0\/(Gp l).2.1≠0:=by
  show l.a≠0\/l.b≠0;by_cases c:l.a=0
  ·exact .inr (z c)
  ·exact .inl c
 have z2:(JG l).1≠0\/(JG l).2.1≠0:=by
  show 0 - l.a≠0\/0 - l.b≠0;rcases z1 with c | c
  ·left;have c:l.a≠0:=c;grind
  ·right;have c:l.b≠0:=c;grind
 obtain ⟨es,i1⟩:=Wh h z1;obtain ⟨_,i2⟩:=Wh es z2;unfold Hu;rw [i2,i1,and_assoc];have e1:Ae (Gp l) r=l.a * r.1+l.b * r.2+(0 - l.lo):=rfl;have e2:Ae (JG l) r=(0 - l.a) * r.1+(0 - l.b) * r.2+l.hi:=rfl;rw [e1,e2];unfold Lim.bad;rw [Bool.or_eq_false_iff,decide_eq_false_iff_not,decide_eq_false_iff_not]
 constructor
 ·rintro ⟨h1,h2,h3⟩;exact ⟨h1,by grind,by grind⟩
 ·rintro ⟨h1,h2,h3⟩;exact ⟨h1,by grind,by grind⟩
theorem cO {n M:Nat}(r:Aa):∀(ls:List Lim) {k:Nat} {ps:List Aa},Poly (2 * n+M) k ps->(∀l∈ls,LimB n M l)->(InP (HR ls ps) r↔InP ps r/\∀l∈ls,l.bad r=false)
 | [],k,ps,h,_=>by
  show InP ps r↔_;simp
 | l::ls,k,ps,h,hl=>by
  have hl1:=hl l List.mem_cons_self;have:=cO r ls (h.lim hl1) (λ x hx=>hl x (List.mem_cons_of_mem _ hx))
  show InP (HR ls (Hu ps l)) r↔_;rw [this,ig h.es hl1.z];simp [and_assoc]
theorem YK (r:Aa):∀ls:List Lim,GJ ls r=none↔∀l∈ls,l.bad r=false
 | []=>by simp [GJ]
 | l::ls=>by
  rw [GJ];by_cases c:l.bad r=true
  ·rw [if_pos c];simp [c]
  ·rw [if_neg c,YK r ls];simp [c]
structure FieldOk (n M:Nat)(ls:List Lim)(x:Box):Prop where
 ok:x.ok
 bd:x.bd (2 * n+M)
 pos:0 < 2 * n+M
 lim:∀l∈ls,LimB n M l
theorem FieldOk.poly {n M:Nat}{ls:List Lim}{x:Box}(h:FieldOk n M ls x):Poly (2 * n+M) (4+2 * ls.length) (Fo ls x):=by
 have p:=Poly.all ls (Rk h.ok h.bd h.pos) h.lim;exact ⟨nA p.es,fu p.pb,by unfold Fo;rw [iC];exact p.len⟩
theorem FieldOk.in {n M:Nat}{ls:List Lim}{x:Box}(h:FieldOk n M ls x)(r:Aa):InP (Fo ls x) r↔x.has r/\∀l∈ls,l.bad r=false:=by
 unfold Fo;rw [gf,cO r ls (Rk h.ok h.bd h.pos) h.lim,oH h.ok]
theorem FieldOk.within {n M:Nat}{ls:List Lim}{x:Box}(h:FieldOk n M ls x)(r:Aa):Ez (Fo ls x) r=true↔x.has r/\GJ ls r=none:=by
 rw [ZX h.poly.es (Za _),h.in,YK]
theorem cL (x y:Rat):x.num * y.num < 0↔x * y < 0:=by
 have h1:=Hc x;have h2:=Hc y;have p1:(0:Rat) < (x.den:Rat):=by
  have:=x.den_pos
  exact_mod_cast this
 have p2:(0:Rat) < (y.den:Rat):=by
  have:=y.den_pos
  exact_mod_cast this
 have e:((x.num * y.num:Int):Rat)=((x.den:Rat) * (y.den:Rat)) * (x * y):=by
  rw [Rat.intCast_mul,<- h1,<- h2];grind
 have c:(((x.num * y.num:Int):Rat) < ((0:Int):Rat))↔x.num * y.num < 0:=Rat.intCast_lt_intCast;rw [<- c,e];have pp:=Rat.mul_pos p1 p2;generalize (x.den:Rat) * (y.den:Rat)=k at pp ⊢;show k * (x * y) < 0↔x * y < 0;generalize x * y=z;have:=FN (z:=z) pp
 grind
theorem KC (x:Rat):0<=x.num↔0<=x:=Rat.num_nonneg
def Gs (e:BW)(left:List Aa)(x:Aa×Aa):List Aa:=(if Ae e x.1 * Ae e x.2 < 0/\Bh e x.1 x.2∉left then left++[Bh e x.1 x.2] else left)++(if 0<=Ae e x.2 then [x.2] else [])
theorem Y5 (e:BW):∀(xs:List (Aa×Aa)) (left:List Aa),En e xs left=xs.foldl (Gs e) left
 | [],left=>rfl
 | x::r,left=>by
  rw [En,Y5 e r];rfl
def GK (e:BW)(ps:List Aa)(i:Nat):List Aa:=((BR ps).take i).foldl (Gs e) []
theorem gH (e:BW){ps:List Aa}{i:Nat}(h:i < ps.length):GK e ps (i+1)=Gs e (GK e ps i) (Cz ps i,Bg ps i):=by
 unfold GK;rw [List.take_add_one,Q7 h];show ((BR ps).take i++[(Cz ps i,Bg ps i)]).foldl (Gs e) []=_;rw [List.foldl_append];rfl
theorem tW (e:BW)(ps:List Aa):GK e ps ps.length=Cw e ps:=by
 unfold GK Cw;rw [Y5,<- Z8,List.take_length]
theorem uy (e:BW)(left:List Aa)(x:Aa×Aa):(Gs e left x).length<=left.length+2:=by
 unfold Gs;rw [List.length_append];have h1:(if Ae e x.1 * Ae e x.2 < 0/\Bh e x.1 x.2∉left then left++[Bh e x.1 x.2] else left).length<=left.length+1:=by
  split
  ·rw [List.length_append];simp
  ·omega
 have h2:(if 0<=Ae e x.2 then [x.2] else []).length<=1:=by
  split
  ·simp
  ·simp
 omega
theorem YW (e:BW):∀(xs:List (Aa×Aa)) (left:List Aa),(xs.foldl (Gs e) left).length<=left.length+2 * xs.length
 | [],left=>by simp
 | x::r,left=>by
  have:=YW e r (Gs e left x);have h2:=uy e left x;rw [List.foldl_cons,List.length_cons];omega
theorem jx (e:BW)(ps:List Aa)(i:Nat):(GK e ps i).length<=2 * i:=by
 have h:=YW e ((BR ps).take i) [];have h2:((BR ps).take i).length<=i:=by rw [List.length_take];omega
 simp only [List.length_nil] at h;unfold GK;omega
def Er (cs:List Aa)(i:Nat):List Aa:=(cs.take i).foldl (λ acc c=>if c∈acc then acc else acc++[c]) []
theorem XF:∀(cs acc:List Aa),Hf cs acc=cs.foldl (λ acc c=>if c∈acc then acc else acc++[c]) acc
 | [],acc=>rfl
 | c::cs,acc=>by rw [Hf,XF cs];rfl
theorem Vo {cs:List Aa}{i:Nat}{c:Aa}(h:cs[i]?=some c):Er cs (i+1)=if c∈Er cs i then Er cs i else Er cs i++[c]:=by
 unfold Er;rw [List.take_add_one,h];show (cs.take i++[c]).foldl _ []=_;rw [List.foldl_append];rfl
theorem fQ (cs:List Aa):Er cs cs.length=Hf cs []:=by
 unfold Er;rw [XF,List.take_length]
theorem bM (cs:List Aa):∀i,(Er cs i).length<=i
 | 0=>by simp [Er]
 | i+1=>by
  have ih:=bM cs i;cases h:cs[i]? with
  | none=>
   unfold Er at ih ⊢;rw [List.take_add_one,h];simp only [Option.toList,List.append_nil];omega
  | some c=>
   rw [Vo h]
   split
   ·omega
   ·rw [List.length_append];simp;omega
theorem ZS (cs:List Aa)(r:Aa):cs.any (λ c=>decide (c=r))=decide (r∈cs):=by
 rw [Bool.eq_iff_iff,List.any_eq_true,decide_eq_true_iff]
 constructor
 ·rintro ⟨c,hc,e⟩
  rw [decide_eq_true_iff] at e;exact e▸hc
 ·intro h;exact ⟨r,h,by simp⟩
def mY:List PyData->PyData->Prop:=λ ds d=>∃s e r n m,ds=[Ax s,Ax e,Ax r]/\Rn n s/\Rn n e/\Rn m r/\6 * n+2 * m+5<=4000/\d=Af (Ak s e r)
def qT:List PyData->PyData->Prop:=λ ds d=>∃cs r n m,ds=[Ge cs,Ax r]/\(∀c∈cs,Rn n c)/\Rn m r/\6 * n+2 * m+5<=4000/\cs.length<=200/\d=.bool (Ez cs r)
def gA:List PyData->PyData->Prop:=λ ds d=>∃p q,ds=[Af p,Af q]/\Sm p/\Sm q/\p<=q/\d=.bool true
def pG:List PyData->PyData->Prop:=λ ds d=>∃x n,ds=[HQ x]/\x.ok/\x.bd n/\n<=4000/\d=.bool true
def rF:List PyData->PyData->Prop:=λ ds d=>∃x n,ds=[HQ x]/\x.ok/\x.bd n/\n<=4000/\d=.none
def kO:List PyData->PyData->Prop:=λ ds d=>∃x,ds=[HQ x]/\d=Ge (Df x)
def vG:List PyData->PyData->Prop:=λ ds d=>∃l n M,ds=[Dj l]/\LimB n M l/\n<=4000/\M<=4000/\d=.list [Ib (Gp l),Ib (JG l)]
def ji:List PyData->PyData->Prop:=λ ds d=>∃e r n M c,ds=[Ib e,Ax r]/\EdS n M e/\Rn c r/\2 * (c+n)+M+2<=4000/\d=Af (Ae e r)
def sW:List PyData->PyData->Prop:=λ ds d=>∃p q x y c k,ds=[Ax p,Ax q,Af x,Af y]/\Rn c p/\Rn c q/\Bd k x/\Bd k y/\x - y≠0/\3 * k+2 * c+2<=4000/\d=Ax (BL (x / (x - y)) p q)
def vU:List PyData->PyData->Prop:=λ ds d=>∃e ps n M c,ds=[Ib e,Ge ps]/\EdS n M e/\(∀p∈ps,Rn c p)/\3 * (2 * (c+n)+M+2)+2 * c+2<=4000/\ps.length<=200/\d=Ge (Cw e ps)
def pO (K:FrG):Sp:=λ vs H Q _=>∃(v:V) (cs:List Aa) (n:Nat),vs=[v]/\DV K H v (Ge cs)/\(∀c∈cs,Rn n c)/\n<=4000/\cs.length<=200/\∀l rs H',Same H H'->H l=none->H' l=some (.lst rs)->DVs K H' rs ((Fb cs).map Ax)->Q (.ref l) H'
def wL (K:FrG):Sp:=λ vs H Q _=>∃(v u:V) (ps:List Pc) (x:Box) (m n M:Nat),vs=[v,u]/\DV K H v (Dz ps)/\DV K H u (HQ x)/\Good m ps/\2+ps.length * (m+1)+m<=3900/\FieldOk n M (Ba ps) x/\38 * n+19 * M+16<=4000/\∀l rs H',Same H H'->H l=none->H' l=some (.lst rs)->DVs K H' rs ((Fo (Ba ps) x).map Ax)->Q (.ref l) H'
theorem DV.t4b {K:FrG}{H:Hp}{v:V}{x:Box}(h:DV K H v (HQ x)):∃a x1 x2 x3 x4,v=.ref a/\SqT K H a [x1,x2,x3,x4]/\DV K H x1 (Af x.a)/\DV K H x2 (Af x.b)/\DV K H x3 (Af x.c)/\DV K H x4 (Af x.d):=by
 obtain ⟨a,xs,rfl,ha,hxs⟩:=DV.tup_of h;obtain ⟨x1,x2,x3,x4,rfl,h1,h2,h3,h4⟩:=hxs.four;exact ⟨a,x1,x2,x3,x4,rfl,ha,h1,h2,h3,h4⟩
theorem DV.t3e {K:FrG}{H:Hp}{v:V}{e:BW}(h:DV K H v (Ib e)):∃a x y z,v=.ref a/\SqT K H a [x,y,z]/\DV K H x (Af e.1)/\DV K H y (Af e.2.1)/\DV K H z (Af e.2.2):=by
 obtain ⟨a,xs,rfl,ha,hxs⟩:=DV.tup_of h;obtain ⟨x,y,z,rfl,h1,h2,h3⟩:=hxs.three;exact ⟨a,x,y,z,rfl,ha,h1,h2,h3⟩
theorem XQ {K:FrG}{H:Hp}{v:V}{q:Rat}(h:DV K H v (Af q)):∃a,v=.ref a/\SqT K H a [.int q.num,.int (q.den:Int)]:=by
 obtain ⟨a,xs,rfl,ha,hxs⟩:=DV.tup_of h;obtain ⟨x,y,rfl,h1,h2⟩:=hxs.two;obtain rfl:=h1.int_of;obtain rfl:=h2.int_of;exact ⟨a,rfl,ha⟩
theorem R0 {K:FrG}{H:Hp}{rs:List V}{ps:List Aa}{e:BW}(h:DVs K H rs ((ps.map (Ae e)).map Af)){i:Nat}(hi:i < ps.length):∃v,rs[i]?=some v/\DV K H v (Af (Ae e (Bg ps i))):=by
 have hl:=h.len;rw [List.length_map,List.length_map] at hl;obtain ⟨d,hd,hv⟩:=h.get (i:=i) (List.getElem?_eq_getElem (show i < rs.length by omega))
 rw [List.getElem?_map,List.getElem?_map,List.getElem?_eq_getElem hi] at hd;have e1:Bg ps i=ps[i]:=WY (List.getElem?_eq_getElem hi);cases hd
 rw [e1];exact ⟨_,List.getElem?_eq_getElem (show i < rs.length by omega),hv⟩
theorem eX {K:FrG}{H:Hp}{rs:List V}{ps:List Aa}{e:BW}(h:DVs K H rs ((ps.map (Ae e)).map Af)){i:Nat}(hi:i < ps.length):∃v,atI rs ((i:Int) - 1)=some v/\DV K H v (Af (Ae e (Cz ps i))):=by
 have hl:=h.len;rw [List.length_map,List.length_map] at hl;cases i with
 | zero=>
  obtain ⟨v,hv,hd⟩:=R0 h (i:=ps.length - 1) (by omega)
  refine ⟨v,?_,hd⟩;rw [show (((0:Nat):Int) - 1)=-1 from rfl]
  exact Yc (by rw [hl];exact hv)
 | succ j=>
  obtain ⟨v,hv,hd⟩:=R0 h (i:=j) (by omega)
  refine ⟨v,?_,hd⟩;rw [show (((j+1:Nat):Int) - 1)=(j:Int) by omega]
  exact Eh hv
theorem vd {K:FrG}{H H':Hp}(s:M7 H H'){a:Addr}{xs:List V}(h:SqT K H a xs):SqT K H' a xs:=by
 rcases h with (h | ⟨o,h⟩) | h
 ·exact .inl (.inl ((s _ _).1 h))
 ·exact .inl (.inr ⟨o,(s _ _).2 o h⟩)
 ·exact .inr h
end Lib
namespace L2
open PySem PySem.Spec PyProof.Rows PySem.Builtin
theorem iR {K:FrG}{a b:Addr}{xs zs:List V}{g:TG}{te:TE}{Q:VK}{σ:St}{H:Hp}(Pv:Nat->St->List V->Hp->Prop)(le:xs.length<=zs.length)(h0:Pv 0 σ [] H)(hz:∀i σ ys H,i<=xs.length->Pv i σ ys H->ys.length<=sizeLine/\SqT K H a xs/\SqT K H b zs)
  (hs:∀i x z σ ys H p,xs[i]?=some x->zs[i]?=some z->Pv i σ ys H->H p=none->g (.ref p) σ (upd H p (.tup [x,z])) λ σ2 H2=>te σ2 H2 λ y H4=>Nx xs.length Pv i σ2 (ys++[y]) H4)
  (hd:∀σ ys H p,Pv xs.length σ ys H->H p=none->Q (.ref p) (upd H p (.lst ys))):IW g JC te (Ux K a b) σ H Q:=by
 refine ⟨λ i m σ ys H=>m=xs.length - i/\i<=xs.length/\Pv i σ ys H,⟨xs.length,by simp,Nat.zero_le _,h0⟩,?_⟩
 rintro i m σ' ys H ⟨rfl,hi,p⟩
 obtain ⟨z,q1,q2⟩:=hz i σ' ys H hi p;refine ⟨z,?_⟩;by_cases hlt:i < xs.length
 ·have hlt2:i < zs.length:=Nat.lt_of_lt_of_le hlt le;refine .inr ⟨⟨xs,zs,xs[i],zs[i],q1,q2,by simp [hlt],by simp [hlt2]⟩,λ x H' y=>?_⟩
  obtain ⟨r,u,v,n,rfl,y1,y2,rfl⟩:=y;exact hs i u v σ' ys H r (y1 xs q1) (y2 zs q2) p n
 ·have e:i=xs.length:=by omega
  subst e;exact .inl ⟨⟨xs,q1,Nat.le_refl _⟩,λ r n=>hd σ' ys _ r p n⟩
end L2
namespace Lib
open PySem L2 Fr Op
def hasB (x:Box)(r:Aa):Bool:=!(decide (r.1 < x.a) || decide (x.b < r.1)) && (!decide (r.2 < x.c) && !decide (x.d < r.2))
theorem qO (x:Box)(r:Aa):hasB x r=true↔x.has r:=by
 unfold hasB Box.has;simp only [Bool.and_eq_true,Bool.not_eq_true',Bool.or_eq_false_iff,decide_eq_false_iff_not]
 constructor
 ·rintro ⟨⟨h1,h2⟩,h3,h4⟩;exact ⟨by grind,by grind,by grind,by grind⟩
 ·rintro ⟨h1,h2,h3,h4⟩;exact ⟨⟨by grind,by grind⟩,by grind,by grind⟩
theorem cY {ps:List Pc}{x:Box}{n M:Nat}(h:FieldOk n M (Ba ps) x):(Fo (Ba ps) x).length<=4+2 * ps.length:=by
 have h1:=h.poly.len;have h2:=Tt ps 0 e1 e2;unfold Ba at h1 ⊢;omega
theorem O2 {ps:List Pc}{x:Box}{n M:Nat}(h:FieldOk n M (Ba ps) x)(r:Aa):Ez (Fo (Ba ps) x) r=(hasB x r && (walk ps r).2.isNone):=by
 rw [Bool.eq_iff_iff,h.within,Bool.and_eq_true,qO,aF,Option.isNone_iff_eq_none]
end Lib
namespace L2
open PySem PySem.Spec PyProof.Rows PySem.Builtin
end L2
namespace Op
open Fr
end Op
namespace Lib
open PySem L2 Fr Op
end Lib
namespace Op
open Fr
end Op
namespace L2
open PySem PySem.Spec PyProof.Rows PySem.Builtin
end L2
namespace Lib
open PySem L2 Fr Op
end Lib
namespace Op
open Fr
end Op
namespace Lib
open PySem L2 Fr Op
def Jm:Pc->Bool
 | .stop _ _=>true
 | _=>false
theorem lg {ps qs:List Pc}(h:∀p∈qs,Jm p=false):Ba (ps++qs)=Ba ps:=by
 have key:∀(qs:List Pc) (i:Nat) (h s:Aa),(∀p∈qs,Jm p=false)->CW i qs h s=[]:=λ qs=>by
  induction qs with
  | nil=>intros;rfl
  | cons q qs ih=>
   intro i h s hq;have hq0:=hq q List.mem_cons_self;show lim1 i q h s++CW (i+1) qs _ _=[];rw [ih _ _ _ λ p hp=>hq p (List.mem_cons_of_mem _ hp)]
   cases q with
   | gap d=>rfl
   | glass d=>rfl
   | stop lo hi=>cases hq0
 have app:∀(ps:List Pc) (i:Nat) (h s:Aa),CW i (ps++qs) h s=CW i ps h s:=λ ps=>by
  induction ps with
  | nil=>intro i h' s;exact key qs i h' s h
  | cons p ps ih=>
   intro i h' s;show lim1 i p h' s++CW (i+1) (ps++qs) _ _=lim1 i p h' s++CW (i+1) ps _ _;rw [ih]
 exact app ps 0 e1 e2
theorem lB {ps:List Pc}(h:∀p∈ps,Jm p=false):Ba ps=[]:=by
 have:=lg (ps:=[]) h;rw [List.nil_append] at this;rw [this];rfl
theorem jF {K:FrG}{H:Hp}{x:V}:∀{pc:Pc},DV K H x (Bp pc)->∃pa w xs,x=.ref pa/\SqT K H pa (.str w::xs)/\decide (V.str w=V.str "stop")=Jm pc
 | .gap _,h=>by
  obtain ⟨pa,z,z1,rfl,hpa,hz,hz1⟩:=DV.t2 h;obtain rfl:=hz.str_of;exact ⟨_,_,_,rfl,hpa,decide_eq_false λ e=>by have:=V.str.inj e;revert this;decide+kernel⟩
 | .glass _,h=>by
  obtain ⟨pa,z,z1,rfl,hpa,hz,hz1⟩:=DV.t2 h;obtain rfl:=hz.str_of;exact ⟨_,_,_,rfl,hpa,decide_eq_false λ e=>by have:=V.str.inj e;revert this;decide+kernel⟩
 | .stop _ _,h=>by
  obtain ⟨pa,z,z1,z2,rfl,hpa,hz,hz1,hz2⟩:=DV.t3 h;obtain rfl:=hz.str_of;exact ⟨_,_,_,rfl,hpa,decide_eq_true rfl⟩
theorem Vt (p:Pc):Jm p=p.isStop:=by cases p<;>rfl
def Hg (lo q hi:Rat):Bool:=!decide (q < lo) && !decide (hi < q)
def yg:List PyData->PyData->Prop:=λ ds d=>∃p q r,ds=[Af p,Af q,Af r]/\Sm p/\Sm q/\Sm r/\d=.bool (Hg p q r)
theorem qy (ps:List Pc)(h s u T:Rat):(BP (Cm ps++[.gap T]) (Ce h s u)).1=hgt (tabOf ps) h s u T:=by
 rw [T5,yo,<- eF];rfl
end Lib
namespace L2
open PySem PySem.Spec PyProof.Rows PySem.Builtin PySem.Builtin.Str
theorem aq:∀{zs:List Str} {its:List Value},Vals (zs.map V.str) its->∃l:List (Str×Tok),strValues l=its/\l.map (·.1)=zs
 | [],_,.nil=>⟨[],rfl,rfl⟩
 | z::zs,_,.cons h r=>by
  obtain ⟨t,rfl⟩:=h;obtain ⟨l,h1,h2⟩:=aq r;exact ⟨(z,t)::l,by show _::strValues l=_;rw [h1],by show z::_=_;rw [h2]⟩
def rJoin:V->List V->Hp->VK->Prop:=λ x vs H Q=>∃(sep:Str) (l:Addr) (zs:List Str),x=.str sep/\vs=[.ref l]/\H l=some (.lst (zs.map V.str))/\JoinOk sep zs=true/\Q (.str (Txt.join sep zs)) H
theorem Yv {X:Cx}:MtM X "str.join" rJoin:=by
 intro pins s σ H x vs v us Q I rx rv h;obtain ⟨sep,l,zs,rfl,rfl,hH,ok,q⟩:=h;obtain ⟨t,rfl⟩:=rx;obtain ⟨u,rfl,ru⟩:=rv.one;cases ru
 obtain ⟨z,its,n,r,hl,e⟩:=I.lstM hH;obtain ⟨ps,rfl,e2⟩:=aq r;exact SC.join ⟨_,e,rfl,_,rfl⟩ e2 ok λ t' k=>⟨.str _,H,I.tok _,⟨t',rfl⟩,q⟩
end L2
namespace L2
open PySem PySem.Spec PyProof.Rows PySem.Builtin
end L2
namespace Lib
open PySem L2 Fr Op
end Lib
namespace L2
open PySem PySem.Spec PyProof.Rows PySem.Builtin
end L2
namespace L2
open PySem PySem.Spec PyProof.Rows
end L2
namespace Lib
open PySem L2 Fr Op
theorem NP (p:Pc):Hn (Bp p)=true:=by cases p<;>rfl
structure Bx (K:FrG)(H1:Hp)(p:Addr)(ps:List Pc)(Hx:Hp):Prop where
 s:Same H1 Hx
 n:H1 p=none
 ex:∃xs,Hx p=some (.lst xs)/\DVs K Hx xs (ps.map Bp)
theorem Og {H1 Hx:Hp}{p:Addr}(s:Same H1 Hx)(n:H1 p=none)(o:HO):Same H1 (upd Hx p o):=λ b u e=>by
 rw [Av (Bm e n)];exact s _ _ e
theorem Bx.more {K:FrG}{H1 Hx:Hp}{p:Addr}{ps qs:List Pc}{xs zs:List V}(s:Same H1 Hx)(n:H1 p=none)(h1:Hx p=some (.lst xs))(h2:DVs K Hx xs (ps.map Bp))(h3:DVs K Hx zs (qs.map Bp)):Bx K H1 p (ps++qs) (upd Hx p (.lst (xs++zs))):=by
 refine ⟨Og s n _,n,xs++zs,Aq,?_⟩;rw [List.map_append];exact DG (Ej h1 _) (by rw [<- List.map_append];exact DY NP _) (h2.append h3)
end Lib
namespace L2
open PySem PySem.Spec PyProof.Rows
structure TopFnA (K:FrG)(mg:Str->Option Value)(x nm:Str)(st:Stmt):Prop where
 ex:∃(f:Addr) (fd:FuncData),Fun K nm nm st f fd/\mg x=some (.ref f)
theorem bV {K:FrG}{h:Heap}{mg:Str->Option Value}{x nm:Str}{st:Stmt}{f:Addr}{oc:Value}{od an:Option Addr}{sl:Array (Option Value)}{kV dc pm cd ct:Value}(X:K.In h)(G:h.Ns mainGlobals mg)
  (a:PySem.W.nsIn K mainGlobals x=some (some (.ref f))) (l:K.lookup f=some ⟨oc,od,.func (PySem.W.fnOf nm nm (defArgs st) (defBody st) (defScope st) .none kV dc pm an cd ct),sl⟩) (c:PySem.W.codeIn K cd nm=true) (k:PySem.W.keepIn K (.ref f)=true):TopFnA K mg x nm st:=
 ⟨f,_,Dv l c k,PySem.W.mg_of X G a⟩
theorem TopFnA.calB {c:Bool}{P:Program}{w:World}{K:FrG}{mg:Str->Option Value}{base:Heap}{x nm:Str}{st:Stmt}{N ps:List Str}{k:Nat}{sp:Sp}(T:TopFnA K mg x nm st)(S:FnScope N ps (defScope st))
  (hb:∀(kV doc pm:Value) (an:Option Addr) (cdv ct:Value) (us:List Value),us.length=ps.length->bindArgs (PySem.W.fnOf nm nm (defArgs st) (defBody st) (defScope st) .none kV doc pm an cdv ct) ⟨us,[]⟩=pure (ps.zip us))
  (len:∀vs H Q E,sp vs H Q E->vs.length=ps.length)
  (hbody:∀(f:Addr) (cdv:Value) (A:Around) (outer:List Env) (s:Shared) (H:Hp) (vs:List V) (Q:VK) (E:XK),RoomB c k (A.deeper (envOfC nm (defScope st) s.heap.objs.size f cdv))->sp vs H Q E->
   ∃t,PSs (Dy c P w K mg base N nm (defScope st) f cdv A outer s H E) (defBody st) t/\t { nx:=λ _ H'=>Q .non H',rt:=Q } (start N vs) H):CalB P w K mg base c (k+1) x ps sp:=by
 obtain ⟨f,fd,F,hm⟩:=T.ex;obtain ⟨oc,od,kV,doc,pm,an,cdv,ct,osl,rfl,l,cd⟩:=id F.ex;exact ⟨f,_,Jx l cd S len (hbody f cdv),hm,F.kp,F.binds hb⟩
theorem TopFnA.calN {c:Bool}{P:Program}{w:World}{K:FrG}{mg:Str->Option Value}{base:Heap}{x nm:Str}{st:Stmt}{N ps:List Str}{k:Nat}{sp:Sp}(T:TopFnA K mg x nm st)(S:FnScope N ps (defScope st))
  (hb:∀(kV doc pm:Value) (an:Option Addr) (cdv ct:Value) (us:List Value),us.length=ps.length->bindArgs (PySem.W.fnOf nm nm (defArgs st) (defBody st) (defScope st) .none kV doc pm an cdv ct) ⟨us,[]⟩=pure (ps.zip us))
  (len:∀vs H Q E,sp vs H Q E->vs.length=ps.length)
  (hbody:∀(f:Addr) (cdv:Value) (A:Around) (outer:List Env) (s:Shared) (H:Hp) (vs:List V) (Q:VK) (E:XK),RoomB c k (A.deeper (envOfC nm (defScope st) s.heap.objs.size f cdv))->sp vs H Q E->
   ∃t,PSs (Dy c P w K mg base N nm (defScope st) f cdv A outer s H E).nox (defBody st) t/\t { nx:=λ _ H'=>Q .non H',rt:=Q } (start N vs) H):CalB P w K mg base c (k+1) x ps sp:=
 T.calB S hb len λ f cdv A outer s H vs Q E hr h=>by
  obtain ⟨t,h1,h2⟩:=hbody f cdv A outer s H vs Q E hr h;exact ⟨t,h1.nox,h2⟩
abbrev nF:Sp:=λ _ _ _ _=>False
theorem TopFn.not {P:Program}{w:World}{K:FrG}{mg:Str->Option Value}{base:Heap}{x:Str}{st:Stmt}{N ps:List Str}{k:Nat}(T:TopFn K mg x st)(S:FnScope N ps (defScope st))
  (hb:∀(kV doc pm:Value) (an:Option Addr) (cdv ct:Value) (us:List Value),us.length=ps.length->bindArgs (PySem.W.fnOf x x (defArgs st) (defBody st) (defScope st) .none kV doc pm an cdv ct) ⟨us,[]⟩=pure (ps.zip us)):CalB P w K mg base true (k+1) x ps nF:=
 T.calB S hb (λ _ _ _ _ h=>h.elim) λ _ _ _ _ _ _ _ _ _ _ h=>h.elim
section
variable {X:Cx}{c:Bool}{k:Nat}{ps:List Str}{sp:Sp}{x:Str}{p pos cpos rpos:Pos}{e:Expr}{es:List Expr}{t:TA}{h0:ExceptHandler}{hs:List ExceptHandler}
theorem ni (C:CalB X.prog X.w X.K X.mg X.base c k x ps sp)(hr:RoomB c k X.A)(ha:PA X.nox (e::es) t)(hg:Gl X x:=by rfl)(hdb:(x == ("__debug__":Str))=false:=by decide)
  (he:starEach (e::es) X.env=(false,eval e X.env)::starEach es X.env:=by rfl) (hpl:(backTo cpos (starEach es X.env)).any (·.1)=false:=by rfl):
  PS X (.Try [.Return (some (.Call (.Name x p) (e::es) [] cpos)) rpos] (h0::hs) [] [] pos) (λ D σ H=>t σ H λ vs H1=>sp (vs++[]) H1 D.rt E0):=by
 obtain ⟨f,fd,F,hm,hk,hb⟩:=C.ex;intro pins s σ H D I h;refine wpAny_Try_except (wpAny_execs_cons (wpAny_Return_some (wpAny_Call_Name_kw (Hw I hg hm ?_ hdb))));refine PySem.W.callWith_K (h₀:=X.base) I.ok.mod.kin hk (thn (PA.any ha cpos I h) λ us s1 ⟨vs,H1,I1,r,q⟩=>⟨I1.kIn,?_⟩) he hpl
 refine thn (R8 F hr hb I1 r q λ e s' hx=>?_) λ v s2 ⟨v',H2,I2,r2,q2⟩=>⟨v',σ,H2,I2,r2,q2⟩
 obtain ⟨_,_,_,_,_,_,_,_,_,_,_,_,z⟩:=hx;exact z.elim
end
def mq:V->List V->Hp->VK->Prop:=λ x vs H Q=>∃i j,x=.str i/\vs=[.str j]/\Q (.bl (Txt.endswith i j)) H
theorem wg {X:Cx}:MtM X "str.endswith" mq:=by
 intro pins s σ H x vs v us Q I rx rv h;obtain ⟨i,j,rfl,rfl,q⟩:=h;obtain ⟨t,rfl⟩:=rx;obtain ⟨u,rfl,ru⟩:=rv.one;obtain ⟨t',rfl⟩:=ru;exact SC.endswith ⟨.bl _,H,I,rfl,q⟩
end L2
namespace Tx
open PySem PySem.Spec PySem.Builtin PySem.Builtin.Str L2 Lib Op
theorem RV:PySem.Str.ofString " "=⟨#[32]⟩:=by decide+kernel
theorem ZK:PySem.Str.ofString ";"=⟨#[59]⟩:=by decide+kernel
theorem iJ:PySem.Str.ofString "; "=⟨#[59,32]⟩:=by decide+kernel
theorem aG (x:PySem.Str)(c:Nat):Txt.endswith x ⟨#[c]⟩=decide ((cl x).getLast?=some c):=by
 obtain ⟨⟨l⟩⟩:=x;rcases List.eq_nil_or_concat l with rfl | ⟨r,a,e0⟩
 ·rfl
 ·have e1:l=r++[a]:=by rw [e0];simp
  subst e1;clear e0;have hl:(r++[a]).toArray.size=r.length+1:=by simp
  show (decide (0+1<=(r++[a]).toArray.size) && ((r++[a]).toArray.extract ((r++[a]).toArray.size - 1) ((r++[a]).toArray.size - 1+1) == #[c]))=decide ((r++[a]).getLast?=some c);rw [hl,Nat.add_sub_cancel,List.getLast?_concat];by_cases h:a=c
  ·subst h;simp
  ·simp [h]
theorem YS {f g:Nat->Option Nat}:∀{l:List Nat},(∀k∈l,f k=g k)->l.filterMap f=l.filterMap g
 | [],_=>rfl
 | a::l,h=>by
  rw [List.filterMap_cons,List.filterMap_cons,h a List.mem_cons_self,YS λ k hk=>h k (List.mem_cons_of_mem _ hk)]
theorem nM (x:PySem.Str):cl (Txt.slice x none (some (-1)))=(cl x).dropLast:=by
 obtain ⟨⟨l⟩⟩:=x;rcases List.eq_nil_or_concat l with rfl | ⟨r,a,e0⟩
 ·rfl
 ·have e1:l=r++[a]:=by rw [e0];simp
  subst e1;clear e0;have e:strSliceIndices none (some (-1)) 1 (r.length+1)=List.range r.length:=by
   unfold strSliceIndices sliceRange;simp only [show (1:Int) > 0 by decide,if_true]
   have h1:max 0 (min (if (-1:Int) < 0 then -1+((r.length+1:Nat):Int) else -1) ((r.length+1:Nat):Int))=(r.length:Int):=by
    rw [if_pos (by decide)]
    omega
   rw [h1];have h2:(if (0:Int) < (r.length:Int) then ((r.length:Int) - 0+1 - 1) / 1 else 0).toNat=r.length:=by
    split<;>simp<;>omega
   rw [h2];refine (List.map_congr_left λ k _=>?_).trans (List.map_id _)
   simp
  have hl:(PySem.Str.mk (r++[a]).toArray).length=r.length+1:=by
   show (r++[a]).toArray.size=_;simp
  show cl (Txt.slice (PySem.Str.mk (r++[a]).toArray) none (some (-1)))=(r++[a]).dropLast;unfold Txt.slice;rw [hl,e];rw [if_neg (by simp)]
  show ((((List.range r.length)).filterMap (λ k=>(r++[a]).toArray[k]?)).toArray).toList=_
  rw [List.toList_toArray,List.dropLast_concat];have e2:(List.range r.length).filterMap (λ k=>(r++[a]).toArray[k]?)=(List.range r.length).filterMap (λ k=>r[k]?):=by
   refine YS λ k hk=>?_
   have:=List.mem_range.mp hk;simp [List.getElem?_append_left this]
  rw [e2,Wq]
def wd:Pc->PySem.Str
 | .gap _=>PySem.Str.ofString "gap"
 | .glass _=>PySem.Str.ofString "glass"
 | .stop _ _=>PySem.Str.ofString "stop"
def fracs:Pc->List Rat
 | .gap q=>[q]
 | .glass q=>[q]
 | .stop lo hi=>[lo,hi]
def toks (p:Pc):List PySem.Str:=wd p::(fracs p).map Bk
def Du:Pc->List PySem.Str
 | .gap q=>[PySem.Str.ofString "gap",Bk q++⟨#[59]⟩]
 | .glass q=>[PySem.Str.ofString "glass",Bk q++⟨#[59]⟩]
 | .stop lo hi=>[PySem.Str.ofString "stop",Bk lo,Bk hi++⟨#[59]⟩]
def DQ:List Pc->List PySem.Str
 | []=>[]
 | [p]=>toks p
 | p::q::r=>Du p++DQ (q::r)
def Ek:List Pc->List PySem.Str
 | []=>[]
 | [p]=>toks p
 | p::q::r=>toks p++PySem.Str.ofString ";"::Ek (q::r)
def Ex (p:Pc):PySem.Str:=Txt.join (PySem.Str.ofString " ") (toks p)
def Gm (ps:List Pc):PySem.Str:=Txt.join (PySem.Str.ofString "; ") (ps.map Ex)
theorem Sh:∀(q:Pc) (r:List Pc),∃t ts,DQ (q::r)=t::ts
 | .gap _,[]=>⟨_,_,rfl⟩
 | .glass _,[]=>⟨_,_,rfl⟩
 | .stop _ _,[]=>⟨_,_,rfl⟩
 | .gap _,_::_=>⟨_,_,rfl⟩
 | .glass _,_::_=>⟨_,_,rfl⟩
 | .stop _ _,_::_=>⟨_,_,rfl⟩
theorem K6 (sep:PySem.Str)(l:List PySem.Str):Txt.join sep l=PySem.Str.join sep l:=StrLaws.glued_eq_join _ _
theorem Pu:∀(ps:List Pc),ps≠[]->Gm ps=PySem.Str.join ⟨#[32]⟩ (DQ ps)
 | [],h=>absurd rfl h
 | [p],_=>by
  show Txt.join _ [Ex p]=_;rw [K6];show Ex p=_;unfold Ex;rw [K6,RV];rfl
 | p::q::r,_=>by
  have ih:=Pu (q::r) (by simp)
  obtain ⟨t,ts,et⟩:=Sh q r;have e1:Gm (p::q::r)=Ex p++PySem.Str.ofString "; "++Gm (q::r):=by
   unfold Gm;rw [K6,K6];rfl
  rw [e1,ih];show _=PySem.Str.join ⟨#[32]⟩ (Du p++DQ (q::r));rw [et]
  apply ext
  rw [Dg,Dg];unfold Ex;rw [K6,RV,iJ];have two:∀x y:PySem.Str,PySem.Str.join ⟨#[32]⟩ [x,y]=x++⟨#[32]⟩++y:=λ _ _=>rfl
  have three:∀x y z:PySem.Str,PySem.Str.join ⟨#[32]⟩ [x,y,z]=x++⟨#[32]⟩++(y++⟨#[32]⟩++z):=λ _ _ _=>rfl
  cases p with
  | gap a=>
   show cl (PySem.Str.join ⟨#[32]⟩ [PySem.Str.ofString "gap",Bk a])++_++_=cl (PySem.Str.ofString "gap"++⟨#[32]⟩++((Bk a++⟨#[59]⟩)++⟨#[32]⟩++PySem.Str.join ⟨#[32]⟩ (t::ts)));rw [two];simp only [Dg,List.append_assoc];rfl
  | glass a=>
   show cl (PySem.Str.join ⟨#[32]⟩ [PySem.Str.ofString "glass",Bk a])++_++_=cl (PySem.Str.ofString "glass"++⟨#[32]⟩++((Bk a++⟨#[59]⟩)++⟨#[32]⟩++PySem.Str.join ⟨#[32]⟩ (t::ts)));rw [two];simp only [Dg,List.append_assoc];rfl
  | stop a b=>
   show cl (PySem.Str.join ⟨#[32]⟩ [PySem.Str.ofString "stop",Bk a,Bk b])++_++_=cl (PySem.Str.ofString "stop"++⟨#[32]⟩++(Bk a++⟨#[32]⟩++((Bk b++⟨#[59]⟩)++⟨#[32]⟩++PySem.Str.join ⟨#[32]⟩ (t::ts))));rw [three];simp only [Dg,List.append_assoc];rfl
theorem Rj (q:Rat)(c:Nat)(h:¬ ((48<=c/\c<=57)\/c=45\/c=47)):c∉cl (Bk q):=λ m=>h (nR q c (by rw [<- Pb];exact m))
theorem vL:∀(ps:List Pc),∀t∈DQ ps,32∉cl t:=by
 have one:∀p:Pc,(∀t∈toks p,32∉cl t)/\∀t∈Du p,32∉cl t:=by
  have e:∀q:Rat,32∉cl (Bk q++⟨#[59]⟩):=λ q m=>by
   rw [Dg] at m;rcases List.mem_append.mp m with m | m
   ·exact Rj q 32 (by omega) m
   ·exact absurd m (by decide)
  intro p;cases p<;>refine ⟨λ t ht=>?_,λ t ht=>?_⟩<;>simp only [toks,Du,wd,fracs,List.map_cons,List.map_nil,List.mem_cons,List.not_mem_nil,or_false] at ht
  all_goals first
   | (rcases ht with rfl | rfl | rfl)
   | (rcases ht with rfl | rfl)
  all_goals first
   | exact Rj _ 32 (by omega)
   | exact e _
   | decide+kernel
 intro ps
 induction ps with
 | nil=>intro t ht;cases ht
 | cons p r ih=>
  cases r with
  | nil=>exact (one p).1
  | cons q r=>
   intro t ht;rcases List.mem_append.mp (show t∈Du p++DQ (q::r) from ht) with h | h
   ·exact (one p).2 t h
   ·exact ih t h
theorem cF:∀{a b:List PySem.Str},a.map cl=b.map cl->a=b
 | [],[],_=>rfl
 | [],_::_,h=>by cases h
 | _::_,[],h=>by cases h
 | x::a,y::b,h=>by
  rw [List.map_cons,List.map_cons] at h;have h1:=List.cons.inj h;rw [ext h1.1,cF h1.2]
theorem j6 {ps:List Pc}(h:ps≠[]):Txt.split (Gm ps) (PySem.Str.ofString " ")=DQ ps:=by
 refine cF ?_;rw [RV,aM,Pu ps h];refine Wt (λ e=>?_) (vL ps)
 cases ps with
 | nil=>exact h rfl
 | cons q r=>
  obtain ⟨t,ts,et⟩:=Sh q r;rw [et] at e;cases e
def Dm (w:PySem.Str):List PySem.Str:=if Txt.endswith w (PySem.Str.ofString ";")=true then [Txt.slice w none (some (-1)),PySem.Str.ofString ";"] else [w]
def Cr (ws:List PySem.Str):List PySem.Str:=(ws.map Dm).flatten
theorem Mm {w:PySem.Str}(h:59∉cl w):Dm w=[w]:=by
 unfold Dm;rw [if_neg];rw [ZK,aG,decide_eq_true_eq];intro e;exact h (List.mem_of_getLast? e)
theorem eZ (w:PySem.Str):Dm (w++⟨#[59]⟩)=[w,PySem.Str.ofString ";"]:=by
 have e:cl (w++⟨#[59]⟩)=cl w++[59]:=Dg _ _;unfold Dm;rw [if_pos]
 ·have:Txt.slice (w++⟨#[59]⟩) none (some (-1))=w:=ext (by rw [nM,e,List.dropLast_concat])
  rw [this]
 ·rw [ZK,aG,e,List.getLast?_concat];exact decide_eq_true rfl
theorem xu:∀(ps:List Pc),ps≠[]->Cr (DQ ps)=Ek ps:=by
 have g:Dm (PySem.Str.ofString "gap")=[PySem.Str.ofString "gap"]:=Mm (by decide+kernel)
 have gl:Dm (PySem.Str.ofString "glass")=[PySem.Str.ofString "glass"]:=Mm (by decide+kernel)
 have st:Dm (PySem.Str.ofString "stop")=[PySem.Str.ofString "stop"]:=Mm (by decide+kernel)
 have s:∀q:Rat,Dm (Bk q)=[Bk q]:=λ q=>Mm (Rj q 59 (by omega))
 have one:∀p:Pc,Cr (toks p)=toks p/\Cr (Du p)=toks p++[PySem.Str.ofString ";"]:=by
  intro p;cases p<;>refine ⟨?_,?_⟩<;>simp only [Cr,toks,Du,wd,fracs,List.map_cons,List.map_nil,List.flatten_cons,List.flatten_nil,g,gl,st,s,eZ]<;>rfl
 intro ps
 induction ps with
 | nil=>intro h;exact absurd rfl h
 | cons p r ih=>
  intro _;cases r with
  | nil=>exact (one p).1
  | cons q r=>
   show Cr (Du p++DQ (q::r))=toks p++PySem.Str.ofString ";"::Ek (q::r);have e:Cr (Du p++DQ (q::r))=Cr (Du p)++Cr (DQ (q::r)):=by
    unfold Cr;rw [List.map_append,List.flatten_append]
   rw [e,(one p).2,ih (by simp),List.append_assoc]
   rfl
end Tx
namespace Lib
open PySem L2 Fr Op Tx
abbrev Ck (C dx wl:Addr)(i:Nat):HO:=.ins C dx [("words",.ref wl),("place",.int (i:Int))]
structure RdAt (C a dx wl:Addr)(ws:List Str)(i:Nat)(H:Hp):Prop where
 r:H a=some (Ck C dx wl i)
 w:H wl=some (.lst (ws.map V.str))
 le:ws.length<=50000
theorem RdAt.keep {C a dx wl:Addr}{ws:List Str}{i:Nat}{H H':Hp}(h:RdAt C a dx wl ws i H)(s:Same H H'):RdAt C a dx wl ws i H':=⟨s _ _ h.r,s _ _ h.w,h.le⟩
theorem RdAt.ne {C a dx wl:Addr}{ws:List Str}{i:Nat}{H:Hp}(h:RdAt C a dx wl ws i H):wl≠a:=λ e=>by
 have h1:=h.r;have h2:=h.w;rw [e,h1] at h2;cases h2
theorem RdAt.step {C a dx wl:Addr}{ws:List Str}{i:Nat}{H:Hp}(h:RdAt C a dx wl ws i H)(j:Nat):RdAt C a dx wl ws j (upd H a (Ck C dx wl j)):=⟨Aq,by rw [Av h.ne];exact h.w,h.le⟩
theorem KH {a:Addr}{H:Hp}(o:HO):SD a H (upd H a o):=λ b u n e=>by rw [Av n];exact e
theorem SD.ofSame {a:Addr}{H H':Hp}(s:Same H H'):SD a H H':=λ b u _ e=>s _ _ e
theorem RZ {C a dx wl:Addr}{i:Nat}{H H':Hp}(h:H a=some (Ck C dx wl i))(s:SD a H H'):M7 H H':=λ b ys=>⟨λ e=>s b _ (λ z=>by rw [z,h] at e;cases e) e,λ o e=>s b _ (λ z=>by rw [z,h] at e;cases e) e⟩
theorem Vx {n:Nat}(h:n<=50000):n < sizeLine:=Nat.lt_of_le_of_lt h (by decide)
def iI (C:Addr):Sp:=λ vs H Q _=>∃a dx wl,vs=[.ref a,.ref wl]/\H a=some (.ins C dx [])/\Q .non (upd H a (Ck C dx wl 0))
def qm (C:Addr):Sp:=λ vs H Q _=>∃a dx wl ws i,vs=[.ref a]/\RdAt C a dx wl ws i H/\Q (.bl (decide (i=ws.length))) H
def oN (C:Addr):Sp:=λ vs H Q _=>∃a dx wl ws i z,vs=[.ref a]/\RdAt C a dx wl ws i H/\ws[i]?=some z/\Q (.str z) (upd H a (Ck C dx wl (i+1)))
def xZ (C:Addr):Sp:=λ vs H Q _=>∃a dx wl ws i z,vs=[.ref a,.str z]/\RdAt C a dx wl ws i H/\i<=ws.length/\(ws[i]?=some z->Q (.bl true) (upd H a (Ck C dx wl (i+1))))/\(ws[i]?≠some z->Q (.bl false) H)
def ju:Sp:=λ vs H Q _=>∃x:Str,vs=[.str x]/\x.length+2<=sizeLine/\(Txt.split x (PySem.Str.ofString " ")).length<=20001/\(∀w∈Txt.split x (PySem.Str.ofString " "),w.length<=50000)/\
 ∀l H',Same H H'->H l=none->H' l=some (.lst ((Cr (Txt.split x (PySem.Str.ofString " "))).map V.str))->Q (.ref l) H'
def yR (K:FrG):Sp:=λ vs H Q _=>∃(v:V) (q:Rat),vs=[v]/\DV K H v (Af q)/\Short q/\Q (.str (Bk q)) H
def mL:Sp:=λ vs H Q _=>∃(x:Str) (m:Nat),vs=[.str x]/\cl x=dg m/\(dg m).length<=15/\∀H',Same H H'->Q (.int (m:Int)) H'
def bj (K:FrG):Sp:=λ vs H Q _=>∃q:Rat,vs=[.str (Bk q)]/\Short q/\∀v H',Same H H'->DV K H' v (Af q)->Q v H'
def Fd (p:Pc):Prop:=p.ok/\∀q∈fracs p,Short q
def fj (K:FrG)(C:Addr):Sp:=λ vs H Q _=>∃(a dx wl:Addr) (ws:List Str) (i:Nat) (p:Pc) (dp:Int),vs=[.ref a,.int dp]/\RdAt C a dx wl ws i H/\(∀j t,(toks p)[j]?=some t->ws[i+j]?=some t)/\Fd p/\
 ∀v H',SD a H H'->RdAt C a dx wl ws (i+(toks p).length) H'->DV K H' v (Bp p)->Q v H'
def vO (K:FrG)(C:Addr):Sp:=λ vs H Q _=>∃(a dx wl:Addr) (ws:List Str) (ps:List Pc) (dp:Int),vs=[.ref a,.int dp]/\RdAt C a dx wl ws 0 H/\ws=Ek ps/\ps≠[]/\ps.length<=60/\(∀p∈ps,Fd p)/\
 ∀l xs H',SD a H H'->H l=none->RdAt C a dx wl ws ws.length H'->H' l=some (.lst xs)->DVs K H' xs (ps.map Bp)->Q (.ref l) H'
def gq (K:FrG):Sp:=λ vs H Q _=>∃(v:V) (ps:List Pc),vs=[v]/\DV K H v (Dz ps)/\Q (.int (ps.length:Int)) H
def iG (K:FrG):Sp:=λ vs H Q _=>∃(v:V) (ps:List Pc),vs=[v]/\DV K H v (Dz ps)/\ps.length<=60/\∀l xs H',Same H H'->H l=none->H' l=some (.lst xs)->DVs K H' xs (ps.map Bp)->Q (.ref l) H'
def sV (K:FrG):Sp:=λ vs H Q _=>∃ps:List Pc,vs=[.str (Gm ps)]/\ps.length<=60/\(∀p∈ps,Fd p)/\∀l xs H',Same H H'->H l=none->H' l=some (.lst xs)->DVs K H' xs (ps.map Bp)->Q (.ref l) H'
def kZ (K:FrG):Sp:=λ vs H Q _=>∃(v:V) (p:Pc),vs=[v]/\DV K H v (Bp p)/\Fd p/\∀H',Same H H'->Q (.str (Ex p)) H'
def nJ (K:FrG):Sp:=λ vs H Q _=>∃(v:V) (ps:List Pc),vs=[v]/\DV K H v (Dz ps)/\ps.length<=60/\(∀p∈ps,Fd p)/\∀H',Same H H'->Q (.str (Gm ps)) H'
theorem Jt (p:Pc):(toks p).length<=3/\2<=(toks p).length:=by cases p<;>exact ⟨by simp [toks,fracs],by simp [toks,fracs]⟩
theorem Ud {q:Rat}(h:Short q):(Bk q).length<=40:=by rw [<- GX,Pb];exact Xu q h
theorem gm (p q:Pc)(r:List Pc):Ek (p::q::r)=toks p++PySem.Str.ofString ";"::Ek (q::r):=rfl
theorem cV:∀ps:List Pc,(Ek ps).length<=4 * ps.length
 | []=>by decide
 | [p]=>by have:=Jt p;show (toks p).length<=4 * 1;omega
 | p::q::r=>by
  rw [gm,List.length_append,List.length_cons];have:=Jt p;have:=cV (q::r);simp only [List.length_cons] at *;omega
theorem ye (p:Pc):(Du p).length<=3:=by cases p<;>simp [Du]
theorem T9:∀ps:List Pc,(DQ ps).length<=3 * ps.length
 | []=>by decide
 | [p]=>by have:=Jt p;show (toks p).length<=3 * 1;omega
 | p::q::r=>by
  show (Du p++DQ (q::r)).length<=_;rw [List.length_append];have:=ye p;have:=T9 (q::r);simp only [List.length_cons] at *;omega
theorem T8 (p:Pc)(h:Fd p)(t:Str)(m:t∈toks p):t.length<=50:=by
 rcases List.mem_cons.mp m with rfl | m
 ·cases p with
  | gap _=>show (PySem.Str.ofString "gap").length<=50;decide+kernel
  | glass _=>show (PySem.Str.ofString "glass").length<=50;decide+kernel
  | stop _ _=>show (PySem.Str.ofString "stop").length<=50;decide+kernel
 ·obtain ⟨q,hq,rfl⟩:=List.mem_map.mp m;have:=Ud (h.2 q hq);omega
theorem jQ (p:Pc)(h:Fd p)(t:Str)(m:t∈Du p):t.length<=50:=by
 have e:∀q∈fracs p,(Bk q++(⟨#[59]⟩:Str)).length<=50:=λ q hq=>by
  rw [<- GX,Dg,List.length_append,GX];have:=Ud (h.2 q hq);show _+1<=50;omega
 have s:∀q∈fracs p,(Bk q).length<=50:=λ q hq=>by have:=Ud (h.2 q hq);omega
 cases p<;>simp only [Du,List.mem_cons,List.not_mem_nil,or_false] at m
 ·rcases m with rfl | rfl
  ·decide+kernel
  ·exact e _ (by simp [fracs])
 ·rcases m with rfl | rfl
  ·decide+kernel
  ·exact e _ (by simp [fracs])
 ·rcases m with rfl | rfl | rfl
  ·decide+kernel
  ·exact s _ (by simp [fracs])
  ·exact e _ (by simp [fracs])
theorem QM:∀(ps:List Pc),(∀p∈ps,Fd p)->∀t∈DQ ps,t.length<=50
 | [],_,t,h=>by cases h
 | [p],hp,t,h=>T8 p (hp p List.mem_cons_self) t h
 | p::q::r,hp,t,h=>by
  rcases List.mem_append.mp (show t∈Du p++DQ (q::r) from h) with m | m
  ·exact jQ p (hp p List.mem_cons_self) t m
  ·exact QM (q::r) (λ x hx=>hp x (List.mem_cons_of_mem _ hx)) t m
theorem Xi (sep:Str)(ts:List Str)(B:Nat)(h:∀t∈ts,t.length<=B):(PySem.Str.join sep ts).length<=ts.length * (B+sep.length):=by
 have h1:=StrLaws.join_length_le sep ts;have h2:(ts.map (·.length)).sum<=ts.length * B:=by
  induction ts with
  | nil=>exact Nat.zero_le _
  | cons t ts ih=>
   rw [List.map_cons,List.sum_cons,List.length_cons,Nat.succ_mul];have:=h t List.mem_cons_self;have:=ih (λ x hx=>h x (List.mem_cons_of_mem _ hx)) (StrLaws.join_length_le sep ts)
   omega
 rw [Nat.mul_add];omega
theorem lN {ps:List Pc}(h:ps.length<=60)(hp:∀p∈ps,Fd p):(Gm ps).length<=10000:=by
 cases ps with
 | nil=>decide+kernel
 | cons p r=>
  rw [Pu _ (by simp)]
  have h1:=Xi ⟨#[32]⟩ (DQ (p::r)) 50 (QM _ hp);have h2:=T9 (p::r);have h3:(DQ (p::r)).length * (50+(⟨#[32]⟩:Str).length)<=180 * 51:=Nat.mul_le_mul (by omega) (by decide)
  omega
theorem jz {ps:List Pc}(h:ps≠[]):Gm ps≠PySem.Str.ofString "":=λ e=>by
 have h1:=congrArg cl e;rw [Pu ps h] at h1;cases ps with
 | nil=>exact h rfl
 | cons p r=>
  have h2:cl (PySem.Str.join ⟨#[32]⟩ (DQ (p::r)))≠[]:=by
   cases r with
   | nil=>cases p<;>(show cl (_++_++_)≠[];rw [Dg,Dg];intro z;simp at z)
   | cons q r=>
    obtain ⟨t,ts,et⟩:=Sh q r;show cl (PySem.Str.join ⟨#[32]⟩ (Du p++DQ (q::r)))≠[];rw [et];cases p<;>(show cl (_++_++_)≠[];rw [Dg,Dg];intro z;simp at z)
  exact h2 h1
def MK (g p:Rat)(q:Rat×Rat):List Pc:=[.stop q.1 q.2,.gap g,.glass p]
def BZ (g p:Rat)(S:List (Rat×Rat)):List Pc:=S.flatMap (MK g p)
theorem gO (g p:Rat)(S:List (Rat×Rat))(q:Rat×Rat):BZ g p (S++[q])=BZ g p S++MK g p q:=by
 unfold BZ;rw [List.flatMap_append];simp
theorem O3 (g p:Rat):∀S:List (Rat×Rat),(BZ g p S).length=3 * S.length
 | []=>rfl
 | q::S=>by
  show (MK g p q++BZ g p S).length=_;rw [List.length_append,O3 g p S,List.length_cons];show 3+_=_;omega
structure Six (g p:Rat)(h s:Aa):Prop where
 ex:(h=(1,0)/\s=(0,1))\/(h=(1,-p)/\s=(g,0))\/(h=(0,-p)/\s=(g,-1))\/(h=(-1,0)/\s=(0,-1))\/(h=(-1,p)/\s=(-g,0))\/(h=(0,p)/\s=(-g,1))
theorem Six.next {g p:Rat}{h s:Aa}(e:g * p=1)(x:Six g p h s):Six g p ((Pc.glass p).bent ((Pc.gap g).bent h)) ((Pc.glass p).bent ((Pc.gap g).bent s)):=by
 have bb:∀y u:Rat,(Pc.glass p).bent ((Pc.gap g).bent (y,u))=(y+g * u,u - p * (y+g * u)):=λ _ _=>rfl
 constructor
 rcases x.ex with ⟨rfl,rfl⟩ | ⟨rfl,rfl⟩ | ⟨rfl,rfl⟩ | ⟨rfl,rfl⟩ | ⟨rfl,rfl⟩ | ⟨rfl,rfl⟩
 ·right;left;rw [bb,bb];exact ⟨by rw [Prod.mk.injEq];constructor<;>grind,by rw [Prod.mk.injEq];constructor<;>grind⟩
 ·right;right;left;rw [bb,bb];exact ⟨by rw [Prod.mk.injEq];constructor<;>grind,by rw [Prod.mk.injEq];constructor<;>grind⟩
 ·right;right;right;left;rw [bb,bb];exact ⟨by rw [Prod.mk.injEq];constructor<;>grind,by rw [Prod.mk.injEq];constructor<;>grind⟩
 ·right;right;right;right;left;rw [bb,bb];exact ⟨by rw [Prod.mk.injEq];constructor<;>grind,by rw [Prod.mk.injEq];constructor<;>grind⟩
 ·right;right;right;right;right;rw [bb,bb];exact ⟨by rw [Prod.mk.injEq];constructor<;>grind,by rw [Prod.mk.injEq];constructor<;>grind⟩
 ·left;rw [bb,bb];exact ⟨by rw [Prod.mk.injEq];constructor<;>grind,by rw [Prod.mk.injEq];constructor<;>grind⟩
theorem cW:Bd 2 (-1:Rat):=⟨by decide+kernel,by decide+kernel⟩
theorem bd_p1:Bd 2 (1:Rat):=⟨by decide+kernel,by decide+kernel⟩
theorem PP:Bd 2 (0:Rat):=⟨by decide+kernel,by decide+kernel⟩
theorem Six.bd {g p:Rat}{h s:Aa}(e:g * p=1)(bg:Bd 2 g)(x:Six g p h s):Bd 2 h.1/\Bd 2 s.1/\(h.1=0->s.1≠0):=by
 have g0:g≠0:=λ z=>by rw [z] at e;grind
 rcases x.ex with ⟨rfl,rfl⟩ | ⟨rfl,rfl⟩ | ⟨rfl,rfl⟩ | ⟨rfl,rfl⟩ | ⟨rfl,rfl⟩ | ⟨rfl,rfl⟩
 ·exact ⟨bd_p1,PP,λ z=>by dsimp only at z;grind⟩
 ·exact ⟨bd_p1,bg,λ z=>by dsimp only at z;grind⟩
 ·exact ⟨PP,bg,λ _=>g0⟩
 ·exact ⟨cW,PP,λ z=>by dsimp only at z;grind⟩
 ·exact ⟨cW,M4 bg,λ z=>by dsimp only at z;grind⟩
 ·exact ⟨PP,M4 bg,λ _ z=>g0 (by dsimp only at z;grind)⟩
theorem Z4 (g p:Rat):Six g p e1 e2:=⟨.inl ⟨rfl,rfl⟩⟩
theorem SJ {g p:Rat}(e:g * p=1)(bg:Bd 2 g):∀(S:List (Rat×Rat)) (i:Nat) (h s:Aa),Six g p h s->(CW i (BZ g p S) h s).length=S.length/\∀k l,(CW i (BZ g p S) h s)[k]?=some l->l.k=i+3 * k/\S[k]?=some (l.lo,l.hi)/\Bd 2 l.a/\Bd 2 l.b/\(l.a=0->l.b≠0)
 | [],i,h,s,_=>⟨rfl,λ k l hl=>by cases hl⟩
 | q::S,i,h,s,x=>by
  have eq:CW i (BZ g p (q::S)) h s=⟨i,h.1,s.1,q.1,q.2⟩::CW (i+3) (BZ g p S) ((Pc.glass p).bent ((Pc.gap g).bent h)) ((Pc.glass p).bent ((Pc.gap g).bent s)):=rfl;obtain ⟨l1,l2⟩:=SJ e bg S (i+3) _ _ (x.next e);rw [eq];refine ⟨by rw [List.length_cons,List.length_cons,l1],λ k l hl=>?_⟩
  cases k with
  | zero=>
   cases hl
   exact ⟨rfl,rfl,x.bd e bg⟩
  | succ k=>
   obtain ⟨h1,h2⟩:=l2 k l hl;exact ⟨by rw [h1];omega,h2⟩
structure B84 (g p:Rat)(S:List (Rat×Rat)):Prop where
 gp:g * p=1
 bg:Bd 2 g
 bp:Bd 2 p
 n:S.length<=20
 s:∀q∈S,q.1<=q.2/\Bd 6 q.1/\Bd 6 q.2
section
variable {g p:Rat}{S:List (Rat×Rat)}
theorem B84.len (b:B84 g p S):(BZ g p S).length<=60:=by rw [O3];have:=b.n;omega
theorem B84.mem (b:B84 g p S):∀c∈BZ g p S,c.ok/\c.bd 6:=λ c hc=>by
 obtain ⟨q,hq,hc⟩:=List.mem_flatMap.mp hc;obtain ⟨h1,h2,h3⟩:=b.s q hq;unfold MK at hc;simp only [List.mem_cons,List.not_mem_nil,or_false] at hc;rcases hc with rfl | rfl | rfl
 ·exact ⟨Rat.not_lt.mpr h1,h2,h3⟩
 ·exact ⟨trivial,b.bg.mono (by decide)⟩
 ·exact ⟨trivial,b.bp.mono (by decide)⟩
theorem B84.good (b:B84 g p S):Good 6 (BZ g p S):=⟨b.len,λ c hc=>(b.mem c hc).1,λ c hc=>(b.mem c hc).2⟩
theorem B84.lim (b:B84 g p S):∀l∈Ba (BZ g p S),LimB 2 6 l:=λ l hl=>by
 obtain ⟨k,hk⟩:=List.mem_iff_getElem?.mp hl;obtain ⟨_,h2,h3,h4,h5⟩:=(SJ b.gp b.bg S 0 e1 e2 (Z4 g p)).2 k l hk;obtain ⟨_,h6,h7⟩:=b.s _ (List.mem_of_getElem? h2);exact ⟨h3,h4,h6,h7,h5⟩
theorem B84.fo (b:B84 g p S){x:Box}(o:x.ok)(xb:x.bd 6):FieldOk 2 6 (Ba (BZ g p S)) x:=
 ⟨o,⟨xb.a.mono (by decide),xb.b.mono (by decide),xb.c.mono (by decide),xb.d.mono (by decide)⟩,by decide,b.lim⟩
theorem B84.short (b:B84 g p S):∀c∈BZ g p S,Fd c:=λ c hc=>by
 have p15:(2:Nat) ^ 6<=10 ^ 15:=by decide
 have sh:∀{q:Rat},Bd 6 q->Short q:=λ h=>⟨Nat.lt_of_lt_of_le h.n p15,Nat.lt_of_lt_of_le h.d p15⟩
 obtain ⟨h1,h2⟩:=b.mem c hc;refine ⟨h1,λ q hq=>?_⟩
 cases c with
 | gap d=>rw [show q=d from List.mem_singleton.mp hq];exact sh h2
 | glass d=>rw [show q=d from List.mem_singleton.mp hq];exact sh h2
 | stop a c=>
  simp only [fracs,List.mem_cons,List.not_mem_nil,or_false] at hq;rcases hq with rfl | rfl
  ·exact sh h2.1
  ·exact sh h2.2
theorem B84.sl (b:B84 g p S){h s f e:Rat}(bh:Bd 6 h)(bs:Bd 6 s)(bf:Bd 40 f)(be:Bd 40 e):pq 40 (Dr (Ba (BZ g p S)) h s f e):=λ f' e' q=>by
 obtain ⟨x,y,_⟩:=Vi q;have qb:∀q∈Ew (Ba (BZ g p S)) h s,Bd 40 q:=λ q hq=>(Yz (n:=6) (λ l hl=>by
    have:=b.lim l hl;exact ⟨this.a.mono (by decide),this.b.mono (by decide),this.lo,this.hi,this.z⟩) bh bs q hq).mono (by decide)
 constructor
 ·rcases List.mem_cons.mp x with rfl | h
  ·exact bf
  ·exact qb _ h
 ·rcases List.mem_cons.mp y with rfl | h
  ·exact be
  ·exact qb _ h
end
def uo (K:FrG):Sp:=λ vs H Q _=>∃(a:Addr) (ns:List Int),vs=[.ref a]/\SqL K H a (ns.map V.int)/\∀l H' xs g p S,Same H H'->H l=none->H' l=some (.lst xs)->DVs K H' xs ((BZ g p S).map Bp)->B84 g p S->S.length=20->Q (.ref l) H'
def Jk:Option Pc->PyData
 | some p=>Bp p
 | none=>.tuple [.str "stop"]
def FJ:Option Pc->Aa->Aa
 | some p,r=>p.bent r
 | none,r=>r
def ht1:Option Pc->Aa->Aa->List (Rat×Rat)
 | some (.stop _ _),h,s=>[(h.1,s.1)]
 | none,h,s=>[(h.1,s.1)]
 | _,_,_=>[]
def Fe:List (Option Pc)->Aa->Aa
 | [],r=>r
 | e::es,r=>Fe es (FJ e r)
def El:List (Option Pc)->Aa->Aa->List (Rat×Rat)
 | [],_,_=>[]
 | e::es,h,s=>ht1 e h s++El es (FJ e h) (FJ e s)
theorem WP (e:Option Pc):∀(es:List (Option Pc)) (r:Aa),Fe (es++[e]) r=FJ e (Fe es r)
 | [],_=>rfl
 | a::es,r=>WP e es (FJ a r)
theorem Sy (e:Option Pc):∀(es:List (Option Pc)) (h s:Aa),El (es++[e]) h s=El es h s++ht1 e (Fe es h) (Fe es s)
 | [],h,s=>by show ht1 e h s++[]=[]++ht1 e h s;simp
 | a::es,h,s=>by
  show ht1 a h s++El (es++[e]) (FJ a h) (FJ a s)=(ht1 a h s++El es (FJ a h) (FJ a s))++_;rw [Sy e es,List.append_assoc];rfl
theorem Ua:∀(ps:List Pc) (i:Nat) (h s:Aa),El (ps.map some) h s=(CW i ps h s).map λ l=>(l.a,l.b)
 | [],_,_,_=>rfl
 | p::ps,i,h,s=>by
  show ht1 (some p) h s++El (ps.map some) (p.bent h) (p.bent s)=(lim1 i p h s++CW (i+1) ps (p.bent h) (p.bent s)).map _;rw [List.map_append,Ua ps (i+1)];cases p<;>rfl
theorem Ra:∀(ps:List Pc) (r:Aa),Fe (ps.map some) r=BP ps r
 | [],_=>rfl
 | p::ps,r=>Ra ps (p.bent r)
theorem ZP:∀(es:List (Option Pc)) (h s:Aa),(El es h s).length<=es.length
 | [],_,_=>Nat.le_refl _
 | e::es,h,s=>by
  show (ht1 e h s++El es (FJ e h) (FJ e s)).length<=_;have h1:=ZP es (FJ e h) (FJ e s);have h2:(ht1 e h s).length<=1:=by
   match e with
   | some (.stop _ _)=>exact Nat.le_refl _
   | some (.gap _)=>exact Nat.zero_le _
   | some (.glass _)=>exact Nat.zero_le _
   | none=>exact Nat.le_refl _
  rw [List.length_append,List.length_cons];omega
theorem V8 {m:Nat}:∀(es:List (Option Pc)) (n:Nat) (r:Aa),(∀p,some p∈es->p.bd m)->RB n r->RB (n+es.length * (m+1)) (Fe es r)
 | [],n,r,_,h=>by rw [List.length_nil,Nat.zero_mul];exact h
 | none::es,n,r,hb,h=>Rb.mono (V8 es n r (λ p hp=>hb p (List.mem_cons_of_mem _ hp)) h) (by rw [List.length_cons,Nat.add_mul];omega)
 | some p::es,n,r,hb,h=>Rb.mono (V8 es (n+m+1) (p.bent r) (λ q hq=>hb q (List.mem_cons_of_mem _ hq)) (HN (hb p List.mem_cons_self) h)) (by rw [List.length_cons,Nat.add_mul];omega)
def Xm (q:Rat×Rat):PyData:=pairD q.1 q.2
def tZ (K:FrG):Sp:=λ vs H Q _=>∃(v:V) (es:List (Option Pc)),vs=[v]/\DV K H v (.list (es.map Jk))/\es.length<=62/\(∀p,some p∈es->p.bd 6)/\∀l H' ys,Same H H'->H l=none->H' l=some (.lst ys)->DVs K H' ys ((El es e1 e2).map Xm)->Q (.ref l) H'
def uF (K:FrG):Sp:=λ vs H Q _=>∃(bv xv cv rv:V) (g p:Rat) (S:List (Rat×Rat)) (x:Box) (r:Aa),vs=[bv,xv,cv,rv]/\DV K H bv (Dz (BZ g p S))/\DV K H xv (HQ x)/\DV K H cv (Ge (Fo (Ba (BZ g p S)) x))/\DV K H rv (Ax r)/\B84 g p S/\x.ok/\x.bd 6/\RB 200 r/\∀H',Same H H'->Q (.bl true) H'
def mW (K:FrG):Sp:=λ vs H Q _=>∃(cv xv:V) (z:Int) (cs:List Aa) (x:Box),vs=[cv,xv,.int z]/\DV K H cv (Ge cs)/\DV K H xv (HQ x)/\(∀c∈cs,Rn 21 c)/\cs.length<=200/\x.bd 6/\∀w H' r,Same H H'->DV K H' w (Ax r)->RB 200 r->Q w H'
def oJ (K:FrG):Sp:=λ vs H Q _=>∃(bv lv:V) (z:Int) (g p:Rat) (S:List (Rat×Rat)) (h s:Rat),vs=[bv,lv,.int z]/\DV K H bv (Dz (BZ g p S))/\DV K H lv (pairD h s)/\B84 g p S/\Bd 6 h/\Bd 6 s/\∀H',Same H H'->Q (.bl true) H'
def jy (K:FrG):Sp:=λ vs H Q _=>∃(l:Addr) (xv lv:V) (xs:List V) (ps:List Pc) (x:Box) (h s:Rat),vs=[.ref l,xv,lv]/\H l=some (.lst xs)/\DVs K H xs (ps.map Bp)/\ps.length=60/\DV K H xv (HQ x)/\DV K H lv (pairD h s)/\∀H',Same H H'->Q (.bl true) H'
theorem iZ {t b:Int}(ht:t<=0)(hb:0<=b):Rat.divInt t b<=0:=by
 have h:=XX (show 0<=-t by omega) hb
 rw [<- Rat.neg_divInt] at h
 grind
theorem jq {q:Rat}{t b:Int}(h:q.num=t)(h':(q.den:Int)=b):Af q=.tuple [.int t,.int b]:=by
 unfold Af;rw [h,h']
theorem Cj {K:FrG}{H:Hp}{p:Addr}{q:Rat}{t b:Int}(h:q.num=t)(h':(q.den:Int)=b):DV K (upd H p (.tup [.int t,.int b])) (.ref p) (Af q):=by
 rw [jq h h'];exact .tup (SqT.of Aq) (.cons (.int _) (.cons (.int _) .nil))
theorem TY (x:Box)(r:Aa):hasB x r=(Hg x.a r.1 x.b && Hg x.c r.2 x.d):=by
 unfold hasB Hg;rw [Bool.not_or]
def Ht (ps:List Pc)(T:Rat):List (Option Pc):=(Cm ps++[Pc.gap T]).map some++[none]
theorem uC (ps:List Pc)(T:Rat):(Ht ps T).length<=ps.length+2:=by
 unfold Ht;have:=V1 ps;rw [List.length_append,List.length_map,List.length_append];simp only [List.length_cons,List.length_nil];omega
theorem qG (ps:List Pc)(T:Rat):El (Ht ps T) e1 e2=[((BP (Cm ps++[.gap T]) e1).1,(BP (Cm ps++[.gap T]) e2).1)]:=by
 unfold Ht;rw [Sy,Ua _ 0,Ra,Ra];have h0:CW 0 (Cm ps++[.gap T]) e1 e2=[]:=by
  refine lB (ps:=Cm ps++[.gap T]) λ p hp=>?_
  rcases List.mem_append.mp hp with h | h
  ·rw [Vt];exact rN ps p h
  ·rw [List.mem_singleton.mp h];rfl
 rw [h0];rfl
theorem eU (ps:List Pc)(c:Aa):(BP ps c).1=(BP ps e1).1 * c.1+(BP ps e2).1 * c.2:=by rw [cA];rfl
theorem nW (ps:List Pc)(h s u T:Rat):(BP (Cm ps++[.gap T]) e1).1 * (h+s * u)+(BP (Cm ps++[.gap T]) e2).1 * u=hgt (tabOf ps) h s u T:=by
 rw [<- qy,eU _ (Ce h s u)];rfl
theorem dF (f g u:Rat):JK (some (f,g)) u=Hg f u g:=rfl
theorem ZF {x:Int}(h0:-16<=x)(h1:x<=16):¬ Rat.divInt x 8 < -2/\¬ 2 < Rat.divInt x 8:=by
 have e0:((-16:Int):Rat)<=(x:Rat):=Rat.intCast_le_intCast.mpr h0;have e1:(x:Rat)<=((16:Int):Rat):=Rat.intCast_le_intCast.mpr h1;rw [Rat.divInt_eq_div];have e2:((8:Int):Rat)=8:=rfl;have e3:((-16:Int):Rat)=-16:=rfl;have e4:((16:Int):Rat)=16:=rfl;rw [e2];rw [e3] at e0;rw [e4] at e1
 constructor<;>grind
theorem dq (ps:List Pc)(T:Rat):(Ht ps T).map Jk=(Cm ps).map Bp++[Bp (.gap T),.tuple [.str "stop"]]:=by
 unfold Ht;rw [List.map_append,List.map_map,List.map_append];have e:(Cm ps).map (Jk ∘ some)=(Cm ps).map Bp:=rfl;rw [e];simp [Jk]
theorem Wy (p q:Rat):PyData.eqv (pairD p q) (pairD p q)=true:=SeqAt.eqv_refl _ (show Flat 2 (Ax (p,q)) from Ia (p,q)).c
def dW (K:FrG)(C:Addr):Sp:=λ vs H _ E=>∃v ds,vs=[v]/\DV K H v (.list ds)/\60 < ds.length/\WQ H C none E
def qd (K:FrG)(C:Addr):Sp:=λ vs H _ E=>∃v y ds,vs=[v,y]/\DV K H v (.list ds)/\60 < ds.length/\WQ H C none E
def pI (K:FrG)(C:Addr):Sp:=λ vs H _ E=>∃v y y2 y3 ds,vs=[v,y,y2,y3]/\DV K H v (.list ds)/\60 < ds.length/\WQ H C none E
theorem aP {g p:Rat}:∀{S:List (Rat×Rat)} {i:Nat} {q:Rat×Rat},S[i]?=some q->(BZ g p S)[3 * i]?=some (.stop q.1 q.2)
 | [],_,_,h=>by cases h
 | a::S,0,q,h=>by cases h;rfl
 | a::S,i+1,q,h=>by
  show (MK g p a++BZ g p S)[3 * (i+1)]?=_;rw [List.getElem?_append_right (by show 3<=_;omega)]
  show (BZ g p S)[3 * (i+1) - 3]?=_;rw [show 3 * (i+1) - 3=3 * i by omega]
  exact aP (S:=S) (i:=i) h
def Pq (w s:Int):Box:=⟨((0 - w:Int):Rat),(w:Rat),((0 - s:Int):Rat),(s:Rat)⟩
theorem oh {w s:Int}(hw:0<=w)(hs:0<=s):(Pq w s).ok:=
 ⟨Rat.intCast_le_intCast.mpr (show 0 - w<=w by omega),Rat.intCast_le_intCast.mpr (show 0 - s<=s by omega)⟩
theorem yq {w s:Int}(hw:0<=w)(hs:0<=s)(hw1:w<=40)(hs1:s<=40):(Pq w s).bd 6:=
 ⟨PX (by have:(2:Nat) ^ 6=64:=(by decide);omega) (by decide),PX (by have:(2:Nat) ^ 6=64:=(by decide);omega) (by decide),PX (by have:(2:Nat) ^ 6=64:=(by decide);omega) (by decide),PX (by have:(2:Nat) ^ 6=64:=(by decide);omega) (by decide)⟩
end Lib
namespace K84
open PySem L2 Lib Fr Op
seal PE PT PW PA PS PSs PG PGs PI PO
def top (i:Nat):Stmt:=PySem.Challenge.pw_grindbench_k84_whole_sixty_pieces.main.body.getD i (.Pass ⟨0,0,0,0⟩)
abbrev QT:Stmt:=top 7
theorem j0:FnScope ["thing"] ["thing"] (defScope QT):=⟨rfl,rfl,rfl,by decide+kernel,rfl,by decide+kernel,by decide+kernel⟩
abbrev Qn:Stmt:=top 8
theorem KQ:FnScope ["one","other","greater","lesser","rest"] ["one","other"] (defScope Qn):=⟨rfl,rfl,rfl,by decide+kernel,rfl,by decide+kernel,by decide+kernel⟩
abbrev Vr:Stmt:=top 9
theorem V2:FnScope ["thing","top","bottom"] ["thing"] (defScope Vr):=⟨rfl,rfl,rfl,by decide+kernel,rfl,by decide+kernel,by decide+kernel⟩
abbrev Ug:Stmt:=top 10
theorem Qi:FnScope ["top","bottom","divisor"] ["top","bottom"] (defScope Ug):=⟨rfl,rfl,rfl,by decide+kernel,rfl,by decide+kernel,by decide+kernel⟩
abbrev Qk:Stmt:=top 11
theorem jK:FnScope ["one","other"] ["one","other"] (defScope Qk):=⟨rfl,rfl,rfl,by decide+kernel,rfl,by decide+kernel,by decide+kernel⟩
abbrev U3:Stmt:=top 12
theorem pP:FnScope ["one","other"] ["one","other"] (defScope U3):=⟨rfl,rfl,rfl,by decide+kernel,rfl,by decide+kernel,by decide+kernel⟩
abbrev Qd:Stmt:=top 13
theorem rJ:FnScope ["one","other"] ["one","other"] (defScope Qd):=⟨rfl,rfl,rfl,by decide+kernel,rfl,by decide+kernel,by decide+kernel⟩
abbrev Uv:Stmt:=top 14
theorem wX:FnScope ["one","other"] ["one","other"] (defScope Uv):=⟨rfl,rfl,rfl,by decide+kernel,rfl,by decide+kernel,by decide+kernel⟩
abbrev Qf:Stmt:=top 15
theorem qX:FnScope ["one","other"] ["one","other"] (defScope Qf):=⟨rfl,rfl,rfl,by decide+kernel,rfl,by decide+kernel,by decide+kernel⟩
abbrev U7:Stmt:=top 17
theorem pM:FnScope ["first","last"] ["first","last"] (defScope U7):=⟨rfl,rfl,rfl,by decide+kernel,rfl,by decide+kernel,by decide+kernel⟩
abbrev Rw:Stmt:=top 18
theorem xT:FnScope ["first","last"] ["first","last"] (defScope Rw):=⟨rfl,rfl,rfl,by decide+kernel,rfl,by decide+kernel,by decide+kernel⟩
abbrev Qj:Stmt:=top 19
theorem jl:FnScope ["thing"] ["thing"] (defScope Qj):=⟨rfl,rfl,rfl,by decide+kernel,rfl,by decide+kernel,by decide+kernel⟩
abbrev Ws:Stmt:=top 20
theorem m9:FnScope ["box"] ["box"] (defScope Ws):=⟨rfl,rfl,rfl,by decide+kernel,rfl,by decide+kernel,by decide+kernel⟩
abbrev Ln:Stmt:=top 30
theorem mX:FnScope ["thing"] ["thing"] (defScope Ln):=⟨rfl,rfl,rfl,by decide+kernel,rfl,by decide+kernel,by decide+kernel⟩
abbrev Wc:Stmt:=top 31
theorem xK:FnScope ["told"] ["told"] (defScope Wc):=⟨rfl,rfl,rfl,by decide+kernel,rfl,by decide+kernel,by decide+kernel⟩
abbrev U0:Stmt:=top 32
theorem Nu:FnScope ["bench","number","thing"] ["bench"] (defScope U0):=⟨rfl,rfl,rfl,by decide+kernel,rfl,by decide+kernel,by decide+kernel⟩
abbrev Tf:Stmt:=top 36
theorem fJ:FnScope ["high","slanted"] ["high","slanted"] (defScope Tf):=⟨rfl,rfl,rfl,by decide+kernel,rfl,by decide+kernel,by decide+kernel⟩
abbrev W2:Stmt:=top 37
theorem Im:FnScope ["bench","high","slanted","told","piece"] ["bench"] (defScope W2):=⟨rfl,rfl,rfl,by decide+kernel,rfl,by decide+kernel,by decide+kernel⟩
abbrev Vb:Stmt:=top 38
theorem VN:FnScope ["table","ray","height","slant"] ["table","ray"] (defScope Vb):=⟨rfl,rfl,rfl,by decide+kernel,rfl,by decide+kernel,by decide+kernel⟩
abbrev T4:Stmt:=top 40
theorem GR:FnScope ["bench","limits","high","slanted","number","told","piece"] ["bench"] (defScope T4):=⟨rfl,rfl,rfl,by decide+kernel,rfl,by decide+kernel,by decide+kernel⟩
abbrev QC:Stmt:=top 42
theorem xU:FnScope ["one","other"] ["one","other"] (defScope QC):=⟨rfl,rfl,rfl,by decide+kernel,rfl,by decide+kernel,by decide+kernel⟩
abbrev QG:Stmt:=top 43
theorem Vd:FnScope ["start","end","ray","up","along"] ["start","end","ray"] (defScope QG):=⟨rfl,rfl,rfl,by decide+kernel,rfl,by decide+kernel,by decide+kernel⟩
abbrev RC:Stmt:=top 44
theorem VB:FnScope ["box","corners","corner"] ["box"] (defScope RC):=⟨rfl,rfl,rfl,by decide+kernel,rfl,by decide+kernel,by decide+kernel⟩
abbrev Rh:Stmt:=top 45
theorem LK:FnScope ["limit","a","b","above","below"] ["limit"] (defScope Rh):=⟨rfl,rfl,rfl,by decide+kernel,rfl,by decide+kernel,by decide+kernel⟩
abbrev V3:Stmt:=top 46
theorem iB:FnScope ["edge","ray"] ["edge","ray"] (defScope V3):=⟨rfl,rfl,rfl,by decide+kernel,rfl,by decide+kernel,by decide+kernel⟩
abbrev VP:Stmt:=top 47
theorem Nj:FnScope ["one","other","one_room","other_room","part","height","slant"] ["one","other","one_room","other_room"] (defScope VP):=⟨rfl,rfl,rfl,by decide+kernel,rfl,by decide+kernel,by decide+kernel⟩
abbrev O9:Stmt:=top 48
theorem JF:FnScope ["edge","corners","rooms","left","number","corner","before","crossing"] ["edge","corners"] (defScope O9):=⟨rfl,rfl,rfl,by decide+kernel,rfl,by decide+kernel,by decide+kernel⟩
abbrev Rm:Stmt:=top 49
theorem Lj:FnScope ["corners","least","number","corner"] ["corners"] (defScope Rm):=⟨rfl,rfl,rfl,by decide+kernel,rfl,by decide+kernel,by decide+kernel⟩
abbrev Sv:Stmt:=top 50
theorem Hk:FnScope ["bench","box","limits","corners","limit","edge"] ["bench","box"] (defScope Sv):=⟨rfl,rfl,rfl,by decide+kernel,rfl,by decide+kernel,by decide+kernel⟩
abbrev Sx:Stmt:=top 51
theorem QX:FnScope ["corners","ray","number","corner"] ["corners","ray"] (defScope Sx):=⟨rfl,rfl,rfl,by decide+kernel,rfl,by decide+kernel,by decide+kernel⟩
abbrev RL:Stmt:=top 53
theorem xq:FnScope ["one","other"] ["one","other"] (defScope RL):=⟨rfl,rfl,rfl,by decide+kernel,rfl,by decide+kernel,by decide+kernel⟩
abbrev WM:Stmt:=top 54
theorem xG:FnScope ["one","other"] ["one","other"] (defScope WM):=⟨rfl,rfl,rfl,by decide+kernel,rfl,by decide+kernel,by decide+kernel⟩
abbrev Q6:Stmt:=top 55
theorem iu:FnScope ["one","other"] ["one","other"] (defScope Q6):=⟨rfl,rfl,rfl,by decide+kernel,rfl,by decide+kernel,by decide+kernel⟩
abbrev V6:Stmt:=top 56
theorem Hl:FnScope ["limit","lamp","first","last","steady","rising","low","high","ends"] ["limit","lamp","first","last"] (defScope V6):=⟨rfl,rfl,rfl,by decide+kernel,rfl,by decide+kernel,by decide+kernel⟩
abbrev S7:Stmt:=top 57
theorem JW:FnScope ["bench","lamp","first","last","limits","slants","limit"] ["bench","lamp","first","last"] (defScope S7):=⟨rfl,rfl,rfl,by decide+kernel,rfl,by decide+kernel,by decide+kernel⟩
abbrev RJ:Stmt:=top 58
theorem au:FnScope ["table","lamp","slant","t","ahead"] ["table","lamp","slant","t"] (defScope RJ):=⟨rfl,rfl,rfl,by decide+kernel,rfl,by decide+kernel,by decide+kernel⟩
abbrev Uz:Stmt:=top 59
theorem dY:FnScope ["bench","lamp","slants","t","table"] ["bench","lamp","slants","t"] (defScope Uz):=⟨rfl,rfl,rfl,by decide+kernel,rfl,by decide+kernel,by decide+kernel⟩
abbrev Sq:Stmt:=top 63
theorem WD:FnScope ["one","top","bottom"] ["one"] (defScope Sq):=⟨rfl,rfl,rfl,by decide+kernel,rfl,by decide+kernel,by decide+kernel⟩
abbrev TV:Stmt:=top 64
theorem pH:FnScope ["text"] ["text"] (defScope TV):=⟨rfl,rfl,rfl,by decide+kernel,rfl,by decide+kernel,by decide+kernel⟩
abbrev Kh:Stmt:=top 66
theorem Jq:FnScope ["text","is_below","parts","top","bottom","one"] ["text"] (defScope Kh):=⟨rfl,rfl,rfl,by decide+kernel,rfl,by decide+kernel,by decide+kernel⟩
abbrev W6:Stmt:=top 75
theorem Q9:FnScope ["text","words","word"] ["text"] (defScope W6):=⟨rfl,rfl,rfl,by decide+kernel,rfl,by decide+kernel,by decide+kernel⟩
abbrev Q5:Stmt:=top 76
theorem pB:FnScope ["word"] ["word"] (defScope Q5):=⟨rfl,rfl,rfl,by decide+kernel,rfl,by decide+kernel,by decide+kernel⟩
abbrev XS:Stmt:=top 77
abbrev RT:Stmt:=top 78
theorem qK:FnScope ["reader","word","deep","times","parts"] ["reader","word","deep"] (defScope RT):=⟨rfl,rfl,rfl,by decide+kernel,rfl,by decide+kernel,by decide+kernel⟩
abbrev Vk:Stmt:=top 79
theorem Mv:FnScope ["reader","deep","word","low","high"] ["reader","deep"] (defScope Vk):=⟨rfl,rfl,rfl,by decide+kernel,rfl,by decide+kernel,by decide+kernel⟩
abbrev Ul:Stmt:=top 81
theorem YJ:FnScope ["reader","deep","parts"] ["reader","deep"] (defScope Ul):=⟨rfl,rfl,rfl,by decide+kernel,rfl,by decide+kernel,by decide+kernel⟩
abbrev VJ:Stmt:=top 82
theorem LC:FnScope ["parts","count","part"] ["parts"] (defScope VJ):=⟨rfl,rfl,rfl,by decide+kernel,rfl,by decide+kernel,by decide+kernel⟩
abbrev RQ:Stmt:=top 83
theorem Oa:FnScope ["parts","pieces","part"] ["parts"] (defScope RQ):=⟨rfl,rfl,rfl,by decide+kernel,rfl,by decide+kernel,by decide+kernel⟩
abbrev U8:Stmt:=top 84
theorem RP:FnScope ["text","reader","parts"] ["text"] (defScope U8):=⟨rfl,rfl,rfl,by decide+kernel,rfl,by decide+kernel,by decide+kernel⟩
abbrev Tj:Stmt:=top 85
theorem xm:FnScope ["piece"] ["piece"] (defScope Tj):=⟨rfl,rfl,rfl,by decide+kernel,rfl,by decide+kernel,by decide+kernel⟩
abbrev TX:Stmt:=top 86
theorem qH:FnScope ["bench"] ["bench"] (defScope TX):=⟨rfl,rfl,rfl,by decide+kernel,rfl,by decide+kernel,by decide+kernel⟩
abbrev WK:Stmt:=top 88
theorem Js:FnScope ["bench","ray","rays","number","told","piece"] ["bench","ray"] (defScope WK):=⟨rfl,rfl,rfl,by decide+kernel,rfl,by decide+kernel,by decide+kernel⟩
abbrev Vh:Stmt:=top 89
theorem uq:FnScope ["bench","ray"] ["bench","ray"] (defScope Vh):=⟨rfl,rfl,rfl,by decide+kernel,rfl,by decide+kernel,by decide+kernel⟩
abbrev Ti:Stmt:=top 91
theorem xn:FnScope ["_law_script","_law_k"] ["_law_script","_law_k"] (defScope Ti):=⟨rfl,rfl,rfl,by decide+kernel,rfl,by decide+kernel,by decide+kernel⟩
abbrev QZ:Stmt:=top 92
theorem ZG:FnScope ["_law_cell","_law_by","_law_number"] ["_law_cell","_law_by"] (defScope QZ):=⟨rfl,rfl,rfl,by decide+kernel,rfl,by decide+kernel,by decide+kernel⟩
abbrev Q4:Stmt:=top 93
theorem RX:FnScope ["_law_top","_law_bottom","_law_one","_law_other"] ["_law_top","_law_bottom"] (defScope Q4):=⟨rfl,rfl,rfl,by decide+kernel,rfl,by decide+kernel,by decide+kernel⟩
abbrev TQ:Stmt:=top 95
theorem mZ:FnScope ["_law_one","_law_other"] ["_law_one","_law_other"] (defScope TQ):=⟨rfl,rfl,rfl,by decide+kernel,rfl,by decide+kernel,by decide+kernel⟩
abbrev T7:Stmt:=top 96
theorem jG:FnScope ["_law_one","_law_other"] ["_law_one","_law_other"] (defScope T7):=⟨rfl,rfl,rfl,by decide+kernel,rfl,by decide+kernel,by decide+kernel⟩
abbrev V9:Stmt:=top 97
theorem gQ:FnScope ["_law_one"] ["_law_one"] (defScope V9):=⟨rfl,rfl,rfl,by decide+kernel,rfl,by decide+kernel,by decide+kernel⟩
abbrev WF:Stmt:=top 98
theorem vC:FnScope ["_law_low","_law_one","_law_high"] ["_law_low","_law_one","_law_high"] (defScope WF):=⟨rfl,rfl,rfl,by decide+kernel,rfl,by decide+kernel,by decide+kernel⟩
abbrev TF:Stmt:=top 99
theorem Gn:FnScope ["_law_script","_law_gap","_law_glass","_law_bench_here","_law_k","_law_number","_law_low","_law_high"] ["_law_script"] (defScope TF):=⟨rfl,rfl,rfl,by decide+kernel,rfl,by decide+kernel,by decide+kernel⟩
abbrev Lq:Stmt:=top 100
theorem Jd:FnScope ["_law_bench_here","_law_rays","_law_found","_law_piece"] ["_law_bench_here"] (defScope Lq):=⟨rfl,rfl,rfl,by decide+kernel,rfl,by decide+kernel,by decide+kernel⟩
abbrev T6:Stmt:=top 101
theorem Z9:FnScope ["_law_bench_here","_law_box","_law_corners","_law_ray_here","_law_inside"] ["_law_bench_here","_law_box","_law_corners","_law_ray_here"] (defScope T6):=⟨rfl,rfl,rfl,by decide+kernel,rfl,by decide+kernel,by decide+kernel⟩
abbrev Mp:Stmt:=top 102
theorem JP:FnScope ["_law_corners","_law_box","_law_cell","_law_share","_law_more","_law_one","_law_other","_law_rest"] ["_law_corners","_law_box","_law_cell"] (defScope Mp):=⟨rfl,rfl,rfl,by decide+kernel,rfl,by decide+kernel,by decide+kernel⟩
abbrev Ml:Stmt:=top 103
theorem Fy:FnScope ["_law_bench_here","_law_lamp","_law_cell","_law_told","_law_k","_law_slant","_law_ray_here","_law_heights_here","_law_a","_law_b","_law_ends","_law_found"] ["_law_bench_here","_law_lamp","_law_cell"] (defScope Ml):=⟨rfl,rfl,rfl,by decide+kernel,rfl,by decide+kernel,by decide+kernel⟩
abbrev QS:Stmt:=top 104
theorem PQ:FnScope ["_law_bench_here","_law_box","_law_lamp","_law_refused","e"] ["_law_bench_here","_law_box","_law_lamp"] (defScope QS):=⟨rfl,rfl,rfl,by decide+kernel,rfl,by decide+kernel,by decide+kernel⟩
abbrev Jb:Stmt:=top 105
theorem Fl:FnScope ["_law_script","_law_bench_here","_law_wide","_law_steep","_law_box","_law_limits","_law_due","_law_corners","_law_ray_here","_law_cell","_law_lamp"] ["_law_script"] (defScope Jb):=⟨rfl,rfl,rfl,by decide+kernel,rfl,by decide+kernel,by decide+kernel⟩
abbrev KY:Stmt:=inClass (top 5) 0
theorem iH:FnScope ["self","at"] ["self","at"] (defScope KY):=⟨rfl,rfl,rfl,by decide+kernel,rfl,by decide+kernel,by decide+kernel⟩
abbrev Gx:Stmt:=inClass (top 26) 0
theorem bW:FnScope ["self","ray"] ["self","ray"] (defScope Gx):=⟨rfl,rfl,rfl,by decide+kernel,rfl,by decide+kernel,by decide+kernel⟩
abbrev Kc:Stmt:=inClass (top 26) 1
theorem iQ:FnScope ["self","ray"] ["self","ray"] (defScope Kc):=⟨rfl,rfl,rfl,by decide+kernel,rfl,by decide+kernel,by decide+kernel⟩
abbrev M5:Stmt:=inClass (top 27) 0
theorem m6:FnScope ["self","length"] ["self","length"] (defScope M5):=⟨rfl,rfl,rfl,by decide+kernel,rfl,by decide+kernel,by decide+kernel⟩
abbrev Ku:Stmt:=inClass (top 27) 1
theorem jm:FnScope ["self","ray"] ["self","ray"] (defScope Ku):=⟨rfl,rfl,rfl,by decide+kernel,rfl,by decide+kernel,by decide+kernel⟩
abbrev Ke:Stmt:=inClass (top 28) 0
theorem vK:FnScope ["self","strength"] ["self","strength"] (defScope Ke):=⟨rfl,rfl,rfl,by decide+kernel,rfl,by decide+kernel,by decide+kernel⟩
abbrev Ls:Stmt:=inClass (top 28) 1
theorem sX:FnScope ["self","ray"] ["self","ray"] (defScope Ls):=⟨rfl,rfl,rfl,by decide+kernel,rfl,by decide+kernel,by decide+kernel⟩
abbrev Kf:Stmt:=inClass (top 29) 0
theorem pN:FnScope ["self","low","high"] ["self","low","high"] (defScope Kf):=⟨rfl,rfl,rfl,by decide+kernel,rfl,by decide+kernel,by decide+kernel⟩
abbrev LQ:Stmt:=inClass (top 29) 1
theorem oE:FnScope ["self","ray"] ["self","ray"] (defScope LQ):=⟨rfl,rfl,rfl,by decide+kernel,rfl,by decide+kernel,by decide+kernel⟩
abbrev M9:Stmt:=inClass (top 74) 0
theorem fV:FnScope ["self","words"] ["self","words"] (defScope M9):=⟨rfl,rfl,rfl,by decide+kernel,rfl,by decide+kernel,by decide+kernel⟩
abbrev M8:Stmt:=inClass (top 74) 1
theorem fU:FnScope ["self"] ["self"] (defScope M8):=⟨rfl,rfl,rfl,by decide+kernel,rfl,by decide+kernel,by decide+kernel⟩
abbrev Lz:Stmt:=inClass (top 74) 2
theorem xR:FnScope ["self"] ["self"] (defScope Lz):=⟨rfl,rfl,rfl,by decide+kernel,rfl,by decide+kernel,by decide+kernel⟩
abbrev Lw:Stmt:=inClass (top 74) 3
theorem yV:FnScope ["self","word"] ["self","word"] (defScope Lw):=⟨rfl,rfl,rfl,by decide+kernel,rfl,by decide+kernel,by decide+kernel⟩
structure Adr where
 z0:Nat:=0
 BenchError:Addr
 NoNumber:Addr
 NoText:Addr
 NoBox:Addr
 NoBench:Addr
 Piece:Addr
 Gap:Addr
 Glass:Addr
 Stop:Addr
 Reader:Addr
 NOUGHT:Addr
 ONE:Addr
 tGAP:Tok
 tGLASS:Tok
 tSTOP:Tok
 tMOST_PIECES:Tok
 tFIGURES:Tok
 tMOST_FIGURES:Tok
 tPARTED:Tok
 tTIMES:Tok
 tOPENED:Tok
 tCLOSED:Tok
 tMOST_TIMES:Tok
 tMOST_DEEP:Tok
structure Exc (K:FrG)(mg:Str->Option Value)(ad:Adr):Prop where
 tt:True:=trivial
 m_BenchError:mg "BenchError"=some (.ref ad.BenchError)
 Py:mg "NoNumber"=some (.ref ad.NoNumber)
 M3:mg "NoText"=some (.ref ad.NoText)
 Pg:mg "NoBox"=some (.ref ad.NoBox)
 m_NoBench:mg "NoBench"=some (.ref ad.NoBench)
 Nk:mg "Piece"=some (.ref ad.Piece)
 MN:mg "Gap"=some (.ref ad.Gap)
 Kg:mg "Glass"=some (.ref ad.Glass)
 Ko:mg "Stop"=some (.ref ad.Stop)
 Kd:mg "Reader"=some (.ref ad.Reader)
 m_GAP:mg "GAP"=some (.str "gap" ad.tGAP)
 m_GLASS:mg "GLASS"=some (.str "glass" ad.tGLASS)
 m_STOP:mg "STOP"=some (.str "stop" ad.tSTOP)
 m_MOST_PIECES:mg "MOST_PIECES"=some (.int 60 ad.tMOST_PIECES)
 m_FIGURES:mg "FIGURES"=some (.str "0123456789" ad.tFIGURES)
 m_MOST_FIGURES:mg "MOST_FIGURES"=some (.int 15 ad.tMOST_FIGURES)
 m_PARTED:mg "PARTED"=some (.str ";" ad.tPARTED)
 m_TIMES:mg "TIMES"=some (.str "times" ad.tTIMES)
 Mg:mg "OPENED"=some (.str "(" ad.tOPENED)
 NQ:mg "CLOSED"=some (.str ")" ad.tCLOSED)
 Np:mg "MOST_TIMES"=some (.int 60 ad.tMOST_TIMES)
 Pn:mg "MOST_DEEP"=some (.int 4 ad.tMOST_DEEP)
 yu:ExcCls K mg "NoText" ad.NoText
 x_NoText_NoText:PySem.W.exmOne K (.ref ad.NoText) (.ref ad.NoText)=some true
 x_NoBench_NoBench:PySem.W.exmOne K (.ref ad.NoBench) (.ref ad.NoBench)=some true
 e_NoBench:ExcK K ad.NoBench
 l_Gap:Cls K ad.Gap
 i_Gap:MkFn K mg "Gap" ad.Gap "Gap.__init__" M5
 q_Gap_lets:MtFn K ad.Gap "lets" "Piece.lets" Gx
 q_Gap_bent:MtFn K ad.Gap "bent" "Gap.bent" Ku
 n_Gap_length:NoAttr K ad.Gap "length"
 l_Glass:Cls K ad.Glass
 i_Glass:MkFn K mg "Glass" ad.Glass "Glass.__init__" Ke
 q_Glass_lets:MtFn K ad.Glass "lets" "Piece.lets" Gx
 q_Glass_bent:MtFn K ad.Glass "bent" "Glass.bent" Ls
 n_Glass_strength:NoAttr K ad.Glass "strength"
 l_Stop:Cls K ad.Stop
 i_Stop:MkFn K mg "Stop" ad.Stop "Stop.__init__" Kf
 q_Stop_lets:MtFn K ad.Stop "lets" "Stop.lets" LQ
 q_Stop_bent:MtFn K ad.Stop "bent" "Piece.bent" Kc
 n_Stop_low:NoAttr K ad.Stop "low"
 n_Stop_high:NoAttr K ad.Stop "high"
 l_Reader:Cls K ad.Reader
 i_Reader:MkFn K mg "Reader" ad.Reader "Reader.__init__" M9
 q_Reader_is_done:MtFn K ad.Reader "is_done" "Reader.is_done" M8
 q_Reader_take:MtFn K ad.Reader "take" "Reader.take" Lz
 q_Reader_take_if:MtFn K ad.Reader "take_if" "Reader.take_if" Lw
 n_Reader_words:NoAttr K ad.Reader "words"
 n_Reader_place:NoAttr K ad.Reader "place"
 j_NoBench:XFn K mg "NoBench" ad.NoBench ad.BenchError "NoBench.__init__" KY
 m_NOUGHT:mg "NOUGHT"=some (.ref ad.NOUGHT)
 s_NOUGHT:∀H:Hp,SqT K H ad.NOUGHT [.int 0,.int 1]
 m_ONE:mg "ONE"=some (.ref ad.ONE)
 s_ONE:∀H:Hp,SqT K H ad.ONE [.int 1,.int 1]
structure Txt (K:FrG)(mg:Str->Option Value)(ad:Adr):Prop where
 ex:Exc K mg ad
 abs:mg "abs"=none
 all:mg "all"=none
 bool:mg "bool"=none
 enumerate:mg "enumerate"=none
 int:mg "int"=none
 isinstance:mg "isinstance"=none
 len:mg "len"=none
 list:mg "list"=none
 range:mg "range"=none
 str:mg "str"=none
 tuple:mg "tuple"=none
 zip:mg "zip"=none
 Ql:TopFn K mg "is_whole" QT
 Ut:TopFn K mg "common_divisor" Qn
 RN:TopFn K mg "is_ratio" Vr
 Wg:TopFn K mg "ratio_of" Ug
 Wu:TopFn K mg "sum_of" Qk
 Vu:TopFn K mg "less_by" U3
 Um:TopFn K mg "product_of" Qd
 Rv:TopFn K mg "quotient_of" Uv
 WN:TopFn K mg "is_less" Qf
 Sw:TopFn K mg "is_stretch" U7
 V0:TopFn K mg "look_at_stretch" Rw
 Su:TopFn K mg "is_box" Qj
 Ue:TopFn K mg "look_at_box" Ws
 SN:TopFn K mg "is_piece" Ln
 Wd:TopFn K mg "piece_of" Wc
 Ms:TopFn K mg "look_at" U0
 UG:TopFn K mg "table_of_rays" Tf
 VG:TopFn K mg "table_of" W2
 Qq:TopFn K mg "made_by" Vb
 Nm:TopFn K mg "limits_of" T4
 U5:TopFn K mg "is_before" QC
 Vy:TopFn K mg "turn_of" QG
 Uc:TopFn K mg "corners_of" RC
 R3:TopFn K mg "edges_of" Rh
 VH:TopFn K mg "room_at" V3
 Sd:TopFn K mg "crossing_of" VP
 Qy:TopFn K mg "cut_by" O9
 QL:TopFn K mg "from_the_least" Rm
 Nb:TopFn K mg "field_of" Sv
 Qz:TopFn K mg "is_within" Sx
 Ri:TopFn K mg "in_order" RL
 VR:TopFn K mg "lesser_of" WM
 S6:TopFn K mg "greater_of" Q6
 Qw:TopFn K mg "slants_by" V6
 Mx:TopFn K mg "slants_of" S7
 U9:TopFn K mg "height_at" RJ
 Vm:TopFn K mg "spots_of" Uz
 Vw:TopFn K mg "show_ratio" Sq
 RW:TopFnA K mg "read_part_figures" "read_part" TV
 Qt:TopFn K mg "read_ratio" Kh
 Wv:TopFn K mg "words_of" W6
 Vl:TopFn K mg "read_number" Q5
 cj:TopFn K mg "read_times" XS
 Qg:TopFn K mg "read_round" RT
 S5:TopFnA K mg "read_part_texts" "read_part" Vk
 Tn:TopFn K mg "read_parts" Ul
 Oq:TopFn K mg "count_of" VJ
 Oi:TopFn K mg "told_out" RQ
 Us:TopFn K mg "read_bench" U8
 Uh:TopFn K mg "show_piece" Tj
 R5:TopFn K mg "show_bench" TX
 W9:TopFn K mg "walk_of" WK
 Uo:TopFn K mg "goes_by" Vh
 S8:TopFn K mg "_law_cell_at" Ti
 Uq:TopFn K mg "_law_mix" QZ
 R6:TopFn K mg "_law_lowest" Q4
 Tu:TopFn K mg "_law_sum" TQ
 Rp:TopFn K mg "_law_product" T7
 Rz:TopFn K mg "_law_less" V9
 Vp:TopFn K mg "_law_between" WF
 QV:TopFn K mg "_law_bench" TF
 Qe:TopFn K mg "_law_heights" Lq
 Ur:TopFn K mg "_law_good" T6
 RD:TopFn K mg "_law_ray" Mp
 Wm:TopFn K mg "_law_lamp_good" Ml
 Ww:TopFn K mg "_law_too_long" QS
theorem oR {K:FrG}{h:Heap}{mg:Str->Option Value}{CBenchError CNoNumber CNoText CNoBox CNoBench CPiece CGap CGlass CStop CReader CNOUGHT CONE:Addr}{cdNoBench:ClassData}{tGAP:Tok}{tGLASS:Tok}{tSTOP:Tok}{tMOST_PIECES:Tok}{tFIGURES:Tok}{tMOST_FIGURES:Tok}{tPARTED:Tok}{tTIMES:Tok}{tOPENED:Tok}{tCLOSED:Tok}{tMOST_TIMES:Tok}{tMOST_DEEP:Tok}{NT:Addr}{oc_Gap_init:Value}{od_Gap_init an_Gap_init:Option Addr}{sl_Gap_init:Array (Option Value)}{kV_Gap_init dc_Gap_init pm_Gap_init cd_Gap_init ct_Gap_init:Value}{Nz:Addr}{oc_Gap_lets:Value}{od_Gap_lets an_Gap_lets:Option Addr}{sl_Gap_lets:Array (Option Value)}{kV_Gap_lets dc_Gap_lets pm_Gap_lets cd_Gap_lets ct_Gap_lets:Value}{Pj:Addr}{oc_Gap_bent:Value}{od_Gap_bent an_Gap_bent:Option Addr}{sl_Gap_bent:Array (Option Value)}{kV_Gap_bent dc_Gap_bent pm_Gap_bent cd_Gap_bent ct_Gap_bent:Value}{Nv:Addr}{oc_Glass_init:Value}{od_Glass_init an_Glass_init:Option Addr}{sl_Glass_init:Array (Option Value)}{kV_Glass_init dc_Glass_init pm_Glass_init cd_Glass_init ct_Glass_init:Value}{Ob:Addr}{oc_Glass_lets:Value}{od_Glass_lets an_Glass_lets:Option Addr}{sl_Glass_lets:Array (Option Value)}{kV_Glass_lets dc_Glass_lets pm_Glass_lets cd_Glass_lets ct_Glass_lets:Value}{Px:Addr}{oc_Glass_bent:Value}{od_Glass_bent an_Glass_bent:Option Addr}{sl_Glass_bent:Array (Option Value)}{kV_Glass_bent dc_Glass_bent pm_Glass_bent cd_Glass_bent ct_Glass_bent:Value}{Nt:Addr}{oc_Stop_init:Value}{od_Stop_init an_Stop_init:Option Addr}{sl_Stop_init:Array (Option Value)}{kV_Stop_init dc_Stop_init pm_Stop_init cd_Stop_init ct_Stop_init:Value}{OD:Addr}{oc_Stop_lets:Value}{od_Stop_lets an_Stop_lets:Option Addr}{sl_Stop_lets:Array (Option Value)}{kV_Stop_lets dc_Stop_lets pm_Stop_lets cd_Stop_lets ct_Stop_lets:Value}{Mw:Addr}{oc_Stop_bent:Value}{od_Stop_bent an_Stop_bent:Option Addr}{sl_Stop_bent:Array (Option Value)}{kV_Stop_bent dc_Stop_bent pm_Stop_bent cd_Stop_bent ct_Stop_bent:Value}{Mt:Addr}{oc_Reader_init:Value}{od_Reader_init an_Reader_init:Option Addr}{sl_Reader_init:Array (Option Value)}{kV_Reader_init dc_Reader_init pm_Reader_init cd_Reader_init ct_Reader_init:Value}{Ov:Addr}{oc_Reader_is_done:Value}{od_Reader_is_done an_Reader_is_done:Option Addr}{sl_Reader_is_done:Array (Option Value)}{kV_Reader_is_done dc_Reader_is_done pm_Reader_is_done cd_Reader_is_done ct_Reader_is_done:Value}{Mq:Addr}{oc_Reader_take:Value}{od_Reader_take an_Reader_take:Option Addr}{sl_Reader_take:Array (Option Value)}{kV_Reader_take dc_Reader_take pm_Reader_take cd_Reader_take ct_Reader_take:Value}{O8:Addr}{oc_Reader_take_if:Value}{od_Reader_take_if an_Reader_take_if:Option Addr}{sl_Reader_take_if:Array (Option Value)}{kV_Reader_take_if dc_Reader_take_if pm_Reader_take_if cd_Reader_take_if ct_Reader_take_if:Value}{Oz:Addr}{oc_NoBench_init:Value}{od_NoBench_init an_NoBench_init:Option Addr}{sl_NoBench_init:Array (Option Value)}{kV_NoBench_init dc_NoBench_init pm_NoBench_init cd_NoBench_init ct_NoBench_init:Value}{nm_NoBench_init qn_NoBench_init:Str}{N_NoBench_init:Addr}{bs_NoBench_init sub_NoBench_init:List Value}{sn_NoBench_init:List Str}{ab_NoBench_init:Bool}{col_NoBench_init:Option Bool}{dd_NoBench_init:Option Addr}{k0_NoBench_init k1_NoBench_init k2_NoBench_init k3_NoBench_init k5_NoBench_init:Option Value}{tk_NOUGHT_0:Tok}{tk_NOUGHT_1:Tok}{dd_NOUGHT:Option Addr}{nn_NOUGHT:Nat}{sl_NOUGHT:Array (Option Value)}{tk_ONE_0:Tok}{tk_ONE_1:Tok}{dd_ONE:Option Addr}{nn_ONE:Nat}{sl_ONE:Array (Option Value)}(X:K.In h)(G:h.Ns mainGlobals mg)(m_BenchError:PySem.W.nsIn K mainGlobals "BenchError"=some (some (.ref CBenchError)))(Py:PySem.W.nsIn K mainGlobals "NoNumber"=some (some (.ref CNoNumber)))(M3:PySem.W.nsIn K mainGlobals "NoText"=some (some (.ref CNoText)))(Pg:PySem.W.nsIn K mainGlobals "NoBox"=some (some (.ref CNoBox)))(m_NoBench:PySem.W.nsIn K mainGlobals "NoBench"=some (some (.ref CNoBench)))(Nk:PySem.W.nsIn K mainGlobals "Piece"=some (some (.ref CPiece)))(MN:PySem.W.nsIn K mainGlobals "Gap"=some (some (.ref CGap)))(Kg:PySem.W.nsIn K mainGlobals "Glass"=some (some (.ref CGlass)))(Ko:PySem.W.nsIn K mainGlobals "Stop"=some (some (.ref CStop)))(Kd:PySem.W.nsIn K mainGlobals "Reader"=some (some (.ref CReader)))(m_GAP:PySem.W.nsIn K mainGlobals "GAP"=some (some (.str "gap" tGAP)))(m_GLASS:PySem.W.nsIn K mainGlobals "GLASS"=some (some (.str "glass" tGLASS)))(m_STOP:PySem.W.nsIn K mainGlobals "STOP"=some (some (.str "stop" tSTOP)))(m_MOST_PIECES:PySem.W.nsIn K mainGlobals "MOST_PIECES"=some (some (.int 60 tMOST_PIECES)))(m_FIGURES:PySem.W.nsIn K mainGlobals "FIGURES"=some (some (.str "0123456789" tFIGURES)))(m_MOST_FIGURES:PySem.W.nsIn K mainGlobals "MOST_FIGURES"=some (some (.int 15 tMOST_FIGURES)))(m_PARTED:PySem.W.nsIn K mainGlobals "PARTED"=some (some (.str ";" tPARTED)))(m_TIMES:PySem.W.nsIn K mainGlobals "TIMES"=some (some (.str "times" tTIMES)))(Mg:PySem.W.nsIn K mainGlobals "OPENED"=some (some (.str "(" tOPENED)))(NQ:PySem.W.nsIn K mainGlobals "CLOSED"=some (some (.str ")" tCLOSED)))(Np:PySem.W.nsIn K mainGlobals "MOST_TIMES"=some (some (.int 60 tMOST_TIMES)))(Pn:PySem.W.nsIn K mainGlobals "MOST_DEEP"=some (some (.int 4 tMOST_DEEP)))(WR:PySem.W.excIn K CNoText [.type "ValueError",.type "Exception",.type "BaseException",.type "object"] "ValueError.__new__"=true)(x_NoText_NoText:PySem.W.exmOne K (.ref CNoText) (.ref CNoText)=some true)(x_NoBench_NoBench:PySem.W.exmOne K (.ref CNoBench) (.ref CNoBench)=some true)(ecl_NoBench:PySem.W.clsIn K CNoBench=some cdNoBench)(ega_NoBench:PySem.W.findIn K (.ref CNoBench) "__getattribute__"=some (some (.builtin "BaseException.__getattribute__")))(egt_NoBench:PySem.W.findIn K (.ref CNoBench) "__getattr__"=some none)(eha_NoBench:PySem.W.findIn K (.ref CNoBench) "__class__"=some (some (.builtin "object.__class__")))(ehn_NoBench:PySem.W.specialIn K (.builtin "object.__class__") "__get__"=some (some (.builtin "getset_descriptor.__get__")))(eht_NoBench:PySem.W.takesIn K (.builtin "object.__class__")=some true)(ehm_NoBench:PySem.W.mroIn K CNoBench (.type "object")=some true)(ehb_NoBench:PySem.W.mroIn K CNoBench (.type "BaseException")=some true)(pg_Gap:PySem.W.plainGet K CGap Str.empty=true)(hd_Gap:PySem.W.hasDictIn K CGap=true)(po_Gap:PySem.W.plainOver K CGap=true)(sa_Gap:PySem.W.findIn K (.ref CGap) "__setattr__"=some (some (.builtin "object.__setattr__")))(mk_Gap_init:PySem.W.makesIn K CGap=true)(a_Gap_init:PySem.W.findIn K (.ref CGap) "__init__"=some (some (.ref NT)))(fn_Gap_init:PySem.W.isFn K (.ref NT)=true)(kc_Gap_init:PySem.W.keepIn K (.ref CGap)=true)(l_Gap_init:K.lookup NT=some ⟨oc_Gap_init,od_Gap_init,.func (PySem.W.fnOf "__init__" "Gap.__init__" (defArgs M5) (defBody M5) (defScope M5) .none kV_Gap_init dc_Gap_init pm_Gap_init an_Gap_init cd_Gap_init ct_Gap_init),sl_Gap_init⟩)(Qa:PySem.W.codeIn K cd_Gap_init "Gap.__init__"=true)(kp_Gap_init:PySem.W.keepIn K (.ref NT)=true)(a_Gap_lets:PySem.W.findIn K (.ref CGap) "lets"=some (some (.ref Nz)))(fn_Gap_lets:PySem.W.isFn K (.ref Nz)=true)(kp_Gap_lets:PySem.W.keepIn K (.ref Nz)=true)(l_Gap_lets:K.lookup Nz=some ⟨oc_Gap_lets,od_Gap_lets,.func (PySem.W.fnOf "lets" "Piece.lets" (defArgs Gx) (defBody Gx) (defScope Gx) .none kV_Gap_lets dc_Gap_lets pm_Gap_lets an_Gap_lets cd_Gap_lets ct_Gap_lets),sl_Gap_lets⟩)(QH:PySem.W.codeIn K cd_Gap_lets "Piece.lets"=true)(a_Gap_bent:PySem.W.findIn K (.ref CGap) "bent"=some (some (.ref Pj)))(fn_Gap_bent:PySem.W.isFn K (.ref Pj)=true)(kp_Gap_bent:PySem.W.keepIn K (.ref Pj)=true)(l_Gap_bent:K.lookup Pj=some ⟨oc_Gap_bent,od_Gap_bent,.func (PySem.W.fnOf "bent" "Gap.bent" (defArgs Ku) (defBody Ku) (defScope Ku) .none kV_Gap_bent dc_Gap_bent pm_Gap_bent an_Gap_bent cd_Gap_bent ct_Gap_bent),sl_Gap_bent⟩)(VD:PySem.W.codeIn K cd_Gap_bent "Gap.bent"=true)(n_Gap_length:PySem.W.findIn K (.ref CGap) "length"=some none)(pg_Glass:PySem.W.plainGet K CGlass Str.empty=true)(hd_Glass:PySem.W.hasDictIn K CGlass=true)(po_Glass:PySem.W.plainOver K CGlass=true)(sa_Glass:PySem.W.findIn K (.ref CGlass) "__setattr__"=some (some (.builtin "object.__setattr__")))(mk_Glass_init:PySem.W.makesIn K CGlass=true)(a_Glass_init:PySem.W.findIn K (.ref CGlass) "__init__"=some (some (.ref Nv)))(fn_Glass_init:PySem.W.isFn K (.ref Nv)=true)(kc_Glass_init:PySem.W.keepIn K (.ref CGlass)=true)(l_Glass_init:K.lookup Nv=some ⟨oc_Glass_init,od_Glass_init,.func (PySem.W.fnOf "__init__" "Glass.__init__" (defArgs Ke) (defBody Ke) (defScope Ke) .none kV_Glass_init dc_Glass_init pm_Glass_init an_Glass_init cd_Glass_init ct_Glass_init),sl_Glass_init⟩)(VL:PySem.W.codeIn K cd_Glass_init "Glass.__init__"=true)(kp_Glass_init:PySem.W.keepIn K (.ref Nv)=true)(a_Glass_lets:PySem.W.findIn K (.ref CGlass) "lets"=some (some (.ref Ob)))(fn_Glass_lets:PySem.W.isFn K (.ref Ob)=true)(kp_Glass_lets:PySem.W.keepIn K (.ref Ob)=true)(l_Glass_lets:K.lookup Ob=some ⟨oc_Glass_lets,od_Glass_lets,.func (PySem.W.fnOf "lets" "Piece.lets" (defArgs Gx) (defBody Gx) (defScope Gx) .none kV_Glass_lets dc_Glass_lets pm_Glass_lets an_Glass_lets cd_Glass_lets ct_Glass_lets),sl_Glass_lets⟩)(R9:PySem.W.codeIn K cd_Glass_lets "Piece.lets"=true)(a_Glass_bent:PySem.W.findIn K (.ref CGlass) "bent"=some (some (.ref Px)))(fn_Glass_bent:PySem.W.isFn K (.ref Px)=true)(kp_Glass_bent:PySem.W.keepIn K (.ref Px)=true)(l_Glass_bent:K.lookup Px=some ⟨oc_Glass_bent,od_Glass_bent,.func (PySem.W.fnOf "bent" "Glass.bent" (defArgs Ls) (defBody Ls) (defScope Ls) .none kV_Glass_bent dc_Glass_bent pm_Glass_bent an_Glass_bent cd_Glass_bent ct_Glass_bent),sl_Glass_bent⟩)(Wj:PySem.W.codeIn K cd_Glass_bent "Glass.bent"=true)(n_Glass_strength:PySem.W.findIn K (.ref CGlass) "strength"=some none)(pg_Stop:PySem.W.plainGet K CStop Str.empty=true)(hd_Stop:PySem.W.hasDictIn K CStop=true)(po_Stop:PySem.W.plainOver K CStop=true)(sa_Stop:PySem.W.findIn K (.ref CStop) "__setattr__"=some (some (.builtin "object.__setattr__")))(mk_Stop_init:PySem.W.makesIn K CStop=true)(a_Stop_init:PySem.W.findIn K (.ref CStop) "__init__"=some (some (.ref Nt)))(fn_Stop_init:PySem.W.isFn K (.ref Nt)=true)(kc_Stop_init:PySem.W.keepIn K (.ref CStop)=true)(l_Stop_init:K.lookup Nt=some ⟨oc_Stop_init,od_Stop_init,.func (PySem.W.fnOf "__init__" "Stop.__init__" (defArgs Kf) (defBody Kf) (defScope Kf) .none kV_Stop_init dc_Stop_init pm_Stop_init an_Stop_init cd_Stop_init ct_Stop_init),sl_Stop_init⟩)(Rc:PySem.W.codeIn K cd_Stop_init "Stop.__init__"=true)(kp_Stop_init:PySem.W.keepIn K (.ref Nt)=true)(a_Stop_lets:PySem.W.findIn K (.ref CStop) "lets"=some (some (.ref OD)))(fn_Stop_lets:PySem.W.isFn K (.ref OD)=true)(kp_Stop_lets:PySem.W.keepIn K (.ref OD)=true)(l_Stop_lets:K.lookup OD=some ⟨oc_Stop_lets,od_Stop_lets,.func (PySem.W.fnOf "lets" "Stop.lets" (defArgs LQ) (defBody LQ) (defScope LQ) .none kV_Stop_lets dc_Stop_lets pm_Stop_lets an_Stop_lets cd_Stop_lets ct_Stop_lets),sl_Stop_lets⟩)(Sg:PySem.W.codeIn K cd_Stop_lets "Stop.lets"=true)(a_Stop_bent:PySem.W.findIn K (.ref CStop) "bent"=some (some (.ref Mw)))(fn_Stop_bent:PySem.W.isFn K (.ref Mw)=true)(kp_Stop_bent:PySem.W.keepIn K (.ref Mw)=true)(l_Stop_bent:K.lookup Mw=some ⟨oc_Stop_bent,od_Stop_bent,.func (PySem.W.fnOf "bent" "Piece.bent" (defArgs Kc) (defBody Kc) (defScope Kc) .none kV_Stop_bent dc_Stop_bent pm_Stop_bent an_Stop_bent cd_Stop_bent ct_Stop_bent),sl_Stop_bent⟩)(Vn:PySem.W.codeIn K cd_Stop_bent "Piece.bent"=true)(n_Stop_low:PySem.W.findIn K (.ref CStop) "low"=some none)(n_Stop_high:PySem.W.findIn K (.ref CStop) "high"=some none)(pg_Reader:PySem.W.plainGet K CReader Str.empty=true)(hd_Reader:PySem.W.hasDictIn K CReader=true)(po_Reader:PySem.W.plainOver K CReader=true)(sa_Reader:PySem.W.findIn K (.ref CReader) "__setattr__"=some (some (.builtin "object.__setattr__")))(mk_Reader_init:PySem.W.makesIn K CReader=true)(a_Reader_init:PySem.W.findIn K (.ref CReader) "__init__"=some (some (.ref Mt)))(fn_Reader_init:PySem.W.isFn K (.ref Mt)=true)(kc_Reader_init:PySem.W.keepIn K (.ref CReader)=true)(l_Reader_init:K.lookup Mt=some ⟨oc_Reader_init,od_Reader_init,.func (PySem.W.fnOf "__init__" "Reader.__init__" (defArgs M9) (defBody M9) (defScope M9) .none kV_Reader_init dc_Reader_init pm_Reader_init an_Reader_init cd_Reader_init ct_Reader_init),sl_Reader_init⟩)(Vg:PySem.W.codeIn K cd_Reader_init "Reader.__init__"=true)(kp_Reader_init:PySem.W.keepIn K (.ref Mt)=true)(a_Reader_is_done:PySem.W.findIn K (.ref CReader) "is_done"=some (some (.ref Ov)))(fn_Reader_is_done:PySem.W.isFn K (.ref Ov)=true)(kp_Reader_is_done:PySem.W.keepIn K (.ref Ov)=true)(l_Reader_is_done:K.lookup Ov=some ⟨oc_Reader_is_done,od_Reader_is_done,.func (PySem.W.fnOf "is_done" "Reader.is_done" (defArgs M8) (defBody M8) (defScope M8) .none kV_Reader_is_done dc_Reader_is_done pm_Reader_is_done an_Reader_is_done cd_Reader_is_done ct_Reader_is_done),sl_Reader_is_done⟩)(Th:PySem.W.codeIn K cd_Reader_is_done "Reader.is_done"=true)(a_Reader_take:PySem.W.findIn K (.ref CReader) "take"=some (some (.ref Mq)))(fn_Reader_take:PySem.W.isFn K (.ref Mq)=true)(kp_Reader_take:PySem.W.keepIn K (.ref Mq)=true)(l_Reader_take:K.lookup Mq=some ⟨oc_Reader_take,od_Reader_take,.func (PySem.W.fnOf "take" "Reader.take" (defArgs Lz) (defBody Lz) (defScope Lz) .none kV_Reader_take dc_Reader_take pm_Reader_take an_Reader_take cd_Reader_take ct_Reader_take),sl_Reader_take⟩)(Tg:PySem.W.codeIn K cd_Reader_take "Reader.take"=true)(a_Reader_take_if:PySem.W.findIn K (.ref CReader) "take_if"=some (some (.ref O8)))(fn_Reader_take_if:PySem.W.isFn K (.ref O8)=true)(kp_Reader_take_if:PySem.W.keepIn K (.ref O8)=true)(l_Reader_take_if:K.lookup O8=some ⟨oc_Reader_take_if,od_Reader_take_if,.func (PySem.W.fnOf "take_if" "Reader.take_if" (defArgs Lw) (defBody Lw) (defScope Lw) .none kV_Reader_take_if dc_Reader_take_if pm_Reader_take_if an_Reader_take_if cd_Reader_take_if ct_Reader_take_if),sl_Reader_take_if⟩)(Ry:PySem.W.codeIn K cd_Reader_take_if "Reader.take_if"=true)(n_Reader_words:PySem.W.findIn K (.ref CReader) "words"=some none)(n_Reader_place:PySem.W.findIn K (.ref CReader) "place"=some none)(ob_NoBench_init:K.lookup CNoBench=some (excClassObj nm_NoBench_init qn_NoBench_init CNoBench N_NoBench_init bs_NoBench_init (.ref CBenchError::HX) true sn_NoBench_init sub_NoBench_init ab_NoBench_init col_NoBench_init dd_NoBench_init k0_NoBench_init k1_NoBench_init k2_NoBench_init k3_NoBench_init k5_NoBench_init "ValueError.__new__"))(Rg:PySem.W.excIn K CBenchError HX "ValueError.__new__"=true)(it_NoBench_init:PySem.W.findIn K (.ref CNoBench) "__init__"=some (some (.ref Oz)))(kp0_NoBench_init:PySem.W.keepIn K (.ref CNoBench)=true)(hm_NoBench_init:PySem.W.mroIn K CNoBench (.type "object")=some true)(hd_NoBench_init:PySem.W.hasDictIn K CNoBench=true)(fn_NoBench_init:PySem.W.typeIn K (.ref Oz)=some (.type "function"))(sa_NoBench_init:PySem.W.findIn K (.ref CNoBench) "__setattr__"=some (some (.builtin "object.__setattr__")))(na_NoBench_init:PySem.W.findIn K (.ref CNoBench) "at"=some none)(rd_NoBench_init:PySem.W.readsIn K CBenchError (.type "type")=true)(fc_NoBench_init:PySem.W.findCls K (.ref CBenchError) (.type "type") "__init__"=some (.val (.builtin "ValueError.__init__")))(sg_NoBench_init:PySem.W.specialIn K (.ref CBenchError) "__getattribute__"=some (some (.builtin "type.__getattribute__")))(l_NoBench_init:K.lookup Oz=some ⟨oc_NoBench_init,od_NoBench_init,.func (PySem.W.fnOf "__init__" "NoBench.__init__" (defArgs KY) (defBody KY) (defScope KY) .none kV_NoBench_init dc_NoBench_init pm_NoBench_init an_NoBench_init cd_NoBench_init ct_NoBench_init),sl_NoBench_init⟩)(WW:PySem.W.codeIn K cd_NoBench_init "NoBench.__init__"=true)(kp_NoBench_init:PySem.W.keepIn K (.ref Oz)=true)(m_NOUGHT:PySem.W.nsIn K mainGlobals "NOUGHT"=some (some (.ref CNOUGHT)))(lk_NOUGHT:K.lookup CNOUGHT=some ⟨.type "tuple",dd_NOUGHT,.seq #[.int 0 tk_NOUGHT_0,.int 1 tk_NOUGHT_1] nn_NOUGHT,sl_NOUGHT⟩)(m_ONE:PySem.W.nsIn K mainGlobals "ONE"=some (some (.ref CONE)))(lk_ONE:K.lookup CONE=some ⟨.type "tuple",dd_ONE,.seq #[.int 1 tk_ONE_0,.int 1 tk_ONE_1] nn_ONE,sl_ONE⟩):Exc K mg ⟨0,CBenchError,CNoNumber,CNoText,CNoBox,CNoBench,CPiece,CGap,CGlass,CStop,CReader,CNOUGHT,CONE,tGAP,tGLASS,tSTOP,tMOST_PIECES,tFIGURES,tMOST_FIGURES,tPARTED,tTIMES,tOPENED,tCLOSED,tMOST_TIMES,tMOST_DEEP⟩:=⟨trivial,PySem.W.mg_of X G m_BenchError,PySem.W.mg_of X G Py,PySem.W.mg_of X G M3,PySem.W.mg_of X G Pg,PySem.W.mg_of X G m_NoBench,PySem.W.mg_of X G Nk,PySem.W.mg_of X G MN,PySem.W.mg_of X G Kg,PySem.W.mg_of X G Ko,PySem.W.mg_of X G Kd,PySem.W.mg_of X G m_GAP,PySem.W.mg_of X G m_GLASS,PySem.W.mg_of X G m_STOP,PySem.W.mg_of X G m_MOST_PIECES,PySem.W.mg_of X G m_FIGURES,PySem.W.mg_of X G m_MOST_FIGURES,PySem.W.mg_of X G m_PARTED,PySem.W.mg_of X G m_TIMES,PySem.W.mg_of X G Mg,PySem.W.mg_of X G NQ,PySem.W.mg_of X G Np,PySem.W.mg_of X G Pn,⟨PySem.W.mg_of X G M3,WR⟩,x_NoText_NoText,x_NoBench_NoBench,⟨by rw [ecl_NoBench];rfl,ega_NoBench,egt_NoBench,eha_NoBench,ehn_NoBench,eht_NoBench,ehm_NoBench,ehb_NoBench⟩,⟨pg_Gap,hd_Gap,po_Gap,sa_Gap⟩,⟨⟨_,_,Dv l_Gap_init Qa kp_Gap_init,⟨mk_Gap_init,a_Gap_init,fn_Gap_init,kc_Gap_init⟩⟩,PySem.W.mg_of X G MN⟩,⟨⟨_,_,Dv l_Gap_lets QH kp_Gap_lets,⟨a_Gap_lets,fn_Gap_lets,kp_Gap_lets⟩⟩,⟨pg_Gap,hd_Gap,po_Gap,sa_Gap⟩⟩,⟨⟨_,_,Dv l_Gap_bent VD kp_Gap_bent,⟨a_Gap_bent,fn_Gap_bent,kp_Gap_bent⟩⟩,⟨pg_Gap,hd_Gap,po_Gap,sa_Gap⟩⟩,n_Gap_length,⟨pg_Glass,hd_Glass,po_Glass,sa_Glass⟩,⟨⟨_,_,Dv l_Glass_init VL kp_Glass_init,⟨mk_Glass_init,a_Glass_init,fn_Glass_init,kc_Glass_init⟩⟩,PySem.W.mg_of X G Kg⟩,⟨⟨_,_,Dv l_Glass_lets R9 kp_Glass_lets,⟨a_Glass_lets,fn_Glass_lets,kp_Glass_lets⟩⟩,⟨pg_Glass,hd_Glass,po_Glass,sa_Glass⟩⟩,⟨⟨_,_,Dv l_Glass_bent Wj kp_Glass_bent,⟨a_Glass_bent,fn_Glass_bent,kp_Glass_bent⟩⟩,⟨pg_Glass,hd_Glass,po_Glass,sa_Glass⟩⟩,n_Glass_strength,⟨pg_Stop,hd_Stop,po_Stop,sa_Stop⟩,⟨⟨_,_,Dv l_Stop_init Rc kp_Stop_init,⟨mk_Stop_init,a_Stop_init,fn_Stop_init,kc_Stop_init⟩⟩,PySem.W.mg_of X G Ko⟩,⟨⟨_,_,Dv l_Stop_lets Sg kp_Stop_lets,⟨a_Stop_lets,fn_Stop_lets,kp_Stop_lets⟩⟩,⟨pg_Stop,hd_Stop,po_Stop,sa_Stop⟩⟩,⟨⟨_,_,Dv l_Stop_bent Vn kp_Stop_bent,⟨a_Stop_bent,fn_Stop_bent,kp_Stop_bent⟩⟩,⟨pg_Stop,hd_Stop,po_Stop,sa_Stop⟩⟩,n_Stop_low,n_Stop_high,⟨pg_Reader,hd_Reader,po_Reader,sa_Reader⟩,⟨⟨_,_,Dv l_Reader_init Vg kp_Reader_init,⟨mk_Reader_init,a_Reader_init,fn_Reader_init,kc_Reader_init⟩⟩,PySem.W.mg_of X G Kd⟩,⟨⟨_,_,Dv l_Reader_is_done Th kp_Reader_is_done,⟨a_Reader_is_done,fn_Reader_is_done,kp_Reader_is_done⟩⟩,⟨pg_Reader,hd_Reader,po_Reader,sa_Reader⟩⟩,⟨⟨_,_,Dv l_Reader_take Tg kp_Reader_take,⟨a_Reader_take,fn_Reader_take,kp_Reader_take⟩⟩,⟨pg_Reader,hd_Reader,po_Reader,sa_Reader⟩⟩,⟨⟨_,_,Dv l_Reader_take_if Ry kp_Reader_take_if,⟨a_Reader_take_if,fn_Reader_take_if,kp_Reader_take_if⟩⟩,⟨pg_Reader,hd_Reader,po_Reader,sa_Reader⟩⟩,n_Reader_words,n_Reader_place,⟨⟨_,_,Dv l_NoBench_init WW kp_NoBench_init,⟨⟨_,_,_,_,_,_,_,_,_,_,_,_,_,_,ob_NoBench_init⟩,Rg,it_NoBench_init,kp0_NoBench_init,hm_NoBench_init,hd_NoBench_init,fn_NoBench_init,sa_NoBench_init,na_NoBench_init,rd_NoBench_init,fc_NoBench_init,sg_NoBench_init⟩⟩,PySem.W.mg_of X G m_NoBench⟩,PySem.W.mg_of X G m_NOUGHT,λ H=>.inr ⟨_,_,_,lk_NOUGHT,rfl,rfl,by show 2<=sizeLine;decide,(.cons ⟨_,rfl⟩ (.cons ⟨_,rfl⟩ .nil))⟩,PySem.W.mg_of X G m_ONE,λ H=>.inr ⟨_,_,_,lk_ONE,rfl,rfl,by show 2<=sizeLine;decide,(.cons ⟨_,rfl⟩ (.cons ⟨_,rfl⟩ .nil))⟩⟩
section
variable {P:Program}{w:World}{K:FrG}{mg:Str->Option Value}{base:Heap}{ad:Adr}{c:Bool}
theorem Yy (T:Txt K mg ad):CalB P w K mg base true 1 "is_whole" ["thing"] (n6 K):=by
 refine T.Ql.calN j0 (λ _ _ _ _ _ _=>by1 λ _=>rfl) (λ vs H Q E h=>?_) (λ f cdv A outer s H vs Q E hr h=>?_)
 ·obtain ⟨v,d,rfl,_⟩:=h;rfl
 obtain ⟨v,d,rfl,hv,q⟩:=h;obtain ⟨b,b',hb,hc,e⟩:=vZ d;refine ⟨_,(Ao (Az (Ed (CP Gj rfl T.isinstance GF (Ad (pv 0) (Ad (GD (v:=.ty "int") rfl T.int Zf rfl) Ab))) (Em (GQ (CP Gj rfl T.isinstance GF (Ad (pv 0) (Ad (GD (v:=.ty "bool") rfl T.bool lJ rfl) Ab)))))))),?_⟩;refine ⟨_,rfl,_,_,_,b,rfl,hv,hb,_,rfl,?_⟩;cases b with
 | false=>
  have e':MT d=false:=e.symm;rw [e'] at q;exact iteF q
 | true=>
  refine iteT ?_;refine ⟨_,rfl,_,_,_,b',rfl,hv,hc,_,rfl,?_⟩;have e':(!b')=MT d:=e;show Q (.bl (!b')) H;rw [e'];exact q
theorem ZJ (T:Txt K mg ad):CalB P w K mg base true 1 "common_divisor" ["one","other"] xW:=by
 refine T.Ut.calN KQ (λ _ _ _ _ _ _=>Bs λ _ _=>rfl) (λ vs H Q E h=>?_) (λ f cdv A outer s H vs Q E hr h=>?_)
 ·obtain ⟨a,b,rfl,_⟩:=h;rfl
 obtain ⟨a,b,rfl,q⟩:=h;refine ⟨_,(Al (Aw (i:=2) KQ.nd rfl (Or.inl rfl) (CP QB rfl T.abs V5 (Ad (pv 0) Ab))) (Al (Aw (i:=3) KQ.nd rfl (Or.inl rfl) (CP QB rfl T.abs V5 (Ad (pv 1) Ab))) (Al (Wl PassesOwn.never (Bo Hb (pv 3) Ac (nomark _)) (Al (Aw (i:=4) KQ.nd rfl (Or.inl rfl) (Ay Cu (pv 2) (pv 3))) (Al (Aw (i:=2) KQ.nd rfl (Or.inl rfl) (pv 3)) (Ao (Aw (i:=3) KQ.nd rfl (Or.inl rfl) (pv 4)))))) (Ao (Az (pv 2)))))),?_⟩;refine ⟨_,rfl,_,rfl,_,rfl,_,rfl,?_⟩;have ea:=Fr.Tc a;have eb:=Fr.Tc b;refine ⟨λ k σ H'=>H=H'/\∃(m:Nat) (r:Option V),σ=[some (.int a),some (.int b),some (.int m),some (.int k),r]/\Nat.gcd m k=Nat.gcd a.natAbs b.natAbs,⟨b.natAbs,rfl,a.natAbs,none,by rw [<- ea,<- eb];rfl,rfl⟩,?_⟩
 rintro n _ _ ⟨rfl,m,r,rfl,e⟩
 refine ⟨_,rfl,rfl,_,rfl,?_⟩;refine ite2 (λ c=>?_) (λ c=>?_)
 ·have hn:n≠0:=by
   intro z;subst z;simp at c
  have h1:(m:Int) % (n:Int)=((m % n:Nat):Int):=(Int.natCast_emod m n).symm;refine ⟨λ σ' H'=>H=H'/\σ'=[some (.int a),some (.int b),some (.int n),some (.int ((m:Int) % (n:Int))),some (.int ((m:Int) % (n:Int)))],?_,?_⟩
  ·rintro _ _ ⟨rfl,rfl⟩
   rw [h1];exact ⟨m % n,Nat.mod_lt _ (by omega),rfl,n,_,rfl,by rw [Fr.bR,e]⟩
  ·exact ⟨_,rfl,_,rfl,_,_,rfl,rfl,(by show (0:Int) < (n:Int);omega),_,rfl,_,rfl,rfl,rfl⟩
 ·have hn:n=0:=by
   by_cases z:n=0
   ·exact z
   ·exfalso
    apply c
    rw [KR];simp
    omega
  subst hn;refine ⟨_,rfl,?_⟩;have e2:(m:Int)=Fr.gcd a b:=by
   unfold Fr.gcd;rw [<- e,Nat.gcd_zero_right]
  rw [e2];exact q
theorem Vs (T:Txt K mg ad):CalB P w K mg base true 2 "is_ratio" ["thing"] (sY K):=by
 have Kw:=Yy (P:=P) (w:=w) (base:=base) T;have Tp:=ZJ (P:=P) (w:=w) (base:=base) T;refine T.RN.calN V2 (λ _ _ _ _ _ _=>by1 λ _=>rfl) (λ vs H Q E h=>?_) (λ f cdv A outer s H vs Q E hr h=>?_)
 ·obtain ⟨_,_,rfl,_⟩:=h;rfl
 obtain ⟨v,q0,rfl,hv,q⟩:=h;obtain ⟨a,rfl,ha⟩:=hv.fr;refine ⟨_,(Al (Be (PW.pt (pw_or (Cd (By (CP Gj rfl T.isinstance GF (Ad (pv 0) (Ad (GD (v:=.ty "tuple") rfl T.tuple Ox rfl) Ab))))) (pw_or1 (Bo Hb (CP Ea rfl T.len Dq (Ad (pv 0) Ab)) Ac (nomark _))))) (Ao (Az DN)) Bj) (Al (Aw (i:=1) V2.nd rfl (Or.inl rfl) (Ag Am (pv 0) Ac (λ _ _=>rfl))) (Al (Aw (i:=2) V2.nd rfl (Or.inl rfl) (Ag Am (pv 0) Ac (λ _ _=>rfl))) (Al (Be (PW.pt (pw_or (Cd (By (Aj Kw (hr.mono (by decide)) Ai (Ad (pv 1) Ab)))) (pw_or1 (Cd (By (Aj Kw (hr.mono (by decide)) Ai (Ad (pv 2) Ab))))))) (Ao (Az DN)) Bj) (Ao (Az (Ed (Eg Y8 (pv 2) Ac (nomark _)) (Em (Eg DX (Aj Tp (hr.mono (by decide)) Ai (Ad (pv 1) (Ad (pv 2) Ab))) Ac (nomark _)))))))))),?_⟩
 refine ⟨_,rfl,_,_,_,_,rfl,hv,Wa _,_,rfl,iteF ?_⟩;refine ⟨_,rfl,a,_,rfl,.inr ha,rfl,_,rfl,iteF ?_⟩;refine ⟨_,rfl,a,_,_,_,rfl,rfl,ha,rfl,?_⟩;refine ⟨_,rfl,a,_,_,_,rfl,rfl,ha,rfl,?_⟩;refine ⟨_,rfl,_,_,rfl,.int _,_,rfl,iteF ?_⟩;refine ⟨_,rfl,_,_,rfl,.int _,_,rfl,iteF ?_⟩;refine ⟨_,rfl,_,_,rfl,rfl,_,rfl,Bt (decide_eq_true (Lg q0)) ⟨_,rfl,_,rfl,_,_,rfl,rfl,?_⟩⟩;show Q (.bl (decide (V.int (Fr.gcd q0.num (q0.den:Int))=V.int 1))) H;rw [KR,decide_eq_true (uf q0)];exact q
theorem Pr (T:Txt K mg ad):CalB P w K mg base true 2 "ratio_of" ["top","bottom"] vz:=by
 have Kw:=Yy (P:=P) (w:=w) (base:=base) T;have Tp:=ZJ (P:=P) (w:=w) (base:=base) T;refine T.Wg.calN Qi (λ _ _ _ _ _ _=>Bs λ _ _=>rfl) (λ vs H Q E h=>?_) (λ f cdv A outer s H vs Q E hr h=>?_)
 ·obtain ⟨x,y,rfl,_⟩:=h;rfl
 obtain ⟨a,b,rfl,b0,bs,q⟩:=h;refine ⟨_,(Al (Be (PW.pt (pw_or (Cd (By (Aj Kw (hr.mono (by decide)) Ai (Ad (pv 0) Ab)))) (pw_or (Cd (By (Aj Kw (hr.mono (by decide)) Ai (Ad (pv 1) Ab)))) (pw_or1 (Bo DX (pv 1) Ac (nomark _)))))) (Ao Es) Bj) (Al (Aw (i:=2) Qi.nd rfl (Or.inl rfl) (Aj Tp (hr.mono (by decide)) Ai (Ad (pv 0) (Ad (pv 1) Ab)))) (Al (Be (Bo JM (pv 1) Ac (nomark _)) (Ao (Aw (i:=2) Qi.nd rfl (Or.inl rfl) (Ay Ec Ac (pv 2)))) Bj) (Ao (Az (BK (Bu (Ay Mu (pv 0) (pv 2)) (Bu (Ay Mu (pv 1) (pv 2)) Ab)))))))),?_⟩
 refine ⟨_,rfl,_,_,rfl,.int a,_,rfl,?_⟩;refine iteF ?_;refine ⟨_,rfl,_,_,rfl,.int b,_,rfl,?_⟩;refine iteF ?_;refine ⟨_,rfl,rfl,_,rfl,?_⟩;refine ite2 (λ z=>?_) (λ _=>?_)
 ·exfalso;rw [KR] at z;exact b0 (of_decide_eq_true z)
 refine ⟨_,rfl,_,rfl,a,b,rfl,?_⟩;have gl:=Fr.Xq (a:=a) b0;have gn:=Fr.X8 a b;have gs:∀g:Int,g.natAbs=(Fr.gcd a b).natAbs->g.natAbs.log2 < 9000:=λ g hg=>by
  have h2:g.natAbs < lim:=by omega
  exact Xa h2
 have hlow:∀g:Int,g=Fr.sg a b->WL a g/\WL b g:=λ g hg=>by
  subst hg;exact ⟨⟨Fr.Jc b0,gs _ Fr.Ss⟩,⟨Fr.Jc b0,gs _ Fr.Ss⟩⟩
 refine ⟨_,rfl,_,_,rfl,rfl,_,rfl,?_⟩;refine ite2 (λ c2=>?_) (λ c2=>?_)
 ·have c3:b < 0:=of_decide_eq_true c2;have eg:(0:Int) - Fr.gcd a b=Fr.sg a b:=by
   unfold Fr.sg;rw [if_pos c3]
  refine ⟨_,rfl,_,_,rfl,rfl,?_⟩;refine ⟨_,rfl,_,rfl,_,_,rfl,rfl,(hlow _ eg).1,_,rfl,_,rfl,_,_,rfl,rfl,(hlow _ eg).2,(by show 2<=sizeLine;decide),λ p hp=>?_⟩
  rw [eg];exact q p hp
 ·have c3:¬ b < 0:=λ z=>c2 (decide_eq_true z)
  have eg:Fr.gcd a b=Fr.sg a b:=by
   unfold Fr.sg;rw [if_neg c3]
  refine ⟨_,rfl,_,rfl,_,_,rfl,rfl,(hlow _ eg).1,_,rfl,_,rfl,_,_,rfl,rfl,(hlow _ eg).2,(by show 2<=sizeLine;decide),λ p hp=>?_⟩
  rw [eg];exact q p hp
theorem Ka (T:Txt K mg ad):CalB P w K mg base true 3 "sum_of" ["one","other"] (PR K (Ky λ p q=>p+q)):=by
 have Il:=Pr (P:=P) (w:=w) (base:=base) T;refine T.Wu.calN jK (λ _ _ _ _ _ _=>Bs λ _ _=>rfl) (λ vs H Q E h=>?_) (λ f cdv A outer s H vs Q E hr h=>?_)
 ·obtain ⟨_,_,dv,⟨_,_,rfl,_⟩,_⟩:=h;exact dv.len
 obtain ⟨_,_,dv,⟨p,q,rfl,sp,sq,rfl⟩,k⟩:=h;obtain ⟨_,_,rfl,hx,hy⟩:=dv.two;obtain ⟨a,rfl,ha⟩:=hx.fr;obtain ⟨b,rfl,hb⟩:=hy.fr;refine ⟨_,(Ao (Az (Aj Il (hr.mono (by decide)) Ai (Bu (Ay Gi (Ay Dd (Ag Am (pv 0) Ac (λ _ _=>rfl)) (Ag Am (pv 1) Ac (λ _ _=>rfl))) (Ay Dd (Ag Am (pv 1) Ac (λ _ _=>rfl)) (Ag Am (pv 0) Ac (λ _ _=>rfl)))) (Bu (Ay Dd (Ag Am (pv 0) Ac (λ _ _=>rfl)) (Ag Am (pv 1) Ac (λ _ _=>rfl))) Ab))))),?_⟩
 refine ⟨_,rfl,a,_,_,_,rfl,rfl,ha,rfl,_,rfl,b,_,_,_,rfl,rfl,hb,rfl,_,_,rfl,rfl,Ds sp.n sq.dn,?_⟩;refine ⟨_,rfl,b,_,_,_,rfl,rfl,hb,rfl,_,rfl,a,_,_,_,rfl,rfl,ha,rfl,_,_,rfl,rfl,Ds sq.n sp.dn,_,_,rfl,rfl,?_⟩;refine ⟨_,rfl,a,_,_,_,rfl,rfl,ha,rfl,_,rfl,b,_,_,_,rfl,rfl,hb,rfl,_,_,rfl,rfl,Ds sp.dn sq.dn,?_⟩;refine ⟨_,_,rfl,Hj p q,Je sp.dn sq.dn,λ r hr=>k _ _ (Ah hr _) ?_⟩
 have e:=Do (K:=K) (H:=H) (t:=p.num * (q.den:Int)+q.num * (p.den:Int)) (b:=(p.den:Int) * (q.den:Int)) (p:=r) (Hj p q);rw [Fr.Wf] at e;exact e
theorem Kz (T:Txt K mg ad):CalB P w K mg base true 3 "less_by" ["one","other"] (PR K (Ky λ p q=>p - q)):=by
 have Il:=Pr (P:=P) (w:=w) (base:=base) T;refine T.Vu.calN pP (λ _ _ _ _ _ _=>Bs λ _ _=>rfl) (λ vs H Q E h=>?_) (λ f cdv A outer s H vs Q E hr h=>?_)
 ·obtain ⟨_,_,dv,⟨_,_,rfl,_⟩,_⟩:=h;exact dv.len
 obtain ⟨_,_,dv,⟨p,q,rfl,sp,sq,rfl⟩,k⟩:=h;obtain ⟨_,_,rfl,hx,hy⟩:=dv.two;obtain ⟨a,rfl,ha⟩:=hx.fr;obtain ⟨b,rfl,hb⟩:=hy.fr;refine ⟨_,(Ao (Az (Aj Il (hr.mono (by decide)) Ai (Bu (Ay Ec (Ay Dd (Ag Am (pv 0) Ac (λ _ _=>rfl)) (Ag Am (pv 1) Ac (λ _ _=>rfl))) (Ay Dd (Ag Am (pv 1) Ac (λ _ _=>rfl)) (Ag Am (pv 0) Ac (λ _ _=>rfl)))) (Bu (Ay Dd (Ag Am (pv 0) Ac (λ _ _=>rfl)) (Ag Am (pv 1) Ac (λ _ _=>rfl))) Ab))))),?_⟩
 refine ⟨_,rfl,a,_,_,_,rfl,rfl,ha,rfl,_,rfl,b,_,_,_,rfl,rfl,hb,rfl,_,_,rfl,rfl,Ds sp.n sq.dn,?_⟩;refine ⟨_,rfl,b,_,_,_,rfl,rfl,hb,rfl,_,rfl,a,_,_,_,rfl,rfl,ha,rfl,_,_,rfl,rfl,Ds sq.n sp.dn,_,_,rfl,rfl,?_⟩;refine ⟨_,rfl,a,_,_,_,rfl,rfl,ha,rfl,_,rfl,b,_,_,_,rfl,rfl,hb,rfl,_,_,rfl,rfl,Ds sp.dn sq.dn,?_⟩;refine ⟨_,_,rfl,Hj p q,Je sp.dn sq.dn,λ r hr=>k _ _ (Ah hr _) ?_⟩
 have e:=Do (K:=K) (H:=H) (t:=p.num * (q.den:Int) - q.num * (p.den:Int)) (b:=(p.den:Int) * (q.den:Int)) (p:=r) (Hj p q);rw [Fr.cZ] at e;exact e
theorem JN (T:Txt K mg ad):CalB P w K mg base true 3 "product_of" ["one","other"] (PR K (Ky λ p q=>p * q)):=by
 have Il:=Pr (P:=P) (w:=w) (base:=base) T;refine T.Um.calN rJ (λ _ _ _ _ _ _=>Bs λ _ _=>rfl) (λ vs H Q E h=>?_) (λ f cdv A outer s H vs Q E hr h=>?_)
 ·obtain ⟨_,_,dv,⟨_,_,rfl,_⟩,_⟩:=h;exact dv.len
 obtain ⟨_,_,dv,⟨p,q,rfl,sp,sq,rfl⟩,k⟩:=h;obtain ⟨_,_,rfl,hx,hy⟩:=dv.two;obtain ⟨a,rfl,ha⟩:=hx.fr;obtain ⟨b,rfl,hb⟩:=hy.fr;refine ⟨_,(Ao (Az (Aj Il (hr.mono (by decide)) Ai (Bu (Ay Dd (Ag Am (pv 0) Ac (λ _ _=>rfl)) (Ag Am (pv 1) Ac (λ _ _=>rfl))) (Bu (Ay Dd (Ag Am (pv 0) Ac (λ _ _=>rfl)) (Ag Am (pv 1) Ac (λ _ _=>rfl))) Ab))))),?_⟩
 refine ⟨_,rfl,a,_,_,_,rfl,rfl,ha,rfl,_,rfl,b,_,_,_,rfl,rfl,hb,rfl,_,_,rfl,rfl,Ds sp.n sq.n,?_⟩;refine ⟨_,rfl,a,_,_,_,rfl,rfl,ha,rfl,_,rfl,b,_,_,_,rfl,rfl,hb,rfl,_,_,rfl,rfl,Ds sp.dn sq.dn,?_⟩;refine ⟨_,_,rfl,Hj p q,Je sp.dn sq.dn,λ r hr=>k _ _ (Ah hr _) ?_⟩
 have e:=Do (K:=K) (H:=H) (t:=p.num * q.num) (b:=(p.den:Int) * (q.den:Int)) (p:=r) (Hj p q);rw [Fr.VF] at e;exact e
theorem XH (T:Txt K mg ad):CalB P w K mg base true 3 "quotient_of" ["one","other"] (PR K dh):=by
 have Il:=Pr (P:=P) (w:=w) (base:=base) T;refine T.Rv.calN wX (λ _ _ _ _ _ _=>Bs λ _ _=>rfl) (λ vs H Q E h=>?_) (λ f cdv A outer s H vs Q E hr h=>?_)
 ·obtain ⟨_,_,dv,⟨_,_,rfl,_⟩,_⟩:=h;exact dv.len
 obtain ⟨_,_,dv,⟨p,q,rfl,sp,sq,q0,rfl⟩,k⟩:=h;obtain ⟨_,_,rfl,hx,hy⟩:=dv.two;obtain ⟨a,rfl,ha⟩:=hx.fr;obtain ⟨b,rfl,hb⟩:=hy.fr;refine ⟨_,(Ao (Az (Aj Il (hr.mono (by decide)) Ai (Bu (Ay Dd (Ag Am (pv 0) Ac (λ _ _=>rfl)) (Ag Am (pv 1) Ac (λ _ _=>rfl))) (Bu (Ay Dd (Ag Am (pv 0) Ac (λ _ _=>rfl)) (Ag Am (pv 1) Ac (λ _ _=>rfl))) Ab))))),?_⟩
 refine ⟨_,rfl,a,_,_,_,rfl,rfl,ha,rfl,_,rfl,b,_,_,_,rfl,rfl,hb,rfl,_,_,rfl,rfl,Ds sp.n sq.dn,?_⟩;refine ⟨_,rfl,a,_,_,_,rfl,rfl,ha,rfl,_,rfl,b,_,_,_,rfl,rfl,hb,rfl,_,_,rfl,rfl,Ds sp.dn sq.n,?_⟩;have n0:q.num≠0:=λ e=>q0 (Fr.Yu q |>.mp e)
 have m0:(p.den:Int) * q.num≠0:=Int.mul_ne_zero (Va p) n0;refine ⟨_,_,rfl,m0,Je sp.dn sq.n,λ r hr=>k _ _ (Ah hr _) ?_⟩
 have e:=Do (K:=K) (H:=H) (t:=p.num * (q.den:Int)) (b:=(p.den:Int) * q.num) (p:=r) m0;rw [Fr.dH] at e;exact e
theorem Gq (T:Txt K mg ad):CalB P w K mg base true 1 "is_less" ["one","other"] (PR K tU):=by
 refine T.WN.calN qX (λ _ _ _ _ _ _=>Bs λ _ _=>rfl) (λ vs H Q E h=>?_) (λ f cdv A outer s H vs Q E hr h=>?_)
 ·obtain ⟨_,_,dv,⟨_,_,rfl,_⟩,_⟩:=h;exact dv.len
 obtain ⟨_,_,dv,⟨p,q,rfl,sp,sq,rfl⟩,k⟩:=h;obtain ⟨_,_,rfl,hx,hy⟩:=dv.two;obtain ⟨a,rfl,ha⟩:=hx.fr;obtain ⟨b,rfl,hb⟩:=hy.fr;refine ⟨_,(Ao (Az (Eg JM (Ay Dd (Ag Am (pv 0) Ac (λ _ _=>rfl)) (Ag Am (pv 1) Ac (λ _ _=>rfl))) (Ay Dd (Ag Am (pv 1) Ac (λ _ _=>rfl)) (Ag Am (pv 0) Ac (λ _ _=>rfl))) (nomark _)))),?_⟩
 refine ⟨_,rfl,a,_,_,_,rfl,rfl,ha,rfl,_,rfl,b,_,_,_,rfl,rfl,hb,rfl,_,_,rfl,rfl,Ds sp.n sq.dn,?_⟩;refine ⟨_,rfl,b,_,_,_,rfl,rfl,hb,rfl,_,rfl,a,_,_,_,rfl,rfl,ha,rfl,_,_,rfl,rfl,Ds sq.n sp.dn,_,_,rfl,rfl,?_⟩;have e:decide (p.num * (q.den:Int) < q.num * (p.den:Int))=decide (p < q):=decide_eq_decide.mpr (Fr.uL p q);show Q (.bl (decide (p.num * (q.den:Int) < q.num * (p.den:Int)))) H;rw [e];exact k _ _ (Same.refl _) (.bl _)
end
end K84
namespace K84
open PySem L2 Lib Fr Op
seal PE PT PW PA PS PSs PG PGs PI PO CZ
section
variable {P:Program}{w:World}{K:FrG}{mg:Str->Option Value}{base:Heap}{ad:Adr}{c:Bool}
theorem X4 (T:Txt K mg ad):MkC P w K mg base 1 "Gap" ad.Gap ["self","length"] (X7 ad.Gap "length"):=by
 refine T.ex.i_Gap.mkc m6 (λ _ _ _ _ _ _=>Bs λ _ _=>rfl) (λ vs H Q E h=>?_) (λ f cdv A outer s H vs Q E hr h=>?_)
 ·obtain ⟨a,dx,x,rfl,_⟩:=h;rfl
 obtain ⟨a,dx,x,rfl,ha,q⟩:=h;refine ⟨_,(Ao (KJ (pv 0) (pv 1))),?_⟩;exact ⟨_,rfl,_,rfl,a,ad.Gap,dx,[],rfl,ha,T.ex.l_Gap,T.ex.n_Gap_length,by decide,q⟩
theorem jL (T:Txt K mg ad):MkC P w K mg base 1 "Glass" ad.Glass ["self","strength"] (X7 ad.Glass "strength"):=by
 refine T.ex.i_Glass.mkc vK (λ _ _ _ _ _ _=>Bs λ _ _=>rfl) (λ vs H Q E h=>?_) (λ f cdv A outer s H vs Q E hr h=>?_)
 ·obtain ⟨a,dx,x,rfl,_⟩:=h;rfl
 obtain ⟨a,dx,x,rfl,ha,q⟩:=h;refine ⟨_,(Ao (KJ (pv 0) (pv 1))),?_⟩;exact ⟨_,rfl,_,rfl,a,ad.Glass,dx,[],rfl,ha,T.ex.l_Glass,T.ex.n_Glass_strength,by decide,q⟩
theorem qp (T:Txt K mg ad):MkC P w K mg base 1 "Stop" ad.Stop ["self","low","high"] (pU ad.Stop "low" "high"):=by
 refine T.ex.i_Stop.mkc pN (λ _ _ _ _ _ _=>Ij λ _ _ _=>rfl) (λ vs H Q E h=>?_) (λ f cdv A outer s H vs Q E hr h=>?_)
 ·obtain ⟨a,dx,x,y,rfl,_⟩:=h;rfl
 obtain ⟨a,dx,x,y,rfl,ha,q⟩:=h;refine ⟨_,(Al (KJ (pv 0) (pv 1)) (Ao (KJ (pv 0) (pv 2)))),?_⟩;refine ⟨_,rfl,_,rfl,a,ad.Stop,dx,[],rfl,ha,T.ex.l_Stop,T.ex.n_Stop_low,by decide,?_⟩
 refine ⟨_,rfl,_,rfl,a,ad.Stop,dx,_,rfl,Aq,T.ex.l_Stop,T.ex.n_Stop_high,(by show 1 < 1000;decide),?_⟩
 rw [Ik];exact q
theorem o6 (T:Txt K mg ad):MC P w K mg base 4 ad.Gap "lets" ["self","ray"] aW:=by
 refine T.ex.q_Gap_lets.mc bW (λ _ _ _ _ _ _=>Bs λ _ _=>rfl) (λ vs H Q E h=>?_) (λ f cdv A outer s H vs Q E hr h=>?_)
 ·obtain ⟨x,y,rfl,_⟩:=h;rfl
 obtain ⟨x,y,rfl,q⟩:=h;exact ⟨_,(Ao (Az DN)),q⟩
theorem rH (T:Txt K mg ad):MC P w K mg base 4 ad.Glass "lets" ["self","ray"] aW:=by
 refine T.ex.q_Glass_lets.mc bW (λ _ _ _ _ _ _=>Bs λ _ _=>rfl) (λ vs H Q E h=>?_) (λ f cdv A outer s H vs Q E hr h=>?_)
 ·obtain ⟨x,y,rfl,_⟩:=h;rfl
 obtain ⟨x,y,rfl,q⟩:=h;exact ⟨_,(Ao (Az DN)),q⟩
theorem mj (T:Txt K mg ad):MC P w K mg base 4 ad.Stop "lets" ["self","ray"] (RM K ad.Gap ad.Glass ad.Stop (λ p r=>.bool (p.lets r)) isStop):=by
 have Cv:=Gq (P:=P) (w:=w) (base:=base) T;refine T.ex.q_Stop_lets.mc oE (λ _ _ _ _ _ _=>Bs λ _ _=>rfl) (λ vs H Q E h=>?_) (λ f cdv A outer s H vs Q E hr h=>?_)
 ·obtain ⟨_,_,_,_,_,_,rfl,_⟩:=h;rfl
 obtain ⟨o,y,p,r,n,m,rfl,hc,ho,hy,rb,pb,hnm,k⟩:=h;cases ho with
 | gap _ _=>exact hc.elim
 | glass _ _=>exact hc.elim
 | @stop a dx x1 x2 lo hi ha h1 h2=>
  obtain ⟨ra,y1,y2,rfl,hra,hy1,hy2⟩:=hy.t2;refine ⟨_,(Ao (Az (Ed (GQ (Aj Cv (hr.mono (by decide)) Ai (Ar (Ag Am (pv 1) Ac (λ _ _=>rfl)) (Dn (Gg (pv 0)) Ab)))) (Em (GQ (Aj Cv (hr.mono (by decide)) Ai (Dn (Gg (pv 0)) (Ar (Ag Am (pv 1) Ac (λ _ _=>rfl)) Ab)))))))),?_⟩
  refine ⟨_,rfl,ra,_,_,_,rfl,rfl,hra,rfl,_,rfl,a,_,_,_,_,rfl,ha,T.ex.l_Stop,T.ex.n_Stop_low,rfl,?_⟩;refine ⟨_,_,.cons hy1 (.cons h1 .nil),⟨_,_,rfl,rb.y.sm (Jp hnm),pb.1.sm (N7 hnm),rfl⟩,λ v H1 s1 hv=>?_⟩
  obtain rfl:=hv.bl_of;refine ⟨_,rfl,_,rfl,?_⟩;cases c1:decide (r.1 < lo) with
  | true=>
   refine iteF ?_;refine k _ _ s1 ?_;have e:(Pc.stop lo hi).lets r=false:=by show (!decide (r.1 < lo) && _)=false;rw [c1];rfl
   show DV K _ _ (.bool ((Pc.stop lo hi).lets r));rw [e];exact .bl _
  | false=>
   refine iteT ?_;refine ⟨_,rfl,a,_,_,_,_,rfl,s1 _ _ ha,T.ex.l_Stop,T.ex.n_Stop_high,rfl,_,rfl,ra,_,_,_,rfl,rfl,hra.keep s1,rfl,?_⟩;refine ⟨_,_,.cons (h2.keep s1) (.cons (hy1.keep s1) .nil),⟨_,_,rfl,pb.2.sm (N7 hnm),rb.y.sm (Jp hnm),rfl⟩,λ v H2 s2 hv=>?_⟩
   obtain rfl:=hv.bl_of;refine ⟨_,rfl,?_⟩;refine k _ _ (s1.trans s2) ?_;have e:(Pc.stop lo hi).lets r=!decide (hi < r.1):=by show (!decide (r.1 < lo) && _)=_;rw [c1];rfl
   show DV K _ _ (.bool ((Pc.stop lo hi).lets r));rw [e];exact .bl _
theorem qN (T:Txt K mg ad):MC P w K mg base 4 ad.Stop "bent" ["self","ray"] nG:=by
 refine T.ex.q_Stop_bent.mc iQ (λ _ _ _ _ _ _=>Bs λ _ _=>rfl) (λ vs H Q E h=>?_) (λ f cdv A outer s H vs Q E hr h=>?_)
 ·obtain ⟨x,y,rfl,_⟩:=h;rfl
 obtain ⟨x,y,rfl,q⟩:=h;exact ⟨_,(Ao (Az (pv 1))),_,rfl,q⟩
theorem Rt (T:Txt K mg ad):MC P w K mg base 4 ad.Gap "bent" ["self","ray"] (RM K ad.Gap ad.Glass ad.Stop (λ p r=>Ax (p.bent r)) mR):=by
 have FW:=Ka (P:=P) (w:=w) (base:=base) T;have DP:=JN (P:=P) (w:=w) (base:=base) T;refine T.ex.q_Gap_bent.mc jm (λ _ _ _ _ _ _=>Bs λ _ _=>rfl) (λ vs H Q E h=>?_) (λ f cdv A outer s H vs Q E hr h=>?_)
 ·obtain ⟨_,_,_,_,_,_,rfl,_⟩:=h;rfl
 obtain ⟨o,y,p,r,n,m,rfl,hc,ho,hy,rb,pb,hnm,k⟩:=h;cases ho with
 | glass _ _=>exact hc.elim
 | stop _ _ _=>exact hc.elim
 | @gap a dx x1 d ha h1=>
  have pb:Bd m d:=pb;obtain ⟨ra,y1,y2,rfl,hra,hy1,hy2⟩:=hy.t2;refine ⟨_,(Ao (Az (BK (BX (Aj FW (hr.mono (by decide)) Ai (Ar (Ag Am (pv 1) Ac (λ _ _=>rfl)) (BX (Aj DP (hr.mono (by decide)) Ai (Dn (Gg (pv 0)) (Ar (Ag Am (pv 1) Ac (λ _ _=>rfl)) Ab))) Ab))) (Ar (Ag Am (pv 1) Ac (λ _ _=>rfl)) Ab))))),?_⟩
  refine ⟨_,rfl,ra,_,_,_,rfl,rfl,hra,rfl,?_⟩;refine ⟨_,rfl,a,_,_,_,_,rfl,ha,T.ex.l_Gap,T.ex.n_Gap_length,rfl,_,rfl,ra,_,_,_,rfl,rfl,hra,rfl,?_⟩;refine ⟨_,_,.cons h1 (.cons hy2 .nil),⟨_,_,rfl,pb.sm (N7 hnm),rb.u.sm (Jp hnm),rfl⟩,λ v H1 s1 hv=>?_⟩
  refine ⟨_,_,.cons (hy1.keep s1) (.cons hv .nil),⟨_,_,rfl,rb.y.sm (Jp hnm),(pb.mul rb.u).sm (Xl hnm),rfl⟩,λ v2 H2 s2 hv2=>?_⟩
  refine ⟨_,rfl,ra,_,_,_,rfl,rfl,hra.keep (s1.trans s2),rfl,(by show 2<=sizeLine;decide),λ t ht=>?_⟩
  exact k _ _ ((s1.trans s2).trans (Ah ht _)) (DV.upd2 ht hv2 (hy2.keep (s1.trans s2)))
theorem qi (T:Txt K mg ad):MC P w K mg base 4 ad.Glass "bent" ["self","ray"] (RM K ad.Gap ad.Glass ad.Stop (λ p r=>Ax (p.bent r)) uO):=by
 have Dh:=Kz (P:=P) (w:=w) (base:=base) T;have DP:=JN (P:=P) (w:=w) (base:=base) T;refine T.ex.q_Glass_bent.mc sX (λ _ _ _ _ _ _=>Bs λ _ _=>rfl) (λ vs H Q E h=>?_) (λ f cdv A outer s H vs Q E hr h=>?_)
 ·obtain ⟨_,_,_,_,_,_,rfl,_⟩:=h;rfl
 obtain ⟨o,y,p,r,n,m,rfl,hc,ho,hy,rb,pb,hnm,k⟩:=h;cases ho with
 | gap _ _=>exact hc.elim
 | stop _ _ _=>exact hc.elim
 | @glass a dx x1 d ha h1=>
  have pb:Bd m d:=pb;obtain ⟨ra,y1,y2,rfl,hra,hy1,hy2⟩:=hy.t2;refine ⟨_,(Ao (Az (BK (Ar (Ag Am (pv 1) Ac (λ _ _=>rfl)) (BX (Aj Dh (hr.mono (by decide)) Ai (Ar (Ag Am (pv 1) Ac (λ _ _=>rfl)) (BX (Aj DP (hr.mono (by decide)) Ai (Dn (Gg (pv 0)) (Ar (Ag Am (pv 1) Ac (λ _ _=>rfl)) Ab))) Ab))) Ab))))),?_⟩
  refine ⟨_,rfl,ra,_,_,_,rfl,rfl,hra,rfl,?_⟩;refine ⟨_,rfl,ra,_,_,_,rfl,rfl,hra,rfl,?_⟩;refine ⟨_,rfl,a,_,_,_,_,rfl,ha,T.ex.l_Glass,T.ex.n_Glass_strength,rfl,_,rfl,ra,_,_,_,rfl,rfl,hra,rfl,?_⟩;refine ⟨_,_,.cons h1 (.cons hy1 .nil),⟨_,_,rfl,pb.sm (N7 hnm),rb.y.sm (Jp hnm),rfl⟩,λ v H1 s1 hv=>?_⟩
  refine ⟨_,_,.cons (hy2.keep s1) (.cons hv .nil),⟨_,_,rfl,rb.u.sm (Jp hnm),(pb.mul rb.y).sm (Xl hnm),rfl⟩,λ v2 H2 s2 hv2=>?_⟩
  refine ⟨(by show 2<=sizeLine;decide),λ t ht=>?_⟩
  exact k _ _ ((s1.trans s2).trans (Ah ht _)) (DV.upd2 ht (hy1.keep (s1.trans s2)) hv2)
theorem jw (T:Txt K mg ad){H:Hp}{v y:V}{p:Pc}{r:Aa}{n m:Nat}(h:ObAt K ad.Gap ad.Glass ad.Stop H v p)(hy:DV K H y (Ax r))(rb:RB n r)(pb:p.bd m)(hnm:n+m<=3900):
  ∃(a C dx:Addr) (fs:List (Str×V)) (ps:List Str) (sp:Sp),v=.ref a/\H a=some (.ins C dx fs)/\fs.lookup ("lets":Str)=none/\MC P w K mg base 4 C "lets" ps sp/\∀Q:VK,(∀H',Same H H'->Q (.bl (p.lets r)) H')->sp [v,y] H Q E0:=by
 cases id h with
 | gap ha hx=>exact ⟨_,_,_,_,_,_,rfl,ha,rfl,o6 T,λ Q k=>⟨_,_,rfl,k _ (Same.refl _)⟩⟩
 | glass ha hx=>exact ⟨_,_,_,_,_,_,rfl,ha,rfl,rH T,λ Q k=>⟨_,_,rfl,k _ (Same.refl _)⟩⟩
 | stop ha hx hz=>exact ⟨_,_,_,_,_,_,rfl,ha,rfl,mj T,λ Q k=>⟨_,_,.stop _ _,r,n,m,rfl,trivial,h,hy,rb,pb,hnm,λ v H' s' hv=>by obtain rfl:=hv.bl_of;exact k _ s'⟩⟩
theorem Gu (T:Txt K mg ad){H:Hp}{v y:V}{p:Pc}{r:Aa}{n m:Nat}(h:ObAt K ad.Gap ad.Glass ad.Stop H v p)(hy:DV K H y (Ax r))(rb:RB n r)(pb:p.bd m)(hnm:n+m<=3900):
  ∃(a C dx:Addr) (fs:List (Str×V)) (ps:List Str) (sp:Sp),v=.ref a/\H a=some (.ins C dx fs)/\fs.lookup ("bent":Str)=none/\MC P w K mg base 4 C "bent" ps sp/\∀Q:VK,(∀v H',Same H H'->DV K H' v (Ax (p.bent r))->Q v H')->sp [v,y] H Q E0:=by
 cases id h with
 | gap ha hx=>exact ⟨_,_,_,_,_,_,rfl,ha,rfl,Rt T,λ Q k=>⟨_,_,.gap _,r,n,m,rfl,trivial,h,hy,rb,pb,hnm,k⟩⟩
 | glass ha hx=>exact ⟨_,_,_,_,_,_,rfl,ha,rfl,qi T,λ Q k=>⟨_,_,.glass _,r,n,m,rfl,trivial,h,hy,rb,pb,hnm,k⟩⟩
 | stop ha hx hz=>exact ⟨_,_,_,_,_,_,rfl,ha,rfl,qN T,λ Q k=>⟨_,_,rfl,k _ _ (Same.refl _) hy⟩⟩
theorem V4 (T:Txt K mg ad):CalB P w K mg base true 3 "piece_of" ["told"] (oW K ad.Gap ad.Glass ad.Stop):=by
 have Nf:=X4 (P:=P) (w:=w) (base:=base) T;have uG:=jL (P:=P) (w:=w) (base:=base) T;have sO:=qp (P:=P) (w:=w) (base:=base) T;refine T.Wd.calN xK (λ _ _ _ _ _ _=>by1 λ _=>rfl) (λ vs H Q E h=>?_) (λ f cdv A outer s H vs Q E hr h=>?_)
 ·obtain ⟨v,p,rfl,_⟩:=h;rfl
 obtain ⟨v,p,rfl,hv,q⟩:=h;refine ⟨_,(Al (Be (Bo DX (Ag Am (pv 0) Ac (λ _ _=>rfl)) (CJ (v:=.str "gap") rfl T.ex.m_GAP ⟨_,rfl⟩) (nomark _)) (Ao (Az (Jw Nf (hr.mono (by decide)) (Ar (Ag Am (pv 0) Ac (λ _ _=>rfl)) Ab)))) Bj) (Al (Be (Bo DX (Ag Am (pv 0) Ac (λ _ _=>rfl)) (CJ (v:=.str "glass") rfl T.ex.m_GLASS ⟨_,rfl⟩) (nomark _)) (Ao (Az (Jw uG (hr.mono (by decide)) (Ar (Ag Am (pv 0) Ac (λ _ _=>rfl)) Ab)))) Bj) (Ao (Az (Jw sO (hr.mono (by decide)) (Ar (Ag Am (pv 0) Ac (λ _ _=>rfl)) (Ar (Ag Am (pv 0) Ac (λ _ _=>rfl)) Ab))))))),?_⟩
 cases p with
 | gap d=>
  obtain ⟨a,x,y,rfl,ha,hx,hy⟩:=DV.t2 hv;obtain rfl:=hx.str_of;refine ⟨_,rfl,a,_,_,_,rfl,rfl,ha,rfl,rfl,_,rfl,Bt (by decide) ?_⟩
  refine ⟨_,rfl,a,_,_,_,rfl,rfl,ha,rfl,λ o dx ho hdx hne=>⟨o,dx,y,rfl,Aq,rfl,?_⟩⟩
  have s1:Same H (upd H dx (.own o)):=Ah hdx _;have ho':upd H dx (.own o) o=none:=by rw [Av (Ne.symm hne)];exact ho
  have s2:=s1.trans (Ah ho' (.ins ad.Gap dx [("length",y)]));rw [Ik];exact q _ _ s2 (.gap Aq (hy.keep s2))
 | glass d=>
  obtain ⟨a,x,y,rfl,ha,hx,hy⟩:=DV.t2 hv;obtain rfl:=hx.str_of;refine ⟨_,rfl,a,_,_,_,rfl,rfl,ha,rfl,rfl,_,rfl,Bf (by decide) ?_⟩
  refine ⟨_,rfl,a,_,_,_,rfl,rfl,ha,rfl,rfl,_,rfl,Bt (by decide) ?_⟩
  refine ⟨_,rfl,a,_,_,_,rfl,rfl,ha,rfl,λ o dx ho hdx hne=>⟨o,dx,y,rfl,Aq,rfl,?_⟩⟩
  have s1:Same H (upd H dx (.own o)):=Ah hdx _;have ho':upd H dx (.own o) o=none:=by rw [Av (Ne.symm hne)];exact ho
  have s2:=s1.trans (Ah ho' (.ins ad.Glass dx [("strength",y)]));rw [Ik];exact q _ _ s2 (.glass Aq (hy.keep s2))
 | stop lo hi=>
  obtain ⟨a,x,y,z,rfl,ha,hx,hy,hz⟩:=DV.t3 hv;obtain rfl:=hx.str_of;refine ⟨_,rfl,a,_,_,_,rfl,rfl,ha,rfl,rfl,_,rfl,Bf (by decide) ?_⟩
  refine ⟨_,rfl,a,_,_,_,rfl,rfl,ha,rfl,rfl,_,rfl,Bf (by decide) ?_⟩
  refine ⟨_,rfl,a,_,_,_,rfl,rfl,ha,rfl,_,rfl,a,_,_,_,rfl,rfl,ha,rfl,λ o dx ho hdx hne=>⟨o,dx,y,z,rfl,Aq,rfl,?_⟩⟩
  have s1:Same H (upd H dx (.own o)):=Ah hdx _;have ho':upd H dx (.own o) o=none:=by rw [Av (Ne.symm hne)];exact ho
  have s2:=s1.trans (Ah ho' (.ins ad.Stop dx [("low",y),("high",z)]));rw [Ik];exact q _ _ s2 (.stop Aq (hy.keep s2) (hz.keep s2))
theorem Zz (T:Txt K mg ad):CalB P w K mg base true 3 "is_piece" ["thing"] (iY K):=by
 have Jy:=Vs (P:=P) (w:=w) (base:=base) T;have Cv:=Gq (P:=P) (w:=w) (base:=base) T;refine T.SN.calN mX (λ _ _ _ _ _ _=>by1 λ _=>rfl) (λ vs H Q E h=>?_) (λ f cdv A outer s H vs Q E hr h=>?_)
 ·obtain ⟨_,_,_,rfl,_⟩:=h;rfl
 obtain ⟨v,pc,m,rfl,hv,ok,pb,hm,q⟩:=h;obtain ⟨z,es,ee,sh⟩:=pW ok pb;rw [ee] at hv;obtain ⟨a,xs,rfl,ha,hds⟩:=hv.tup_of;obtain ⟨x0,xr,rfl,h0,hr'⟩:=hds.cons_of;obtain rfl:=h0.str_of;have hl:=hr'.len;rw [List.length_map] at hl;have hl2:=sh.len;obtain ⟨tR,hR,kR⟩:∃t,PSs (Dy true P w K mg base ["thing"] "is_piece" (defScope Ln) f cdv A outer s H E).nox ((defBody Ln).drop 2) t/\∀(D:Ends) (H2:Hp),Same H H2->(∀H',Same H H'->D.rt (.bl true) H')->t D [some (.ref a)] H2:=by
  refine ⟨_,(Al (Be (Bo DX (Ag Am (pv 0) Ac (λ _ _=>rfl)) (CJ (v:=.str "stop") rfl T.ex.m_STOP ⟨_,rfl⟩) (nomark _)) (Ao (Az (Ed (Eg DX (CP Ea rfl T.len Dq (Ad (pv 0) Ab)) Ac (nomark _)) (Em (GQ (Aj Cv (hr.mono (by decide)) Ai (Ar (Ag Am (pv 0) Ac (λ _ _=>rfl)) (Ar (Ag Am (pv 0) Ac (λ _ _=>rfl)) Ab)))))))) Bj) (Ao (Az (Ed (Eg uH (Ag Am (pv 0) Ac (λ _ _=>rfl)) (BK (Ad (CJ (v:=.str "gap") rfl T.ex.m_GAP ⟨_,rfl⟩) (Ad (CJ (v:=.str "glass") rfl T.ex.m_GLASS ⟨_,rfl⟩) Ab))) (by rfl)) (Em (Eg DX (CP Ea rfl T.len Dq (Ad (pv 0) Ab)) Ac (nomark _))))))),?_⟩
  intro D H2 t2 q;refine ⟨_,rfl,a,_,_,_,rfl,rfl,ha.keep t2,CQ,rfl,_,rfl,?_⟩;rw [Ey];cases sh with
  | stop nlt blo bhi=>
   obtain ⟨x1,x2,rfl,h1,h2⟩:=hr'.two;refine Bt (by decide) ?_
   refine ⟨_,rfl,a,_,rfl,.inr (ha.keep t2),rfl,_,rfl,iteT ?_⟩;refine ⟨_,rfl,a,_,_,_,rfl,rfl,ha.keep t2,rfl,_,rfl,a,_,_,_,rfl,rfl,ha.keep t2,rfl,?_⟩;refine ⟨_,_,.cons (h2.keep t2) (.cons (h1.keep t2) .nil),⟨_,_,rfl,bhi.sm hm,blo.sm hm,rfl⟩,λ v H3 s3 hv=>?_⟩
   obtain rfl:=hv.bl_of;refine ⟨_,rfl,?_⟩;rw [decide_eq_false nlt];exact q _ (t2.trans s3)
  | one e1 e2=>
   refine Bf e1 ?_;refine ⟨_,rfl,a,_,_,_,rfl,rfl,ha.keep t2,CQ,(by show 2<=sizeLine;decide),λ p3 hp3=>?_⟩
   have t3:=t2.trans (Ah hp3 (.tup [.str "gap",.str "glass"]));refine ⟨p3,_,rfl,.inr (SqT.of Aq),rfl,rfl,_,rfl,Bt ((iK z).trans e2) ?_⟩;refine ⟨_,rfl,a,_,rfl,.inr (ha.keep t3),rfl,?_⟩;have el2:xr.length=1:=hl;show D.rt (.bl (decide (V.int ((xr.length+1:Nat):Int)=V.int 2))) _;rw [el2];exact q _ t3
 refine ⟨_,(Al (Be (PW.pt (pw_or (Cd (By (CP Gj rfl T.isinstance GF (Ad (pv 0) (Ad (GD (v:=.ty "tuple") rfl T.tuple Ox rfl) Ab))))) (pw_or (Bo JM (CP Ea rfl T.len Dq (Ad (pv 0) Ab)) Ac (nomark _)) (pw_or1 (Cd (By (CP Gj rfl T.isinstance GF (Ar (Ag Am (pv 0) Ac (λ _ _=>rfl)) (Ad (GD (v:=.ty "str") rfl T.str Mh rfl) Ab))))))))) (Ao (Az DN)) Bj) (Al (Be (Cd (By (CP (Xp rfl) rfl T.all ZD (Dn (Kl ["part"] [none] rfl (Ro (JS aN (pv 0) (Ho Ac) K9)) (λ _ _ _ _ _=>(Bq (i:=0) (show List.Nodup [("part":Str)] by decide) rfl (by first | exact Or.inl rfl | exact Or.inr rfl))) (λ _ _ _ _ _=>Gy) (λ _ _ _ _ _=>(Aj Jy (hr.mono (by decide)) Ai (Ad (pv 0) Ab))) (Oo (by decide) (by decide)) (by decide) rfl (by decide) rfl (Mz rfl)) Ab)))) (Ao (Az DN)) Bj) hR)),?_⟩
 refine ⟨_,rfl,_,_,_,_,rfl,hv,Wa _,_,rfl,iteF ?_⟩;refine ⟨_,rfl,a,_,rfl,.inr ha,_,_,rfl,rfl,_,rfl,Bf (decide_eq_false (by simp only [List.length_cons];omega)) ?_⟩
 refine ⟨_,rfl,a,_,_,_,rfl,rfl,ha,CQ,_,_,_,_,rfl,h0,Td _,_,rfl,iteF ?_⟩;refine ⟨_,rfl,_,rfl,a,_,rfl,ha,(λ e=>by rw [Uu] at e;simp only [List.length_cons] at e;omega),λ p hp=>⟨p,rfl,⟨_,SqT.of Aq⟩,?_⟩⟩
 rw [Z0];have u1:=Ah hp (.tup ((V.str z::xr).drop 1));have hparts:=hr'.keep u1;have hp':upd H p (.tup ((V.str z::xr).drop 1)) p=some (.tup xr):=Aq;generalize upd H p (.tup ((V.str z::xr).drop 1))=H1 at u1 hparts hp' ⊢;refine Wn (K:=K) (a:=p) (xs:=xr) (λ i σ ys H'=>∃c0,σ=[c0]/\ys=List.replicate i (V.bl true)/\Same H1 H') ⟨_,rfl,rfl,Same.refl _⟩ ?_ ?_ ?_
 ·rintro i σ ys H' hi ⟨c0,rfl,rfl,s'⟩
  refine ⟨?_,SqT.of (s' _ _ hp')⟩;have z2:=small1000 (n:=1000) (by decide)
  rw [List.length_replicate];omega
 ·rintro i x σ ys H' hi ⟨c0,rfl,rfl,s'⟩
  obtain ⟨dx,hdx,hx⟩:=hparts.get hi;obtain ⟨q0,rfl⟩:=vm hdx;exact ⟨_,rfl,_,q0,rfl,hx.keep s',nx (Cq hi) ⟨_,rfl,List.replicate_succ'.symm,s'⟩⟩
 ·rintro σ ys H' p2 ⟨c0,rfl,rfl,s'⟩ hp2
  have u2:=Ah hp2 (.lst (List.replicate xr.length (V.bl true)));refine ⟨p2,List.replicate xr.length true,rfl,SqL.of (by rw [rG];exact Aq),_,rfl,?_⟩
  rw [oF];exact iteF (kR _ _ (u1.trans (s'.trans u2)) q)
theorem Nr (T:Txt K mg ad):CalB P w K mg base true 4 "look_at" ["bench"] (qg K):=by
 have WX:=Zz (P:=P) (w:=w) (base:=base) T;refine T.Ms.calN Nu (λ _ _ _ _ _ _=>by1 λ _=>rfl) (λ vs H Q E h=>?_) (λ f cdv A outer s H vs Q E hr h=>?_)
 ·obtain ⟨_,_,_,rfl,_⟩:=h;rfl
 obtain ⟨v,ps,m,rfl,hv,g,hm,q⟩:=h;obtain ⟨a,xs,rfl,ha,hxs⟩:=DV.lst_of hv;have hl:xs.length=ps.length:=by have:=hxs.len;rw [List.length_map] at this;exact this
 have gl:=g.len;refine ⟨_,(Al (Be (PW.pt (pw_or (Cd (By (CP Gj rfl T.isinstance GF (Ad (pv 0) (Ad (GD (v:=.ty "list") rfl T.list ZR rfl) Ab))))) (pw_or1 (Bo JQ (CP Ea rfl T.len Dq (Ad (pv 0) Ab)) (CJ (v:=.int 60) rfl T.ex.m_MOST_PIECES ⟨_,rfl⟩) (nomark _))))) (Ao Es) Bj) (Ao (DW PassesOwn.never rfl (Ig rfl T.enumerate (Ad (pv 0) Ab)) (HY (n:=2) rfl (Ci (Bq (i:=1) Nu.nd rfl (by first | exact Or.inl rfl | exact Or.inr rfl)) (Ci (Bq (i:=2) Nu.nd rfl (by first | exact Or.inl rfl | exact Or.inr rfl)) Eu))) (Ao (Be (Cd (By (Aj WX (hr.mono (by decide)) Ai (Ad (pv 2) Ab)))) (Ao Es) Bj))))),?_⟩
 refine ⟨_,rfl,_,_,_,_,rfl,hv,Yi _,_,rfl,?_⟩;refine iteF ?_;refine ⟨_,rfl,a,_,rfl,.inl ha,_,_,rfl,rfl,_,rfl,Bf (decide_eq_false (by omega)) ?_⟩
 refine ⟨_,rfl,a,rfl,⟨_,ha⟩,?_⟩;refine Jf (K:=K) (a:=a) (xs:=xs) (λ i σ H'=>∃c1 c2,σ=[some (.ref a),c1,c2]/\Same H H') ⟨_,_,rfl,Same.refl _⟩ ?_ ?_ ?_
 ·rintro i σ H' hi ⟨c1,c2,rfl,s1⟩
  exact ha.keep s1
 ·rintro i x σ H' p hi ⟨c1,c2,rfl,s1⟩ hp
  obtain ⟨d,hd,hx⟩:=hxs.get hi;obtain ⟨pc,hpc,rfl⟩:=Hr hd;have hmem:=List.mem_of_getElem? hpc;have s2:=s1.trans (Ah hp (.tup [.int i,x]));refine ⟨p,_,rfl,SqT.of Aq,rfl,_,_,rfl,_,_,rfl,rfl,?_⟩;exact ⟨_,rfl,_,_,_,rfl,hx.keep s2,g.ok _ hmem,g.bd _ hmem,hm,λ H3 s3=>⟨_,rfl,iteF ⟨_,_,rfl,s2.trans s3⟩⟩⟩
 ·rintro σ H' ⟨c1,c2,rfl,s1⟩
  exact q _ s1
theorem jg (T:Txt K mg ad):CalB P w K mg base true 5 "walk_of" ["bench","ray"] (vQ K):=by
 have Gw:=Nr (P:=P) (w:=w) (base:=base) T;have KZ:=V4 (P:=P) (w:=w) (base:=base) T;refine T.W9.calN Js (λ _ _ _ _ _ _=>Bs λ _ _=>rfl) (λ vs H Q E h=>?_) (λ f cdv A outer s H vs Q E hr h=>?_)
 ·obtain ⟨_,_,_,_,_,_,rfl,_⟩:=h;rfl
 obtain ⟨b,y,ps,r,n,m,rfl,hb,g,hy,rb,hnm,q⟩:=h;obtain ⟨a,xs,rfl,ha,hxs⟩:=DV.lst_of hb;have hl:xs.length=ps.length:=by have:=hxs.len;rw [List.length_map] at this;exact this
 have gl:=g.len;refine ⟨_,(Al (DR (Aj Gw (hr.mono (by decide)) Ai (Ad (pv 0) Ab))) (Al (Aw (i:=2) Js.nd rfl (Or.inl rfl) (Cg (Ad (pv 1) Ab))) (Al (DW PassesOwn.never rfl (Ig rfl T.enumerate (Ad (pv 0) Ab)) (HY (n:=2) rfl (Ci (Bq (i:=3) Js.nd rfl (by first | exact Or.inl rfl | exact Or.inr rfl)) (Ci (Bq (i:=4) Js.nd rfl (by first | exact Or.inl rfl | exact Or.inr rfl)) Eu))) (Al (Aw (i:=5) Js.nd rfl (Or.inl rfl) (Aj KZ (hr.mono (by decide)) Ai (Ad (pv 4) Ab))) (Al (Be (Cd (By (HS (k:=4) (pv 5) (hr.mono (by decide)) (Ad (pv 1) Ab)))) (Ao (Az (BK (Ad (pv 2) (Ad (pv 3) Ab))))) Bj) (Al (Aw (i:=1) Js.nd rfl (Or.inl rfl) (HS (k:=4) (pv 5) (hr.mono (by decide)) (Ad (pv 1) Ab))) (Ao (DR (Dc PySem.F.plainAttrs_list PySem.F.slot_list_append PySem.F.type_list_append Ft (pv 2) (Ad (pv 1) Ab)))))))) (Ao (Az (BK (Ad (pv 2) (BJ Ff Ab)))))))),?_⟩
 refine ⟨_,rfl,_,ps,m,rfl,hb,g,by omega,λ H1 s1=>?_⟩
 refine ⟨_,rfl,(by show 1<=sizeLine;decide),λ l hl1=>?_⟩
 have nl:H l=none:=s1.free hl1;have s2:=s1.trans (Ah hl1 (.lst [y]));refine ⟨_,rfl,a,rfl,⟨_,ha.keep s2⟩,?_⟩;refine Jf (K:=K) (a:=a) (xs:=xs) (λ i σ H'=>∃c1 c2 c3 v cur tr vs,σ=[some (.ref a),some v,some (.ref l),c1,c2,c3]/\Same H H'/\H' l=some (.lst vs)/\DVs K H' vs ((r::tr).map Ax)/\DV K H' v (Ax cur)/\At ps r i tr cur/\RB (n+i * (m+1)) cur/\tr.length<=i) ⟨_,_,_,y,r,[],[y],rfl,s2,Aq,.cons (hy.keep s2) .nil,hy.keep s2,uR ps r,by simpa using rb,Nat.le_refl _⟩ ?_ ?_ ?_
 ·rintro i σ H' hi ⟨c1,c2,c3,v,cur,tr,vs,rfl,s3,_⟩
  exact ha.keep s3
 ·rintro i x σ H' p hi ⟨c1,c2,c3,v,cur,tr,vs,rfl,s3,hlv,hvs,hv,hat,hrb,htr⟩ hp
  obtain ⟨d,hd,hx⟩:=hxs.get hi;obtain ⟨pc,hpc,rfl⟩:=Hr hd;have hmem:=List.mem_of_getElem? hpc;have hi':=Cq hpc;have up:=Ah hp (.tup [.int i,x]);have s4:=s3.trans up;have bi:=Zw hnm hi';refine ⟨p,_,rfl,SqT.of Aq,rfl,_,_,rfl,_,_,rfl,rfl,?_⟩;refine ⟨_,rfl,_,pc,rfl,hx.keep s4,λ o H5 s5 ho=>?_⟩
  have s45:=up.trans s5;obtain ⟨oa,C,dx,fs,pps,sp,e1,e2,e3,M,hsp⟩:=jw (P:=P) (w:=w) (base:=base) T ho (hv.keep s45) hrb (g.bd _ hmem) bi;refine ⟨_,rfl,oa,C,dx,fs,pps,sp,e1,e2,e3,M,_,rfl,hsp _ (λ H6 s6=>⟨_,rfl,?_⟩)⟩
  have s46:=s45.trans s6;have s7:=s3.trans s46;cases hlets:pc.lets cur with
  | false=>
   refine iteT ?_;refine ⟨_,rfl,_,rfl,(by show 2<=sizeLine;decide),λ t ht=>?_⟩
   have ut:=Ah ht (.tup [.ref l,.int (i:Int)]);have ew:=hat.stop hpc hlets;refine q t l vs (.int i) _ (s7.trans ut) nl ((s46.trans ut) _ _ hlv) Aq ?_ ?_
   ·rw [ew];exact hvs.keep (s46.trans ut)
   ·rw [ew];exact .int _
  | true=>
   refine iteF ?_;obtain ⟨oa,C,dx,fs,pps,sp,e1,e2,e3,M,hsp⟩:=Gu (P:=P) (w:=w) (base:=base) T (ho.keep s6) (hv.keep s46) hrb (g.bd _ hmem) bi;refine ⟨_,rfl,oa,C,dx,fs,pps,sp,e1,e2,e3,M,_,rfl,hsp _ (λ v2 H7 s7' hv2=>?_)⟩
   have s47:=s46.trans s7';have hl7:=s47 _ _ hlv;refine ⟨_,rfl,.inl ⟨rfl,_,SqL.of hl7⟩,_,rfl,l,vs,v2,rfl,rfl,hl7,xY hvs (by omega),?_⟩
   have uT:=Ej hl7 (.lst (vs++[v2]));refine ⟨_,_,_,v2,pc.bent cur,tr++[pc.bent cur],vs++[v2],rfl,?_,Aq,?_,?_,hat.step hpc hlets,?_,?_⟩
   ·intro b o e;rw [Av (Bm e nl)];exact (s3.trans s47) _ _ e
   ·rw [<- List.cons_append,List.map_append];exact DG uT (by rw [<- List.map_append];exact DY Eb _) ((hvs.keep s47).append (.cons hv2 .nil))
   ·exact Fq uT (Eb _) hv2
   ·have:=HN (g.bd _ hmem) hrb;exact Rb.mono this (yN _ _ _)
   ·exact yr htr
 ·rintro σ H' ⟨c1,c2,c3,v,cur,tr,vs,rfl,s3,hlv,hvs,hv,hat,hrb,htr⟩
  refine ⟨_,rfl,(by show 2<=sizeLine;decide),λ t ht=>?_⟩
  have ut:=Ah ht (.tup [.ref l,.non]);rw [hl] at hat;have ew:=hat.done;refine q t l vs .non _ (s3.trans ut) nl (ut _ _ hlv) Aq ?_ ?_
  ·rw [ew];exact hvs.keep ut
  ·rw [ew];exact .non
end
end K84
namespace K84
open PySem L2 Lib Fr Op
seal PE PT PW PA PS PSs PG PGs PI PO CZ
section
variable {P:Program}{w:World}{K:FrG}{mg:Str->Option Value}{base:Heap}{ad:Adr}{c:Bool}
theorem Tr (T:Txt K mg ad):CalB P w K mg base true 6 "goes_by" ["bench","ray"] (PR K xj):=by
 have gW:=jg (P:=P) (w:=w) (base:=base) T;refine T.Uo.calN uq (λ _ _ _ _ _ _=>Bs λ _ _=>rfl) (λ vs H Q E h=>?_) (λ f cdv A outer s H vs Q E hr h=>?_)
 ·obtain ⟨_,_,dv,⟨_,_,_,_,rfl,_⟩,_⟩:=h;exact dv.len
 obtain ⟨_,_,dv,⟨ps,r,n,m,rfl,g,rb,hnm,rfl⟩,k⟩:=h;obtain ⟨b,y,rfl,hb,hy⟩:=dv.two;refine ⟨_,(Ao (Az (Eg La (Ag Am (Aj gW (hr.mono (by decide)) Ai (Ad (pv 0) (Ad (pv 1) Ab))) Ac (λ _ _=>rfl)) Ff (nomark _)))),?_⟩
 refine ⟨_,rfl,_,rfl,b,y,ps,r,n,m,rfl,hb,g,hy,rb,hnm,λ t l rs at_ H1 s1 nl hl ht hrs hat=>?_⟩
 refine ⟨t,_,_,_,rfl,rfl,SqT.of ht,rfl,rfl,?_⟩;refine k _ _ s1 ?_;rw [<- qx hat];exact .bl _
end
end K84
namespace K84
open PySem L2 Lib Fr Op
seal PE PT PW PA PS PSs PG PGs PI PO CZ
section
variable {P:Program}{w:World}{K:FrG}{mg:Str->Option Value}{base:Heap}{ad:Adr}{c:Bool}
theorem dN (T:Txt K mg ad)(H:Hp):DV K H (.ref ad.NOUGHT) (Af 0):=.tup (T.ex.s_NOUGHT H) (.cons (.int 0) (.cons (.int 1) .nil))
theorem dO (T:Txt K mg ad)(H:Hp):DV K H (.ref ad.ONE) (Af 1):=.tup (T.ex.s_ONE H) (.cons (.int 1) (.cons (.int 1) .nil))
theorem gF (T:Txt K mg ad):CalB P w K mg base true 1 "table_of_rays" ["high","slanted"] (PR K yZ):=by
 refine T.UG.calN fJ (λ _ _ _ _ _ _=>Bs λ _ _=>rfl) (λ vs H Q E h=>?_) (λ f cdv A outer s H vs Q E hr h=>?_)
 ·obtain ⟨_,_,dv,⟨_,_,rfl,_⟩,_⟩:=h;exact dv.len
 obtain ⟨_,_,dv,⟨r,t,rfl,rfl⟩,k⟩:=h;obtain ⟨_,_,rfl,h1,h2⟩:=dv.two;obtain ⟨a,x1,x2,rfl,ha,hx1,hx2⟩:=DV.t2 h1;obtain ⟨b,y1,y2,rfl,hb,hy1,hy2⟩:=DV.t2 h2;refine ⟨_,(Ao (Az (BK (Ar (Ag Am (pv 0) Ac (λ _ _=>rfl)) (Ar (Ag Am (pv 1) Ac (λ _ _=>rfl)) (Ar (Ag Am (pv 0) Ac (λ _ _=>rfl)) (Ar (Ag Am (pv 1) Ac (λ _ _=>rfl)) Ab))))))),?_⟩
 refine ⟨_,rfl,a,_,_,_,rfl,rfl,ha,rfl,_,rfl,b,_,_,_,rfl,rfl,hb,rfl,_,rfl,a,_,_,_,rfl,rfl,ha,rfl,_,rfl,b,_,_,_,rfl,rfl,hb,rfl,(by show 4<=sizeLine;decide),λ p hp=>?_⟩
 exact k _ _ (Ah hp _) (DV.upd4 hp hx1 hy1 hx2 hy2)
theorem xQ (T:Txt K mg ad):CalB P w K mg base true 5 "table_of" ["bench"] (PR K kh):=by
 have Gw:=Nr (P:=P) (w:=w) (base:=base) T;have KZ:=V4 (P:=P) (w:=w) (base:=base) T;have kY:=gF (P:=P) (w:=w) (base:=base) T;refine T.VG.calN Im (λ _ _ _ _ _ _=>by1 λ _=>rfl) (λ vs H Q E h=>?_) (λ f cdv A outer s H vs Q E hr h=>?_)
 ·obtain ⟨_,_,dv,⟨_,_,rfl,_⟩,_⟩:=h;exact dv.len
 obtain ⟨_,_,dv,⟨ps,m,rfl,g,hnm,rfl⟩,k⟩:=h;obtain ⟨_,rfl,hb⟩:=dv.one;obtain ⟨a,xs,rfl,ha,hxs⟩:=DV.lst_of hb;have hl:xs.length=ps.length:=by have:=hxs.len;rw [List.length_map] at this;exact this
 have gl:=g.len;have r1:RB 2 e1:=⟨1,0,1,by decide,by decide,by decide,by decide,by decide+kernel,by decide+kernel⟩
 have r2:RB 2 e2:=⟨0,1,1,by decide,by decide,by decide,by decide,by decide+kernel,by decide+kernel⟩
 refine ⟨_,(Al (DR (Aj Gw (hr.mono (by decide)) Ai (Ad (pv 0) Ab))) (Al (Aw (i:=1) Im.nd rfl (Or.inl rfl) (BK (Ad (CJ (v:=.ref ad.ONE) rfl T.ex.m_ONE rfl) (Ad (CJ (v:=.ref ad.NOUGHT) rfl T.ex.m_NOUGHT rfl) Ab)))) (Al (Aw (i:=2) Im.nd rfl (Or.inl rfl) (BK (Ad (CJ (v:=.ref ad.NOUGHT) rfl T.ex.m_NOUGHT rfl) (Ad (CJ (v:=.ref ad.ONE) rfl T.ex.m_ONE rfl) Ab)))) (Al (DW PassesOwn.never rfl (Dw (pv 0)) (Bq (i:=3) Im.nd rfl (by first | exact Or.inl rfl | exact Or.inr rfl)) (Al (Aw (i:=4) Im.nd rfl (Or.inl rfl) (Aj KZ (hr.mono (by decide)) Ai (Ad (pv 3) Ab))) (Al (Aw (i:=1) Im.nd rfl (Or.inl rfl) (HS (k:=4) (pv 4) (hr.mono (by decide)) (Ad (pv 1) Ab))) (Ao (Aw (i:=2) Im.nd rfl (Or.inl rfl) (HS (k:=4) (pv 4) (hr.mono (by decide)) (Ad (pv 2) Ab))))))) (Ao (Az (Aj kY (hr.mono (by decide)) Ai (Ad (pv 1) (Ad (pv 2) Ab))))))))),?_⟩
 refine ⟨_,rfl,_,ps,m,rfl,hb,g,by omega,λ H1 s1=>?_⟩
 refine ⟨(by show 2<=sizeLine;decide),λ p1 hp1=>?_⟩
 have u1:=Ah hp1 (.tup [.ref ad.ONE,.ref ad.NOUGHT]);have d1:DV K (upd H1 p1 (.tup [.ref ad.ONE,.ref ad.NOUGHT])) (.ref p1) (Ax e1):=DV.upd2 hp1 (dO T H1) (dN T H1);refine ⟨(by show 2<=sizeLine;decide),λ p2 hp2=>?_⟩
 have u2:=Ah hp2 (.tup [.ref ad.NOUGHT,.ref ad.ONE]);have d2:DV K (upd (upd H1 p1 (.tup [.ref ad.ONE,.ref ad.NOUGHT])) p2 (.tup [.ref ad.NOUGHT,.ref ad.ONE])) (.ref p2) (Ax e2):=DV.upd2 hp2 (dN T _) (dO T _);have s2:=s1.trans (u1.trans u2);refine ⟨_,rfl,a,rfl,⟨_,ha.keep s2⟩,?_⟩;refine Fg (K:=K) (a:=a) (xs:=xs) (λ i σ H'=>∃c3 c4 v1 v2,σ=[some (.ref a),some v1,some v2,c3,c4]/\Same H H'/\DV K H' v1 (Ax (BP (ps.take i) e1))/\DV K H' v2 (Ax (BP (ps.take i) e2))/\RB (2+i * (m+1)) (BP (ps.take i) e1)/\RB (2+i * (m+1)) (BP (ps.take i) e2)) ⟨_,_,_,_,rfl,s2,d1.keep u2,d2,by simpa [BP] using r1,by simpa [BP] using r2⟩ ?_ ?_ ?_
 ·rintro i σ H' hi ⟨c3,c4,v1,v2,rfl,s3,_⟩
  exact ha.keep s3
 ·rintro i x σ H' hi ⟨c3,c4,v1,v2,rfl,s3,hv1,hv2,b1,b2⟩
  obtain ⟨d,hd,hx⟩:=hxs.get hi;obtain ⟨pc,hpc,rfl⟩:=Hr hd;have hmem:=List.mem_of_getElem? hpc;have hi':=Cq hpc;have bi:2+i * (m+1)+m<=3900:=by
   have:i * (m+1)<=ps.length * (m+1):=Nat.mul_le_mul_right _ (by omega)
   omega
  have et:∀r,BP (ps.take (i+1)) r=pc.bent (BP (ps.take i) r):=λ r=>by
   rw [List.take_add_one,hpc,T5];rfl
  refine ⟨_,rfl,_,pc,rfl,hx.keep s3,λ o H5 s5 ho=>?_⟩
  obtain ⟨oa,C,dx,fs,pps,sp,q1,q2,q3,M,hsp⟩:=Gu (P:=P) (w:=w) (base:=base) T ho (hv1.keep s5) b1 (g.bd _ hmem) bi;refine ⟨_,rfl,oa,C,dx,fs,pps,sp,q1,q2,q3,M,_,rfl,hsp _ (λ w1 H6 s6 hw1=>?_)⟩
  obtain ⟨oa,C,dx,fs,pps,sp,q1,q2,q3,M,hsp⟩:=Gu (P:=P) (w:=w) (base:=base) T (ho.keep s6) (hv2.keep (s5.trans s6)) b2 (g.bd _ hmem) bi;refine ⟨_,rfl,oa,C,dx,fs,pps,sp,q1,q2,q3,M,_,rfl,hsp _ (λ w2 H7 s7 hw2=>?_)⟩
  refine ⟨_,_,w1,w2,rfl,s3.trans (s5.trans (s6.trans s7)),?_,?_,?_,?_⟩
  ·rw [et];exact hw1.keep s7
  ·rw [et];exact hw2
  ·rw [et];exact Rb.mono (HN (g.bd _ hmem) b1) (by rw [Nat.add_mul];omega)
  ·rw [et];exact Rb.mono (HN (g.bd _ hmem) b2) (by rw [Nat.add_mul];omega)
 ·rintro σ H' ⟨c3,c4,v1,v2,rfl,s3,hv1,hv2,b1,b2⟩
  rw [hl,List.take_length] at hv1 hv2;exact ⟨_,rfl,_,rfl,_,_,.cons hv1 (.cons hv2 .nil),⟨_,_,rfl,rfl⟩,λ v4 H4 s4 hv4=>k _ _ (s3.trans s4) hv4⟩
theorem yt (T:Txt K mg ad):CalB P w K mg base true 4 "made_by" ["table","ray"] (PR K wM):=by
 have FW:=Ka (P:=P) (w:=w) (base:=base) T;have DP:=JN (P:=P) (w:=w) (base:=base) T;refine T.Qq.calN VN (λ _ _ _ _ _ _=>Bs λ _ _=>rfl) (λ vs H Q E h=>?_) (λ f cdv A outer s H vs Q E hr h=>?_)
 ·obtain ⟨_,_,dv,⟨_,_,_,rfl,_⟩,_⟩:=h;exact dv.len
 obtain ⟨_,_,dv,⟨t,r,n,rfl,tb,b1,b2,hn,rfl⟩,k⟩:=h;obtain ⟨_,_,rfl,hx,hy⟩:=dv.two;obtain ⟨a,x1,x2,x3,x4,rfl,ha,h1,h2,h3,h4⟩:=DV.t4 hx;obtain ⟨b,y1,y2,rfl,hb,hy1,hy2⟩:=DV.t2 hy;refine ⟨_,(Al (Aw (i:=2) VN.nd rfl (Or.inl rfl) (Aj FW (hr.mono (by decide)) Ai (BX (Aj DP (hr.mono (by decide)) Ai (Ar (Ag Am (pv 0) Ac (λ _ _=>rfl)) (Ar (Ag Am (pv 1) Ac (λ _ _=>rfl)) Ab))) (BX (Aj DP (hr.mono (by decide)) Ai (Ar (Ag Am (pv 0) Ac (λ _ _=>rfl)) (Ar (Ag Am (pv 1) Ac (λ _ _=>rfl)) Ab))) Ab)))) (Al (Aw (i:=3) VN.nd rfl (Or.inl rfl) (Aj FW (hr.mono (by decide)) Ai (BX (Aj DP (hr.mono (by decide)) Ai (Ar (Ag Am (pv 0) Ac (λ _ _=>rfl)) (Ar (Ag Am (pv 1) Ac (λ _ _=>rfl)) Ab))) (BX (Aj DP (hr.mono (by decide)) Ai (Ar (Ag Am (pv 0) Ac (λ _ _=>rfl)) (Ar (Ag Am (pv 1) Ac (λ _ _=>rfl)) Ab))) Ab)))) (Ao (Az (BK (Ad (pv 2) (Ad (pv 3) Ab))))))),?_⟩
 refine ⟨_,rfl,a,_,_,_,rfl,rfl,ha,rfl,_,rfl,b,_,_,_,rfl,rfl,hb,rfl,?_⟩;refine ⟨_,_,.cons h1 (.cons hy1 .nil),⟨_,_,rfl,tb.a.sm (by omega),b1.sm (by omega),rfl⟩,λ v1 H1 s1 hv1=>?_⟩
 refine ⟨_,rfl,a,_,_,_,rfl,rfl,ha.keep s1,rfl,_,rfl,b,_,_,_,rfl,rfl,hb.keep s1,rfl,?_⟩;refine ⟨_,_,.cons (h2.keep s1) (.cons (hy2.keep s1) .nil),⟨_,_,rfl,tb.b.sm (by omega),b2.sm (by omega),rfl⟩,λ v2 H2 s2 hv2=>?_⟩
 refine ⟨_,_,.cons (hv1.keep s2) (.cons hv2 .nil),⟨_,_,rfl,(tb.a.mul b1).sm (by omega),(tb.b.mul b2).sm (by omega),rfl⟩,λ v3 H3 s3 hv3=>?_⟩
 have s13:=s1.trans (s2.trans s3);refine ⟨_,rfl,a,_,_,_,rfl,rfl,ha.keep s13,rfl,_,rfl,b,_,_,_,rfl,rfl,hb.keep s13,rfl,?_⟩;refine ⟨_,_,.cons (h3.keep s13) (.cons (hy1.keep s13) .nil),⟨_,_,rfl,tb.c.sm (by omega),b1.sm (by omega),rfl⟩,λ v4 H4 s4 hv4=>?_⟩
 have s14:=s13.trans s4;refine ⟨_,rfl,a,_,_,_,rfl,rfl,ha.keep s14,rfl,_,rfl,b,_,_,_,rfl,rfl,hb.keep s14,rfl,?_⟩;refine ⟨_,_,.cons (h4.keep s14) (.cons (hy2.keep s14) .nil),⟨_,_,rfl,tb.d.sm (by omega),b2.sm (by omega),rfl⟩,λ v5 H5 s5 hv5=>?_⟩
 refine ⟨_,_,.cons (hv4.keep s5) (.cons hv5 .nil),⟨_,_,rfl,(tb.c.mul b1).sm (by omega),(tb.d.mul b2).sm (by omega),rfl⟩,λ v6 H6 s6 hv6=>?_⟩
 refine ⟨_,rfl,_,rfl,(by show 2<=sizeLine;decide),λ p hp=>?_⟩
 exact k _ _ (s14.trans (s5.trans (s6.trans (Ah hp _)))) (DV.upd2 hp (hv3.keep (s4.trans (s5.trans s6))) hv6)
end
end K84
namespace K84
open PySem L2 Lib Fr Op
seal PE PT PW PA PS PSs PG PGs PI PO CZ
section
variable {P:Program}{w:World}{K:FrG}{mg:Str->Option Value}{base:Heap}{ad:Adr}{c:Bool}
theorem YG (T:Txt K mg ad):CalB P w K mg base true 1 "_law_cell_at" ["_law_script","_law_k"] (tE K):=by
 refine T.S8.calN xn (λ _ _ _ _ _ _=>Bs λ _ _=>rfl) (λ vs H Q E h=>?_) (λ f cdv A outer s H vs Q E hr h=>?_)
 ·obtain ⟨_,_,_,rfl,_⟩:=h;rfl
 obtain ⟨a,ns,k,rfl,hS,k0,q⟩:=h;refine ⟨_,(Al (Be (Bo JM (pv 1) (CP Ea rfl T.len Dq (Ad (pv 0) Ab)) (nomark _)) (Ao (Az (Ag CV (pv 0) (pv 1) (λ _ _=>rfl)))) Bj) (Ao (Az Ac))),?_⟩
 refine ⟨_,rfl,_,rfl,a,_,rfl,.inl hS,_,_,rfl,rfl,_,rfl,?_⟩;refine ite2 (λ hc=>?_) (λ _=>q 0)
 have hc:k < (((ns.map V.int).length:Nat):Int):=of_decide_eq_true hc;obtain ⟨v,hv,hm⟩:=Uw (xs:=ns.map V.int) k0 hc;obtain ⟨z,_,rfl⟩:=List.mem_map.mp hm;exact ⟨_,rfl,_,rfl,a,_,_,_,rfl,rfl,hS,hv,q z⟩
theorem Qu (T:Txt K mg ad):CalB P w K mg base true 1 "_law_mix" ["_law_cell","_law_by"] vP:=by
 refine T.Uq.calN ZG (λ _ _ _ _ _ _=>Bs λ _ _=>rfl) (λ vs H Q E h=>?_) (λ f cdv A outer s H vs Q E hr h=>?_)
 ·obtain ⟨_,_,rfl,_⟩:=h;rfl
 obtain ⟨z,b,rfl,b0,b1,q⟩:=h;refine ⟨_,(Al (Aw (i:=2) ZG.nd rfl (Or.inl rfl) (Ay Cu (Ay K7 (Ay Gi (Ay Cu (pv 0) Ac) Ac) (pv 1)) Ac)) (Ao (Az (Ay Cu (Ay K7 (pv 2) (pv 2)) Ac)))),?_⟩;have p32:(2:Int) ^ 32=4294967296:=by decide
 have p64:(2:Int) ^ 64=18446744073709551616:=by decide
 refine ⟨_,rfl,_,_,rfl,rfl,(by show (0:Int) < 1000003;decide),_,_,rfl,rfl,_,rfl,_,_,rfl,rfl,.inr ⟨by omega,by omega⟩,_,_,rfl,rfl,(by show (0:Int) < 2147483647;decide),?_⟩
 generalize ho:(z % 1000003+7) * b % 2147483647=o;have o0:0<=o:=by rw [<- ho];exact Int.emod_nonneg _ (by decide)
 have o1:o < 2147483647:=by rw [<- ho];exact Int.emod_lt_of_pos _ (by decide)
 refine ⟨_,rfl,_,rfl,_,_,rfl,rfl,.inl ⟨by omega,by omega⟩,_,_,rfl,rfl,(by show (0:Int) < 2147483629;decide),?_⟩
 exact q _ (Int.emod_nonneg _ (by decide)) (Int.emod_lt_of_pos _ (by decide))
theorem KN (T:Txt K mg ad):CalB P w K mg base true 1 "_law_lowest" ["_law_top","_law_bottom"] du:=by
 refine T.R6.calN RX (λ _ _ _ _ _ _=>Bs λ _ _=>rfl) (λ vs H Q E h=>?_) (λ f cdv A outer s H vs Q E hr h=>?_)
 ·obtain ⟨a,b,rfl,_⟩:=h;rfl
 obtain ⟨a,b,rfl,bp,bs,q⟩:=h;have b0:b≠0:=by omega
 refine ⟨_,(Al (Yp (i:=2) (j:=3) rfl RX.nd rfl rfl (by decide) rfl rfl (BX (CP QB rfl T.abs V5 (Ad (pv 0) Ab)) (Ad (pv 1) Ab)) rfl) (Al (Wl PassesOwn.never (Bo JQ (pv 3) Ac (nomark _)) (Ao (Yp (i:=2) (j:=3) rfl RX.nd rfl rfl (by decide) rfl rfl (Ad (pv 3) (Bu (Ay Cu (pv 2) (pv 3)) Ab)) rfl))) (Ao (Az (BK (Bu (Ay Mu (pv 0) (pv 2)) (Bu (Ay Mu (pv 1) (pv 2)) Ab))))))),?_⟩
 refine ⟨_,rfl,_,rfl,_,rfl,_,_,rfl,?_⟩;have ea:=Fr.Tc a;have eb:b=(b.natAbs:Int):=by omega
 refine ⟨λ k σ H'=>H=H'/\∃(m:Nat),σ=[some (.int a),some (.int b),some (.int m),some (.int k)]/\Nat.gcd m k=Nat.gcd a.natAbs b.natAbs,⟨b.natAbs,rfl,a.natAbs,by rw [<- ea,<- eb];rfl,rfl⟩,?_⟩
 rintro n _ _ ⟨rfl,m,rfl,e⟩
 refine ⟨_,rfl,_,_,rfl,rfl,_,rfl,?_⟩;refine ite2 (λ c=>?_) (λ c=>?_)
 ·have hn:n≠0:=by
   intro z;subst z;simp at c
  have h1:(m:Int) % (n:Int)=((m % n:Nat):Int):=(Int.natCast_emod m n).symm;refine ⟨λ σ' H'=>H=H'/\σ'=[some (.int a),some (.int b),some (.int n),some (.int ((m:Int) % (n:Int)))],?_,?_⟩
  ·rintro _ _ ⟨rfl,rfl⟩
   rw [h1];exact ⟨m % n,Nat.mod_lt _ (by omega),rfl,n,rfl,by rw [Fr.bR,e]⟩
  ·exact ⟨_,rfl,_,rfl,_,rfl,_,_,rfl,rfl,(by show (0:Int) < (n:Int);omega),_,_,rfl,rfl,rfl⟩
 ·have hn:n=0:=by
   by_cases z:n=0
   ·exact z
   ·exfalso
    apply c
    exact decide_eq_true (by omega)
  subst hn;have e2:(m:Int)=Fr.gcd a b:=by
   unfold Fr.gcd;rw [<- e,Nat.gcd_zero_right]
  have gl:=Fr.Xq (a:=a) b0;have gn:=Fr.X8 a b;have eg:(m:Int)=Fr.sg a b:=by
   unfold Fr.sg;rw [if_neg (by omega),e2]
  have gs:(m:Int).natAbs.log2 < 9000:=by
   have h2:(m:Int).natAbs < lim:=by omega
   exact Xa h2
  have ne:(m:Int)≠0:=by rw [eg];exact Fr.Jc b0
  refine ⟨_,rfl,_,rfl,_,_,rfl,rfl,⟨ne,gs⟩,_,rfl,_,rfl,_,_,rfl,rfl,⟨ne,gs⟩,(by show 2<=sizeLine;decide),λ p hp=>?_⟩
  rw [eg];exact q p hp
theorem R7 (T:Txt K mg ad):CalB P w K mg base true 3 "_law_sum" ["_law_one","_law_other"] (PR K (Ky λ p q=>p+q)):=by
 have Ef:=KN (P:=P) (w:=w) (base:=base) T;refine T.Tu.calN mZ (λ _ _ _ _ _ _=>Bs λ _ _=>rfl) (λ vs H Q E h=>?_) (λ f cdv A outer s H vs Q E hr h=>?_)
 ·obtain ⟨_,_,dv,⟨_,_,rfl,_⟩,_⟩:=h;exact dv.len
 obtain ⟨_,_,dv,⟨p,q,rfl,sp,sq,rfl⟩,k⟩:=h;obtain ⟨_,_,rfl,hx,hy⟩:=dv.two;obtain ⟨a,rfl,ha⟩:=hx.fr;obtain ⟨b,rfl,hb⟩:=hy.fr;refine ⟨_,(Ao (Az (Aj Ef (hr.mono (by decide)) Ai (Bu (Ay Gi (Ay Dd (Ag Am (pv 0) Ac (λ _ _=>rfl)) (Ag Am (pv 1) Ac (λ _ _=>rfl))) (Ay Dd (Ag Am (pv 1) Ac (λ _ _=>rfl)) (Ag Am (pv 0) Ac (λ _ _=>rfl)))) (Bu (Ay Dd (Ag Am (pv 0) Ac (λ _ _=>rfl)) (Ag Am (pv 1) Ac (λ _ _=>rfl))) Ab))))),?_⟩
 refine ⟨_,rfl,a,_,_,_,rfl,rfl,ha,rfl,_,rfl,b,_,_,_,rfl,rfl,hb,rfl,_,_,rfl,rfl,Ds sp.n sq.dn,?_⟩;refine ⟨_,rfl,b,_,_,_,rfl,rfl,hb,rfl,_,rfl,a,_,_,_,rfl,rfl,ha,rfl,_,_,rfl,rfl,Ds sq.n sp.dn,_,_,rfl,rfl,?_⟩;refine ⟨_,rfl,a,_,_,_,rfl,rfl,ha,rfl,_,rfl,b,_,_,_,rfl,rfl,hb,rfl,_,_,rfl,rfl,Ds sp.dn sq.dn,?_⟩;refine ⟨_,_,rfl,Int.mul_pos (Lg p) (Lg q),Je sp.dn sq.dn,λ r hr=>k _ _ (Ah hr _) ?_⟩
 have e:=Do (K:=K) (H:=H) (t:=p.num * (q.den:Int)+q.num * (p.den:Int)) (b:=(p.den:Int) * (q.den:Int)) (p:=r) (Hj p q);rw [Fr.Wf] at e;exact e
theorem Tv (T:Txt K mg ad):CalB P w K mg base true 3 "_law_product" ["_law_one","_law_other"] (PR K (Ky λ p q=>p * q)):=by
 have Ef:=KN (P:=P) (w:=w) (base:=base) T;refine T.Rp.calN jG (λ _ _ _ _ _ _=>Bs λ _ _=>rfl) (λ vs H Q E h=>?_) (λ f cdv A outer s H vs Q E hr h=>?_)
 ·obtain ⟨_,_,dv,⟨_,_,rfl,_⟩,_⟩:=h;exact dv.len
 obtain ⟨_,_,dv,⟨p,q,rfl,sp,sq,rfl⟩,k⟩:=h;obtain ⟨_,_,rfl,hx,hy⟩:=dv.two;obtain ⟨a,rfl,ha⟩:=hx.fr;obtain ⟨b,rfl,hb⟩:=hy.fr;refine ⟨_,(Ao (Az (Aj Ef (hr.mono (by decide)) Ai (Bu (Ay Dd (Ag Am (pv 0) Ac (λ _ _=>rfl)) (Ag Am (pv 1) Ac (λ _ _=>rfl))) (Bu (Ay Dd (Ag Am (pv 0) Ac (λ _ _=>rfl)) (Ag Am (pv 1) Ac (λ _ _=>rfl))) Ab))))),?_⟩
 refine ⟨_,rfl,a,_,_,_,rfl,rfl,ha,rfl,_,rfl,b,_,_,_,rfl,rfl,hb,rfl,_,_,rfl,rfl,Ds sp.n sq.n,?_⟩;refine ⟨_,rfl,a,_,_,_,rfl,rfl,ha,rfl,_,rfl,b,_,_,_,rfl,rfl,hb,rfl,_,_,rfl,rfl,Ds sp.dn sq.dn,?_⟩;refine ⟨_,_,rfl,Int.mul_pos (Lg p) (Lg q),Je sp.dn sq.dn,λ r hr=>k _ _ (Ah hr _) ?_⟩
 have e:=Do (K:=K) (H:=H) (t:=p.num * q.num) (b:=(p.den:Int) * (q.den:Int)) (p:=r) (Hj p q);rw [Fr.VF] at e;exact e
theorem Y4 (T:Txt K mg ad):CalB P w K mg base true 1 "_law_less" ["_law_one"] (PR K fW):=by
 refine T.Rz.calN gQ (λ _ _ _ _ _ _=>by1 λ _=>rfl) (λ vs H Q E h=>?_) (λ f cdv A outer s H vs Q E hr h=>?_)
 ·obtain ⟨_,_,dv,⟨_,rfl,_⟩,_⟩:=h;exact dv.len
 obtain ⟨_,_,dv,⟨q,rfl,rfl⟩,k⟩:=h;obtain ⟨_,rfl,hy⟩:=dv.one;obtain ⟨b,rfl,hb⟩:=hy.fr;refine ⟨_,(Ao (Az (BK (Bu (Ay Ec Ac (Ag Am (pv 0) Ac (λ _ _=>rfl))) (Ar (Ag Am (pv 0) Ac (λ _ _=>rfl)) Ab))))),?_⟩
 refine ⟨_,rfl,b,_,_,_,rfl,rfl,hb,rfl,_,_,rfl,rfl,_,rfl,b,_,_,_,rfl,rfl,hb,rfl,(by show 2<=sizeLine;decide),λ p2 hp2=>k _ _ (Ah hp2 _) ?_⟩
 rw [jU];exact .tup (SqT.of Aq) (.cons (.int _) (.cons (.int _) .nil))
end
end K84
section
open PySem L2 Lib Fr Op K84
local macro_rules | `(tactic| walk_at "Zs")=>`(tactic| first | with_reducible assumption | with_reducible exact Same.refl _ | exact De (by with_reducible assumption) (by walk_at "Zs") | exact JR (by with_reducible assumption) (by walk_at "Zs"))
local macro_rules | `(tactic| walk_at "Zd")=>`(tactic| first | with_reducible assumption | with_reducible exact DV.int _ | with_reducible exact DV.str _ | with_reducible exact DV.bl _ | with_reducible exact DV.non | exact Jg (by first | with_reducible assumption | assumption) (by walk_at "Zs") | with_reducible exact dN (by assumption) _ | with_reducible exact dO (by assumption) _ | exact zd2 (by with_reducible assumption) (by walk_at "Zs") (by walk_at "Zd") (by walk_at "Zd") | exact zd3 (by with_reducible assumption) (by walk_at "Zs") (by walk_at "Zd") (by walk_at "Zd") (by walk_at "Zd") | exact zd4 (by with_reducible assumption) (by walk_at "Zs") (by walk_at "Zd") (by walk_at "Zd") (by walk_at "Zd") (by walk_at "Zd"))
local macro_rules | `(tactic| walk_at "Zt")=>`(tactic| first | assumption | exact Fz (by assumption) (by walk_at "Zs") | exact Gk (by walk_at "Zs"))
local macro_rules | `(tactic| walk_at "Zl")=>`(tactic| first | assumption | exact zl1 (by assumption) (by walk_at "Zs") | exact zl2 (by walk_at "Zs"))
local macro_rules | `(tactic| walk_at "Zv")=>`(tactic| first | exact DVs.nil | exact DVs.cons (by walk_at "Zd") (by walk_at "Zv"))
local macro_rules | `(tactic| walk_at "Zb")=>`(tactic| first | with_reducible assumption | exact bd_zero 1 (by decide) | exact bd_one 1 (by decide) | with_reducible exact Bd.mul (by walk_at "Zb") (by walk_at "Zb") | with_reducible exact Bd.add (by walk_at "Zb") (by walk_at "Zb") | with_reducible exact Bd.sub (by walk_at "Zb") (by walk_at "Zb") | with_reducible exact Tb.a (by with_reducible assumption) | with_reducible exact Tb.b (by with_reducible assumption) | with_reducible exact Tb.c (by with_reducible assumption) | with_reducible exact Tb.d (by with_reducible assumption) | with_reducible exact Rb.y (by with_reducible assumption) | with_reducible exact Rb.u (by with_reducible assumption))
local macro_rules | `(tactic| walk_at "Zm")=>`(tactic| first | with_reducible assumption | with_reducible exact Sm.zero | with_reducible exact Sm.one | exact Bd.sm (by walk_at "Zb") (by first | decide | omega))
local macro_rules | `(tactic| walk_at "Zr")=>`(tactic| first | exact ⟨_,_,rfl,by walk_at "Zm",by walk_at "Zm",rfl⟩ | exact ⟨_,_,rfl,by walk_at "Zm",by walk_at "Zm",by assumption,rfl⟩)
local macro_rules | `(tactic| walk_at "Zc")=>`(tactic| (refine ⟨_,_,by walk_at "Zv",by walk_at "Zr",λ v H' s hv=>?_⟩;(first | (obtain rfl:=DV.bl_of hv) | (have:=(show DV _ _ _ (Af _) from hv);clear this) | (obtain ⟨a,x1,x2,x3,x4,rfl,ha,h1,h2,h3,h4⟩:=DV.t4 hv) | (obtain ⟨a,x1,x2,x3,rfl,ha,h1,h2,h3⟩:=DV.t3 hv) | (obtain ⟨a,x1,x2,rfl,ha,h1,h2⟩:=DV.t2 hv) | skip)))
local macro_rules | `(tactic| walk_at "Zp")=>`(tactic| first | refine ⟨by (show 2<=sizeLine;decide),λ p hp=>?_⟩ | refine ⟨by (show 3<=sizeLine;decide),λ p hp=>?_⟩ | refine ⟨by (show 4<=sizeLine;decide),λ p hp=>?_⟩)
local macro_rules | `(tactic| walk_at "Zn")=>`(tactic| first | refine ⟨_,rfl,?_⟩ | refine ⟨_,_,_,_,rfl,rfl,by walk_at "Zt",by rfl,?_⟩ | refine ⟨_,_,rfl,rfl,?_⟩)
local macro_rules | `(tactic| walk_at "Z1")=>`(tactic| first | walk_at "Zn" | walk_at "Zp" | walk_at "Zc" | refine iteF ?_ | refine iteT ?_)
local macro_rules | `(tactic| walk_at "Z")=>`(tactic| repeat walk_at "Z1")
namespace K84
open PySem L2 Lib Fr Op
seal PE PT PW PA PS PSs PG PGs PI PO CZ
section
variable {P:Program}{w:World}{K:FrG}{mg:Str->Option Value}{base:Heap}{ad:Adr}{c:Bool}
theorem SQ (T:Txt K mg ad):CalB P w K mg base true 5 "limits_of" ["bench"] (lM K):=by
 have Gw:=Nr (P:=P) (w:=w) (base:=base) T;have KZ:=V4 (P:=P) (w:=w) (base:=base) T;refine T.Nm.calN GR (λ _ _ _ _ _ _=>by1 λ _=>rfl) (λ vs H Q E h=>?_) (λ f cdv A outer s H vs Q E hr h=>?_)
 ·obtain ⟨_,_,_,rfl,_⟩:=h;rfl
 obtain ⟨b,ps,m,rfl,hb,g,hnm,q⟩:=h;obtain ⟨a,xs,rfl,ha,hxs⟩:=DV.lst_of hb;have hl:xs.length=ps.length:=by have:=hxs.len;rw [List.length_map] at this;exact this
 have gl:=g.len;refine ⟨_,(Al (DR (Aj Gw (hr.mono (by decide)) Ai (Ad (pv 0) Ab))) (Al (Aw (i:=1) GR.nd rfl (Or.inl rfl) (Cg Ab)) (Al (Aw (i:=2) GR.nd rfl (Or.inl rfl) (BK (Ad (CJ (v:=.ref ad.ONE) rfl T.ex.m_ONE rfl) (Ad (CJ (v:=.ref ad.NOUGHT) rfl T.ex.m_NOUGHT rfl) Ab)))) (Al (Aw (i:=3) GR.nd rfl (Or.inl rfl) (BK (Ad (CJ (v:=.ref ad.NOUGHT) rfl T.ex.m_NOUGHT rfl) (Ad (CJ (v:=.ref ad.ONE) rfl T.ex.m_ONE rfl) Ab)))) (Al (DW PassesOwn.never rfl (Ig rfl T.enumerate (Ad (pv 0) Ab)) (HY (n:=2) rfl (Ci (Bq (i:=4) GR.nd rfl (by first | exact Or.inl rfl | exact Or.inr rfl)) (Ci (Bq (i:=5) GR.nd rfl (by first | exact Or.inl rfl | exact Or.inr rfl)) Eu))) (Al (Be (Bo DX (Ag Am (pv 5) Ac (λ _ _=>rfl)) (CJ (v:=.str "stop") rfl T.ex.m_STOP ⟨_,rfl⟩) (nomark _)) (Ao (DR (Dc PySem.F.plainAttrs_list PySem.F.slot_list_append PySem.F.type_list_append Ft (pv 1) (Bb (BK (Ad (pv 4) (Ar (Ag Am (pv 2) Ac (λ _ _=>rfl)) (Ar (Ag Am (pv 3) Ac (λ _ _=>rfl)) (Ar (Ag Am (pv 5) Ac (λ _ _=>rfl)) (Ar (Ag Am (pv 5) Ac (λ _ _=>rfl)) Ab)))))) Ab)))) Bj) (Al (Aw (i:=6) GR.nd rfl (Or.inl rfl) (Aj KZ (hr.mono (by decide)) Ai (Ad (pv 5) Ab))) (Al (Aw (i:=2) GR.nd rfl (Or.inl rfl) (HS (k:=4) (pv 6) (hr.mono (by decide)) (Ad (pv 2) Ab))) (Ao (Aw (i:=3) GR.nd rfl (Or.inl rfl) (HS (k:=4) (pv 6) (hr.mono (by decide)) (Ad (pv 3) Ab)))))))) (Ao (Az (pv 1)))))))),?_⟩
 refine ⟨_,rfl,_,ps,m,rfl,hb,g,by omega,λ H1 s1=>?_⟩
 refine ⟨(by show 0<=sizeLine;decide),λ l hl1=>?_⟩
 have nl:H l=none:=s1.free hl1;have u0:=Ah hl1 (.lst []);have hl0:upd H1 l (.lst []) l=some (.lst []):=Aq;generalize upd H1 l (.lst [])=H1' at u0 hl0 ⊢;refine ⟨(by show 2<=sizeLine;decide),λ p1 hp1=>?_⟩
 have u1:=Ah hp1 (.tup [.ref ad.ONE,.ref ad.NOUGHT]);have d1:DV K (upd H1' p1 (.tup [.ref ad.ONE,.ref ad.NOUGHT])) (.ref p1) (Ax e1):=DV.upd2 hp1 (dO T _) (dN T _);refine ⟨(by show 2<=sizeLine;decide),λ p2 hp2=>?_⟩
 have u2:=Ah hp2 (.tup [.ref ad.NOUGHT,.ref ad.ONE]);have d2:DV K (upd (upd H1' p1 (.tup [.ref ad.ONE,.ref ad.NOUGHT])) p2 (.tup [.ref ad.NOUGHT,.ref ad.ONE])) (.ref p2) (Ax e2):=DV.upd2 hp2 (dN T _) (dO T _);have s2:=s1.trans (u0.trans (u1.trans u2));refine ⟨_,rfl,a,rfl,⟨_,ha.keep s2⟩,?_⟩;refine Jf (K:=K) (a:=a) (xs:=xs) (λ i σ H'=>∃c4 c5 c6 v1 v2 vs,σ=[some (.ref a),some (.ref l),some v1,some v2,c4,c5,c6]/\Same H H'/\H' l=some (.lst vs)/\DVs K H' vs ((Ba (ps.take i)).map Dj)/\DV K H' v1 (Ax (BP (ps.take i) e1))/\DV K H' v2 (Ax (BP (ps.take i) e2))/\RB (2+i * (m+1)) (BP (ps.take i) e1)/\RB (2+i * (m+1)) (BP (ps.take i) e2)) ⟨_,_,_,_,_,[],rfl,s2,(u1.trans u2) _ _ hl0,.nil,d1.keep u2,d2,by simpa [BP] using X3,by simpa [BP] using aJ⟩ ?_ ?_ ?_
 ·rintro i σ H' hi ⟨c4,c5,c6,v1,v2,vs,rfl,s3,_⟩
  exact ha.keep s3
 ·rintro i x σ H' p hi ⟨c4,c5,c6,v1,v2,vs,rfl,s3,hlv,hvs,hv1,hv2,b1,b2⟩ hp
  obtain ⟨d,hd,hx⟩:=hxs.get hi;obtain ⟨pc,hpc,rfl⟩:=Hr hd;have hmem:=List.mem_of_getElem? hpc;have hi':=Cq hpc;have bi:=Zw hnm hi';have up:=Ah hp (.tup [.int i,x]);have hx4:=hx.keep (s3.trans up);refine ⟨p,_,rfl,SqT.of Aq,rfl,_,_,rfl,_,_,rfl,rfl,?_⟩;have et:=tM hpc;have el:=mH hpc;have vl:vs.length<=60:=by
   have h1:=hvs.len;rw [List.length_map] at h1;have h2:=Tt (ps.take i) 0 e1 e2;rw [List.length_take] at h2;unfold Ba at h1;omega
  have fin:∀(vs':List V) (H5:Hp),Same H H5->H5 l=some (.lst vs')->DVs K H5 vs' ((Ba (ps.take (i+1))).map Dj)->DV K H5 v1 (Ax (BP (ps.take i) e1))->DV K H5 v2 (Ax (BP (ps.take i) e2))->DV K H5 x (Bp pc)->∀(o:Addr) H6,Same H5 H6->ObAt K ad.Gap ad.Glass ad.Stop H6 (.ref o) pc->∀w1 H7,Same H6 H7->DV K H7 w1 (Ax (pc.bent (BP (ps.take i) e1)))->∀w2 H8,Same H7 H8->DV K H8 w2 (Ax (pc.bent (BP (ps.take i) e2)))->
    ∃c4 c5 c6 v1 v2 vs,([some (.ref a),some (.ref l),some w1,some w2,some (.int (i:Int)),some x,some (.ref o)]:St)=[some (.ref a),some (.ref l),some v1,some v2,c4,c5,c6]/\Same H H8/\H8 l=some (.lst vs)/\DVs K H8 vs ((Ba (ps.take (i+1))).map Dj)/\DV K H8 v1 (Ax (BP (ps.take (i+1)) e1))/\DV K H8 v2 (Ax (BP (ps.take (i+1)) e2))/\RB (2+(i+1) * (m+1)) (BP (ps.take (i+1)) e1)/\RB (2+(i+1) * (m+1)) (BP (ps.take (i+1)) e2):=by
   intro vs' H5 s5 hl5 hvs5 _ _ _ o H6 s6 _ w1 H7 s7 hw1 w2 H8 s8 hw2;refine ⟨_,_,_,w1,w2,vs',rfl,s5.trans (s6.trans (s7.trans s8)),(s6.trans (s7.trans s8)) _ _ hl5,hvs5.keep (s6.trans (s7.trans s8)),?_,?_,?_,?_⟩
   ·rw [et];exact hw1.keep s8
   ·rw [et];exact hw2
   ·rw [et];exact Rb.mono (HN (g.bd _ hmem) b1) (by rw [Nat.add_mul];omega)
   ·rw [et];exact Rb.mono (HN (g.bd _ hmem) b2) (by rw [Nat.add_mul];omega)
  cases pc with
  | gap e=>
   obtain ⟨pa,z,z1,rfl,hpa,hz,hz1⟩:=DV.t2 hx4;obtain rfl:=hz.str_of;refine ⟨_,rfl,pa,_,_,_,rfl,rfl,hpa,rfl,rfl,_,rfl,Bf (by decide) ?_⟩
   refine ⟨_,rfl,_,.gap e,rfl,hx4,λ o H5 s5 ho=>?_⟩
   obtain ⟨oa,C,dx,fs,pps,sp,q1,q2,q3,M,hsp⟩:=Gu (P:=P) (w:=w) (base:=base) T ho (hv1.keep (up.trans s5)) b1 (g.bd _ hmem) bi;refine ⟨_,rfl,oa,C,dx,fs,pps,sp,q1,q2,q3,M,_,rfl,hsp _ (λ w1 H6 s6 hw1=>?_)⟩
   obtain ⟨oa,C,dx,fs,pps,sp,q1,q2,q3,M,hsp⟩:=Gu (P:=P) (w:=w) (base:=base) T (ho.keep s6) (hv2.keep (up.trans (s5.trans s6))) b2 (g.bd _ hmem) bi;refine ⟨_,rfl,oa,C,dx,fs,pps,sp,q1,q2,q3,M,_,rfl,hsp _ (λ w2 H7 s7 hw2=>?_)⟩
   exact fin vs _ (s3.trans up) (up _ _ hlv) (by rw [el];show DVs K _ vs ((Ba (ps.take i)++[]).map Dj);rw [List.append_nil];exact hvs.keep up) (hv1.keep up) (hv2.keep up) hx4 o H5 s5 ho w1 H6 s6 hw1 w2 H7 s7 hw2
  | glass e=>
   obtain ⟨pa,z,z1,rfl,hpa,hz,hz1⟩:=DV.t2 hx4;obtain rfl:=hz.str_of;refine ⟨_,rfl,pa,_,_,_,rfl,rfl,hpa,rfl,rfl,_,rfl,Bf (by decide) ?_⟩
   refine ⟨_,rfl,_,.glass e,rfl,hx4,λ o H5 s5 ho=>?_⟩
   obtain ⟨oa,C,dx,fs,pps,sp,q1,q2,q3,M,hsp⟩:=Gu (P:=P) (w:=w) (base:=base) T ho (hv1.keep (up.trans s5)) b1 (g.bd _ hmem) bi;refine ⟨_,rfl,oa,C,dx,fs,pps,sp,q1,q2,q3,M,_,rfl,hsp _ (λ w1 H6 s6 hw1=>?_)⟩
   obtain ⟨oa,C,dx,fs,pps,sp,q1,q2,q3,M,hsp⟩:=Gu (P:=P) (w:=w) (base:=base) T (ho.keep s6) (hv2.keep (up.trans (s5.trans s6))) b2 (g.bd _ hmem) bi;refine ⟨_,rfl,oa,C,dx,fs,pps,sp,q1,q2,q3,M,_,rfl,hsp _ (λ w2 H7 s7 hw2=>?_)⟩
   exact fin vs _ (s3.trans up) (up _ _ hlv) (by rw [el];show DVs K _ vs ((Ba (ps.take i)++[]).map Dj);rw [List.append_nil];exact hvs.keep up) (hv1.keep up) (hv2.keep up) hx4 o H5 s5 ho w1 H6 s6 hw1 w2 H7 s7 hw2
  | stop lo hi2=>
   obtain ⟨pa,z,z1,z2,rfl,hpa,hz,hz1,hz2⟩:=DV.t3 hx4;obtain rfl:=hz.str_of;have hlp:=up _ _ hlv;have k1:=hv1.keep up;have k2:=hv2.keep up;have hvsp:=hvs.keep up;have sp0:=s3.trans up;generalize upd H' p (.tup [.int i,.ref pa])=H4 at hpa hz hz1 hz2 hx4 hlp k1 k2 hvsp sp0 ⊢;obtain ⟨ra,r1,r2,rfl,hra,hr1,hr2⟩:=DV.t2 k1;obtain ⟨ta,t1,t2,rfl,hta,ht1,ht2⟩:=DV.t2 k2;refine ⟨_,rfl,pa,_,_,_,rfl,rfl,hpa,rfl,rfl,_,rfl,Bt (by decide) ?_⟩
   refine ⟨_,rfl,.inl ⟨rfl,_,SqL.of hlp⟩,?_⟩;refine ⟨_,rfl,_,rfl,ra,_,_,_,rfl,rfl,hra,rfl,_,rfl,ta,_,_,_,rfl,rfl,hta,rfl,_,rfl,pa,_,_,_,rfl,rfl,hpa,rfl,_,rfl,pa,_,_,_,rfl,rfl,hpa,rfl,(by show 5<=sizeLine;decide),λ t5 ht5=>?_⟩
   have d5:DV K (upd H4 t5 (.tup [.int i,r1,t1,z1,z2])) (.ref t5) (Dj ⟨i,(BP (ps.take i) e1).1,(BP (ps.take i) e2).1,lo,hi2⟩):=DV.upd5 ht5 (.int _) hr1 ht1 hz1 hz2;have u5:=Ah ht5 (.tup [.int i,r1,t1,z1,z2]);generalize upd H4 t5 (.tup [.int i,r1,t1,z1,z2])=H5 at d5 u5 ⊢;have hl5:=u5 _ _ hlp;refine ⟨l,vs,_,rfl,rfl,hl5,small1000 (by omega),?_⟩
   have uT:=Ej hl5 (.lst (vs++[.ref t5]));have sH:Same H (upd H5 l (.lst (vs++[.ref t5]))):=λ b o e=>by
    rw [Av (Bm e nl)];exact (sp0.trans u5) _ _ e
   have hv6:DVs K (upd H5 l (.lst (vs++[.ref t5]))) (vs++[.ref t5]) ((Ba (ps.take (i+1))).map Dj):=by
    rw [el,List.map_append];exact DG uT (by rw [<- List.map_append];exact DY uZ _) ((hvsp.keep u5).append (.cons d5 .nil))
   have k16:DV K (upd H5 l (.lst (vs++[.ref t5]))) (.ref ra) (Ax (BP (ps.take i) e1)):=Fq uT (Eb _) (k1.keep u5);have k26:DV K (upd H5 l (.lst (vs++[.ref t5]))) (.ref ta) (Ax (BP (ps.take i) e2)):=Fq uT (Eb _) (k2.keep u5);have hx6:DV K (upd H5 l (.lst (vs++[.ref t5]))) (.ref pa) (Bp (.stop lo hi2)):=Fq uT (jn _) (hx4.keep u5);have hl6:upd H5 l (.lst (vs++[.ref t5])) l=some (.lst (vs++[.ref t5])):=Aq;generalize upd H5 l (.lst (vs++[.ref t5]))=H6 at sH hv6 k16 k26 hx6 hl6 ⊢;refine ⟨_,rfl,_,.stop lo hi2,rfl,hx6,λ o H7 s7 ho=>?_⟩
   obtain ⟨oa,C,dx,fs,pps,sp,q1,q2,q3,M,hsp⟩:=Gu (P:=P) (w:=w) (base:=base) T ho (k16.keep s7) b1 (g.bd _ hmem) bi;refine ⟨_,rfl,oa,C,dx,fs,pps,sp,q1,q2,q3,M,_,rfl,hsp _ (λ w1 H8 s8 hw1=>?_)⟩
   obtain ⟨oa,C,dx,fs,pps,sp,q1,q2,q3,M,hsp⟩:=Gu (P:=P) (w:=w) (base:=base) T (ho.keep s8) (k26.keep (s7.trans s8)) b2 (g.bd _ hmem) bi;refine ⟨_,rfl,oa,C,dx,fs,pps,sp,q1,q2,q3,M,_,rfl,hsp _ (λ w2 H9 s9 hw2=>?_)⟩
   exact fin _ _ sH hl6 hv6 k16 k26 hx6 o H7 s7 ho w1 H8 s8 hw1 w2 H9 s9 hw2
 ·rintro σ H' ⟨c4,c5,c6,v1,v2,vs,rfl,s3,hlv,hvs,_⟩
  rw [hl,List.take_length] at hvs;exact ⟨_,rfl,q l vs _ s3 nl hlv hvs⟩
end
end K84
namespace K84
open PySem L2 Lib Fr Op
seal PE PT PW PA PS PSs PG PGs PI PO CZ
section
variable {P:Program}{w:World}{K:FrG}{mg:Str->Option Value}{base:Heap}{ad:Adr}{c:Bool}
theorem Xg (T:Txt K mg ad):CalB P w K mg base true 3 "is_stretch" ["first","last"] (PR K gA):=by
 have Jy:=Vs (P:=P) (w:=w) (base:=base) T;have Cv:=Gq (P:=P) (w:=w) (base:=base) T;refine T.Sw.calN pM (λ _ _ _ _ _ _=>Bs λ _ _=>rfl) (λ vs H Q E h=>?_) (λ f cdv A outer s H vs Q E hr h=>?_)
 ·obtain ⟨_,_,dv,⟨_,_,rfl,_⟩,_⟩:=h;exact dv.len
 obtain ⟨_,_,dv,⟨p,q,rfl,sp,sq,ord,rfl⟩,k⟩:=h;obtain ⟨x,y,rfl,hx,hy⟩:=dv.two;refine ⟨_,(Ao (Az (Ed (Aj Jy (hr.mono (by decide)) Ai (Ad (pv 0) Ab)) (Ed (Aj Jy (hr.mono (by decide)) Ai (Ad (pv 1) Ab)) (Em (GQ (Aj Cv (hr.mono (by decide)) Ai (Ad (pv 1) (Ad (pv 0) Ab))))))))),?_⟩
 refine ⟨_,rfl,_,_,rfl,hx,_,rfl,iteT ?_⟩;refine ⟨_,rfl,_,_,rfl,hy,_,rfl,iteT ?_⟩;refine ⟨_,rfl,_,rfl,_,_,.cons hy (.cons hx .nil),⟨_,_,rfl,sq,sp,rfl⟩,λ b H1 s1 hb=>?_⟩
 obtain rfl:=hb.bl_of;rw [decide_eq_false (show ¬ q < p by grind)]
 exact ⟨_,rfl,k _ _ s1 (.bl _)⟩
theorem jC (T:Txt K mg ad):CalB P w K mg base true 4 "is_box" ["thing"] (PR K pG):=by
 have Ou:=Xg (P:=P) (w:=w) (base:=base) T;refine T.Su.calN jl (λ _ _ _ _ _ _=>by1 λ _=>rfl) (λ vs H Q E h=>?_) (λ f cdv A outer s H vs Q E hr h=>?_)
 ·obtain ⟨_,_,dv,⟨_,_,rfl,_⟩,_⟩:=h;exact dv.len
 obtain ⟨_,_,dv,⟨x,n,rfl,ok,bd,hn,rfl⟩,k⟩:=h;obtain ⟨_,rfl,hx⟩:=dv.one;obtain ⟨a,x1,x2,x3,x4,rfl,ha,h1,h2,h3,h4⟩:=DV.t4b hx;refine ⟨_,(Al (Be (PW.pt (pw_or (Cd (By (CP Gj rfl T.isinstance GF (Ad (pv 0) (Ad (GD (v:=.ty "tuple") rfl T.tuple Ox rfl) Ab))))) (pw_or1 (Bo Hb (CP Ea rfl T.len Dq (Ad (pv 0) Ab)) Ac (nomark _))))) (Ao (Az DN)) Bj) (Ao (Az (Ed (Aj Ou (hr.mono (by decide)) Ai (Ar (Ag Am (pv 0) Ac (λ _ _=>rfl)) (Ar (Ag Am (pv 0) Ac (λ _ _=>rfl)) Ab))) (Em (Aj Ou (hr.mono (by decide)) Ai (Ar (Ag Am (pv 0) Ac (λ _ _=>rfl)) (Ar (Ag Am (pv 0) Ac (λ _ _=>rfl)) Ab)))))))),?_⟩
 refine ⟨_,rfl,_,_,_,_,rfl,hx,Wa _,_,rfl,iteF ?_⟩;refine ⟨_,rfl,a,_,rfl,.inr ha,rfl,_,rfl,iteF ?_⟩;refine ⟨_,rfl,a,_,_,_,rfl,rfl,ha,rfl,_,rfl,a,_,_,_,rfl,rfl,ha,rfl,_,_,.cons h1 (.cons h2 .nil),⟨_,_,rfl,bd.a.sm hn,bd.b.sm hn,ok.h,rfl⟩,λ b H1 s1 hb=>?_⟩
 obtain rfl:=hb.bl_of;refine ⟨_,rfl,iteT ?_⟩;have ha1:=ha.keep s1;refine ⟨_,rfl,a,_,_,_,rfl,rfl,ha1,rfl,_,rfl,a,_,_,_,rfl,rfl,ha1,rfl,_,_,.cons (h3.keep s1) (.cons (h4.keep s1) .nil),⟨_,_,rfl,bd.c.sm hn,bd.d.sm hn,ok.s,rfl⟩,λ b H2 s2 hb=>?_⟩
 exact k _ _ (s1.trans s2) hb
theorem lX (T:Txt K mg ad):CalB P w K mg base true 5 "look_at_box" ["box"] (PR K rF):=by
 have pQ:=jC (P:=P) (w:=w) (base:=base) T;refine T.Ue.calN m9 (λ _ _ _ _ _ _=>by1 λ _=>rfl) (λ vs H Q E h=>?_) (λ f cdv A outer s H vs Q E hr h=>?_)
 ·obtain ⟨_,_,dv,⟨_,_,rfl,_⟩,_⟩:=h;exact dv.len
 obtain ⟨_,_,dv,⟨x,n,rfl,ok,bd,hn,rfl⟩,k⟩:=h;obtain ⟨_,rfl,hx⟩:=dv.one;refine ⟨_,(Ao (Be (Cd (By (Aj pQ (hr.mono (by decide)) Ai (Ad (pv 0) Ab)))) (Ao Es) Bj)),?_⟩
 refine ⟨_,rfl,_,_,.cons hx .nil,⟨_,_,rfl,ok,bd,hn,rfl⟩,λ b H1 s1 hb=>?_⟩
 obtain rfl:=hb.bl_of;exact ⟨_,rfl,iteF (k _ _ s1 .non)⟩
theorem vW (T:Txt K mg ad):CalB P w K mg base true 2 "corners_of" ["box"] (PR K kO):=by
 refine T.Uc.calN VB (λ _ _ _ _ _ _=>by1 λ _=>rfl) (λ vs H Q E h=>?_) (λ f cdv A outer s H vs Q E hr h=>?_)
 ·obtain ⟨_,_,dv,⟨_,rfl,_⟩,_⟩:=h;exact dv.len
 obtain ⟨_,_,dv,⟨x,rfl,rfl⟩,k⟩:=h;obtain ⟨_,rfl,hx⟩:=dv.one;obtain ⟨a,x1,x2,x3,x4,rfl,ha,h1,h2,h3,h4⟩:=DV.t4b hx;refine ⟨_,(Al (Aw (i:=1) VB.nd rfl (Or.inl rfl) (Cg Ab)) (Al (DW PassesOwn.never rfl (Dw (Cg (Bb (BK (Ar (Ag Am (pv 0) Ac (λ _ _=>rfl)) (Ar (Ag Am (pv 0) Ac (λ _ _=>rfl)) Ab))) (Bb (BK (Ar (Ag Am (pv 0) Ac (λ _ _=>rfl)) (Ar (Ag Am (pv 0) Ac (λ _ _=>rfl)) Ab))) (Bb (BK (Ar (Ag Am (pv 0) Ac (λ _ _=>rfl)) (Ar (Ag Am (pv 0) Ac (λ _ _=>rfl)) Ab))) (Bb (BK (Ar (Ag Am (pv 0) Ac (λ _ _=>rfl)) (Ar (Ag Am (pv 0) Ac (λ _ _=>rfl)) Ab))) Ab)))))) (Bq (i:=2) VB.nd rfl (by first | exact Or.inl rfl | exact Or.inr rfl)) (Ao (Be (Bo (cQ hr.units) (pv 2) (pv 1) (by rfl)) (Ao (DR (Dc PySem.F.plainAttrs_list PySem.F.slot_list_append PySem.F.type_list_append Ft (pv 1) (Ad (pv 2) Ab)))) Bj))) (Ao (Az (pv 1))))),?_⟩
 refine ⟨(by show 0<=sizeLine;decide),λ l nl=>?_⟩
 have u0:=Ah nl (.lst []);have hl0:upd H l (.lst []) l=some (.lst []):=Aq;generalize upd H l (.lst [])=H0 at u0 hl0 ⊢;have a0:=ha.keep u0;refine ⟨_,rfl,a,_,_,_,rfl,rfl,a0,rfl,_,rfl,a,_,_,_,rfl,rfl,a0,rfl,(by show 2<=sizeLine;decide),λ p1 hp1=>?_⟩
 have d1:DV K (upd H0 p1 (.tup [x1,x3])) (.ref p1) (Ax (x.a,x.c)):=DV.upd2 hp1 (h1.keep u0) (h3.keep u0);have u1:=Ah hp1 (.tup [x1,x3]);generalize upd H0 p1 (.tup [x1,x3])=H1 at d1 u1 ⊢;have t1:=u0.trans u1;have a1:=ha.keep t1;refine ⟨_,rfl,a,_,_,_,rfl,rfl,a1,rfl,_,rfl,a,_,_,_,rfl,rfl,a1,rfl,(by show 2<=sizeLine;decide),λ p2 hp2=>?_⟩
 have d2:DV K (upd H1 p2 (.tup [x2,x3])) (.ref p2) (Ax (x.b,x.c)):=DV.upd2 hp2 (h2.keep t1) (h3.keep t1);have u2:=Ah hp2 (.tup [x2,x3]);generalize upd H1 p2 (.tup [x2,x3])=H2 at d2 u2 ⊢;have t2:=t1.trans u2;have a2:=ha.keep t2;refine ⟨_,rfl,a,_,_,_,rfl,rfl,a2,rfl,_,rfl,a,_,_,_,rfl,rfl,a2,rfl,(by show 2<=sizeLine;decide),λ p3 hp3=>?_⟩
 have d3:DV K (upd H2 p3 (.tup [x2,x4])) (.ref p3) (Ax (x.b,x.d)):=DV.upd2 hp3 (h2.keep t2) (h4.keep t2);have u3:=Ah hp3 (.tup [x2,x4]);generalize upd H2 p3 (.tup [x2,x4])=H3 at d3 u3 ⊢;have t3:=t2.trans u3;have a3:=ha.keep t3;refine ⟨_,rfl,a,_,_,_,rfl,rfl,a3,rfl,_,rfl,a,_,_,_,rfl,rfl,a3,rfl,(by show 2<=sizeLine;decide),λ p4 hp4=>?_⟩
 have d4:DV K (upd H3 p4 (.tup [x1,x4])) (.ref p4) (Ax (x.a,x.d)):=DV.upd2 hp4 (h1.keep t3) (h4.keep t3);have u4:=Ah hp4 (.tup [x1,x4]);generalize upd H3 p4 (.tup [x1,x4])=H4 at d4 u4 ⊢;refine ⟨(by show 4<=sizeLine;decide),λ p5 hp5=>?_⟩
 have u5:=Ah hp5 (.lst [.ref p1,.ref p2,.ref p3,.ref p4]);have hp51:upd H4 p5 (.lst [.ref p1,.ref p2,.ref p3,.ref p4]) p5=some (.lst [.ref p1,.ref p2,.ref p3,.ref p4]):=Aq;have hall:DVs K (upd H4 p5 (.lst [.ref p1,.ref p2,.ref p3,.ref p4])) [.ref p1,.ref p2,.ref p3,.ref p4] (x.four.map Ax):=.cons (d1.keep (u2.trans (u3.trans (u4.trans u5)))) (.cons (d2.keep (u3.trans (u4.trans u5))) (.cons (d3.keep (u4.trans u5)) (.cons (d4.keep u5) .nil)));have hl5:=(u1.trans (u2.trans (u3.trans (u4.trans u5)))) _ _ hl0;have t5:=t3.trans (u4.trans u5);have np:p5≠l:=λ e=>by rw [e,(u1.trans (u2.trans (u3.trans u4))) _ _ hl0] at hp5;cases hp5
 generalize upd H4 p5 (.lst [.ref p1,.ref p2,.ref p3,.ref p4])=H5 at hp51 hall hl5 t5 ⊢;clear u0 u1 u2 u3 u4 u5 t1 t2 t3 a0 a1 a2 a3 d1 d2 d3 d4;refine ⟨p5,rfl,⟨_,SqL.of hp51⟩,?_⟩;refine Fg (K:=K) (a:=p5) (xs:=[.ref p1,.ref p2,.ref p3,.ref p4]) (λ i σ H'=>∃c2 vs,σ=[some (.ref a),some (.ref l),c2]/\Same H H'/\H' p5=some (.lst [.ref p1,.ref p2,.ref p3,.ref p4])/\DVs K H' [.ref p1,.ref p2,.ref p3,.ref p4] (x.four.map Ax)/\H' l=some (.lst vs)/\DVs K H' vs ((Er x.four i).map Ax)) ⟨_,[],rfl,t5,hp51,hall,hl5,.nil⟩ ?_ ?_ ?_
 ·rintro i σ H' hi ⟨c2,vs,rfl,s3,hp,_⟩
  exact SqL.of hp
 ·rintro i y σ H' hi ⟨c2,vs,rfl,s3,hp,hall,hlv,hvs⟩
  obtain ⟨d,hd,hy⟩:=hall.get hi;obtain ⟨cr,hcr,rfl⟩:=Io hd;have hle:=bM x.four i;have hi4:i < 4:=Cq hi;have vl:vs.length=(Er x.four i).length:=by have:=hvs.len;rw [List.length_map] at this;exact this
  refine ⟨_,rfl,_,rfl,l,vs,_,_,rfl,SqL.of hlv,hy,hvs,rfl,(by show (Ax cr).depth<=60;exact Nat.le_trans (Ia cr).d (by decide)),W7 _,_,rfl,?_⟩
  rw [Rf,ZS];by_cases hm:cr∈Er x.four i
  ·refine Bf (by rw [decide_eq_true hm];rfl) ?_
   exact ⟨_,vs,rfl,s3,hp,hall,hlv,by rw [Vo hcr,if_pos hm];exact hvs⟩
  ·refine Bt (by rw [decide_eq_false hm];rfl) ?_
   refine ⟨_,rfl,.inl ⟨rfl,_,SqL.of hlv⟩,?_⟩;refine ⟨_,rfl,l,vs,_,rfl,rfl,hlv,small1000 (by omega),?_⟩
   have uT:=Ej hlv (.lst (vs++[y]));refine ⟨_,vs++[y],rfl,?_,?_,?_,Aq,?_⟩
   ·intro b o e;rw [Av (Bm e nl)];exact s3 _ _ e
   ·rw [Av np];exact hp
   ·exact DG uT (DY Eb _) hall
   ·rw [Vo hcr,if_neg hm,List.map_append];exact DG uT (by rw [<- List.map_append];exact DY Eb _) (hvs.append (.cons hy .nil))
 ·rintro σ H' ⟨c2,vs,rfl,s3,hp,hall,hlv,hvs⟩
  refine ⟨_,rfl,k _ _ s3 ?_⟩;have e:Df x=Er x.four 4:=(fQ x.four).symm;rw [e];exact .lst (SqL.of hlv) hvs
theorem jd (T:Txt K mg ad):CalB P w K mg base true 4 "edges_of" ["limit"] (PR K vG):=by
 have Dh:=Kz (P:=P) (w:=w) (base:=base) T;refine T.R3.calN LK (λ _ _ _ _ _ _=>by1 λ _=>rfl) (λ vs H Q E h=>?_) (λ f cdv A outer s H vs Q E hr h=>?_)
 ·obtain ⟨_,_,dv,⟨_,_,_,rfl,_⟩,_⟩:=h;exact dv.len
 obtain ⟨_,_,dv,⟨l,n,M,rfl,lb,hn,hM,rfl⟩,k⟩:=h;obtain ⟨_,rfl,hx⟩:=dv.one;obtain ⟨a,x1,x2,x3,x4,rfl,ha,h1,h2,h3,h4⟩:=DV.t5 hx;have z0:Sm (0:Rat):=(⟨by decide+kernel,by decide+kernel⟩:Bd 1 (0:Rat)).sm (by decide)
 refine ⟨_,(Al (Aw (i:=1) LK.nd rfl (Or.inl rfl) (Ag Am (pv 0) Ac (λ _ _=>rfl))) (Al (Aw (i:=2) LK.nd rfl (Or.inl rfl) (Ag Am (pv 0) Ac (λ _ _=>rfl))) (Al (Aw (i:=3) LK.nd rfl (Or.inl rfl) (BK (Ad (pv 1) (Ad (pv 2) (BX (Aj Dh (hr.mono (by decide)) Ai (Ad (CJ (v:=.ref ad.NOUGHT) rfl T.ex.m_NOUGHT rfl) (Ar (Ag Am (pv 0) Ac (λ _ _=>rfl)) Ab))) Ab))))) (Al (Aw (i:=4) LK.nd rfl (Or.inl rfl) (BK (BX (Aj Dh (hr.mono (by decide)) Ai (Ad (CJ (v:=.ref ad.NOUGHT) rfl T.ex.m_NOUGHT rfl) (Ad (pv 1) Ab))) (BX (Aj Dh (hr.mono (by decide)) Ai (Ad (CJ (v:=.ref ad.NOUGHT) rfl T.ex.m_NOUGHT rfl) (Ad (pv 2) Ab))) (Ar (Ag Am (pv 0) Ac (λ _ _=>rfl)) Ab))))) (Ao (Az (Cg (Ad (pv 3) (Ad (pv 4) Ab))))))))),?_⟩
 refine ⟨_,rfl,a,_,_,_,rfl,rfl,ha,rfl,_,rfl,a,_,_,_,rfl,rfl,ha,rfl,?_⟩;refine ⟨_,rfl,_,rfl,_,rfl,a,_,_,_,rfl,rfl,ha,rfl,_,_,.cons (dN T _) (.cons h3 .nil),⟨0,_,rfl,z0,lb.lo.sm hM,rfl⟩,λ v1 H1 s1 hv1=>?_⟩
 refine ⟨(by show 3<=sizeLine;decide),λ p1 hp1=>?_⟩
 have d1:DV K (upd H1 p1 (.tup [x1,x2,v1])) (.ref p1) (Ib (Gp l)):=DV.upd3 hp1 (h1.keep s1) (h2.keep s1) hv1;have u1:=Ah hp1 (.tup [x1,x2,v1]);generalize upd H1 p1 (.tup [x1,x2,v1])=H2 at d1 u1 ⊢;have t2:=s1.trans u1;refine ⟨_,rfl,_,_,.cons (dN T _) (.cons (h1.keep t2) .nil),⟨0,_,rfl,z0,lb.a.sm hn,rfl⟩,λ v2 H3 s3 hv2=>?_⟩
 refine ⟨_,rfl,_,_,.cons (dN T _) (.cons (h2.keep (t2.trans s3)) .nil),⟨0,_,rfl,z0,lb.b.sm hn,rfl⟩,λ v3 H4 s4 hv3=>?_⟩
 have t4:=t2.trans (s3.trans s4);refine ⟨_,rfl,a,_,_,_,rfl,rfl,ha.keep t4,rfl,(by show 3<=sizeLine;decide),λ p2 hp2=>?_⟩
 have d2:DV K (upd H4 p2 (.tup [v2,v3,x4])) (.ref p2) (Ib (JG l)):=DV.upd3 hp2 (hv2.keep s4) hv3 (h4.keep t4);have u2:=Ah hp2 (.tup [v2,v3,x4]);generalize upd H4 p2 (.tup [v2,v3,x4])=H5 at d2 u2 ⊢;refine ⟨_,rfl,_,rfl,(by show 2<=sizeLine;decide),λ p3 hp3=>?_⟩
 have u3:=Ah hp3 (.lst [.ref p1,.ref p2]);refine k _ _ (t4.trans (u2.trans u3)) (.lst (SqL.of Aq) (.cons (d1.keep (s3.trans (s4.trans (u2.trans u3)))) (.cons (d2.keep u3) .nil)))
theorem yD (T:Txt K mg ad):CalB P w K mg base true 4 "room_at" ["edge","ray"] (PR K ji):=by
 have FW:=Ka (P:=P) (w:=w) (base:=base) T;have DP:=JN (P:=P) (w:=w) (base:=base) T;refine T.VH.calN iB (λ _ _ _ _ _ _=>Bs λ _ _=>rfl) (λ vs H Q E h=>?_) (λ f cdv A outer s H vs Q E hr h=>?_)
 ·obtain ⟨_,_,dv,⟨_,_,_,_,_,rfl,_⟩,_⟩:=h;exact dv.len
 obtain ⟨_,_,dv,⟨e,r,n,M,c,rfl,eb,rb,hle,rfl⟩,k⟩:=h;obtain ⟨_,_,rfl,hx,hy⟩:=dv.two;obtain ⟨a,x1,x2,x3,rfl,ha,h1,h2,h3⟩:=DV.t3e hx;obtain ⟨b,y1,y2,rfl,hb,g1,g2⟩:=DV.t2 hy;refine ⟨_,(Ao (Az (Aj FW (hr.mono (by decide)) Ai (BX (Aj FW (hr.mono (by decide)) Ai (BX (Aj DP (hr.mono (by decide)) Ai (Ar (Ag Am (pv 0) Ac (λ _ _=>rfl)) (Ar (Ag Am (pv 1) Ac (λ _ _=>rfl)) Ab))) (BX (Aj DP (hr.mono (by decide)) Ai (Ar (Ag Am (pv 0) Ac (λ _ _=>rfl)) (Ar (Ag Am (pv 1) Ac (λ _ _=>rfl)) Ab))) Ab))) (Ar (Ag Am (pv 0) Ac (λ _ _=>rfl)) Ab))))),?_⟩
 refine ⟨_,rfl,a,_,_,_,rfl,rfl,ha,rfl,_,rfl,b,_,_,_,rfl,rfl,hb,rfl,_,_,.cons h1 (.cons g1 .nil),⟨_,_,rfl,eb.a.sm (by omega),rb.y.sm (by omega),rfl⟩,λ v1 H1 s1 hv1=>?_⟩
 refine ⟨_,rfl,a,_,_,_,rfl,rfl,ha.keep s1,rfl,_,rfl,b,_,_,_,rfl,rfl,hb.keep s1,rfl,_,_,.cons (h2.keep s1) (.cons (g2.keep s1) .nil),⟨_,_,rfl,eb.b.sm (by omega),rb.u.sm (by omega),rfl⟩,λ v2 H2 s2 hv2=>?_⟩
 have e1:=eb.a.mul rb.y;have e2:=eb.b.mul rb.u;refine ⟨_,_,.cons (hv1.keep s2) (.cons hv2 .nil),⟨_,_,rfl,e1.sm (by omega),e2.sm (by omega),rfl⟩,λ v3 H3 s3 hv3=>?_⟩
 have t3:=s1.trans (s2.trans s3);refine ⟨_,rfl,a,_,_,_,rfl,rfl,ha.keep t3,rfl,_,_,.cons hv3 (.cons (h3.keep t3) .nil),⟨_,_,rfl,(e1.add e2).sm (by omega),eb.c.sm (by omega),rfl⟩,λ v4 H4 s4 hv4=>?_⟩
 exact k _ _ (t3.trans s4) hv4
theorem uK (T:Txt K mg ad):CalB P w K mg base true 4 "crossing_of" ["one","other","one_room","other_room"] (PR K sW):=by
 have FW:=Ka (P:=P) (w:=w) (base:=base) T;have DP:=JN (P:=P) (w:=w) (base:=base) T;have Dh:=Kz (P:=P) (w:=w) (base:=base) T;have Ng:=XH (P:=P) (w:=w) (base:=base) T;refine T.Sd.calN Nj (λ _ _ _ _ _ _=>by4 λ _ _ _ _=>rfl) (λ vs H Q E h=>?_) (λ f cdv A outer s H vs Q E hr h=>?_)
 ·obtain ⟨_,_,dv,⟨_,_,_,_,_,_,rfl,_⟩,_⟩:=h;exact dv.len
 obtain ⟨_,_,dv,⟨p,q,x,y,c,n,rfl,pb,qb,xb,yb,hne,hle,rfl⟩,k⟩:=h;obtain ⟨_,_,rx,ry,rfl,hp,hq,hx,hy⟩:=dv.four;obtain ⟨a,x1,x2,rfl,ha,h1,h2⟩:=DV.t2 hp;obtain ⟨b,y1,y2,rfl,hb,g1,g2⟩:=DV.t2 hq;refine ⟨_,(Al (Aw (i:=4) Nj.nd rfl (Or.inl rfl) (Aj Ng (hr.mono (by decide)) Ai (Ad (pv 2) (BX (Aj Dh (hr.mono (by decide)) Ai (Ad (pv 2) (Ad (pv 3) Ab))) Ab)))) (Al (Aw (i:=5) Nj.nd rfl (Or.inl rfl) (Aj FW (hr.mono (by decide)) Ai (Ar (Ag Am (pv 0) Ac (λ _ _=>rfl)) (BX (Aj DP (hr.mono (by decide)) Ai (Ad (pv 4) (BX (Aj Dh (hr.mono (by decide)) Ai (Ar (Ag Am (pv 1) Ac (λ _ _=>rfl)) (Ar (Ag Am (pv 0) Ac (λ _ _=>rfl)) Ab))) Ab))) Ab)))) (Al (Aw (i:=6) Nj.nd rfl (Or.inl rfl) (Aj FW (hr.mono (by decide)) Ai (Ar (Ag Am (pv 0) Ac (λ _ _=>rfl)) (BX (Aj DP (hr.mono (by decide)) Ai (Ad (pv 4) (BX (Aj Dh (hr.mono (by decide)) Ai (Ar (Ag Am (pv 1) Ac (λ _ _=>rfl)) (Ar (Ag Am (pv 0) Ac (λ _ _=>rfl)) Ab))) Ab))) Ab)))) (Ao (Az (BK (Ad (pv 5) (Ad (pv 6) Ab)))))))),?_⟩
 refine ⟨_,rfl,_,rfl,_,rfl,_,_,.cons hx (.cons hy .nil),⟨_,_,rfl,xb.sm (by omega),yb.sm (by omega),rfl⟩,λ v1 H1 s1 hv1=>?_⟩
 have e1:=xb.sub yb;refine ⟨_,_,.cons (hx.keep s1) (.cons hv1 .nil),⟨_,_,rfl,xb.sm (by omega),e1.sm (by omega),hne,rfl⟩,λ v2 H2 s2 hv2=>?_⟩
 have e2:=xb.div e1 hne;have t2:=s1.trans s2;refine ⟨_,rfl,a,_,_,_,rfl,rfl,ha.keep t2,rfl,_,rfl,_,rfl,b,_,_,_,rfl,rfl,hb.keep t2,rfl,_,rfl,a,_,_,_,rfl,rfl,ha.keep t2,rfl,_,_,.cons (g1.keep t2) (.cons (h1.keep t2) .nil),⟨_,_,rfl,qb.y.sm (by omega),pb.y.sm (by omega),rfl⟩,λ v3 H3 s3 hv3=>?_⟩
 have e3:=qb.y.sub pb.y;refine ⟨_,_,.cons (hv2.keep s3) (.cons hv3 .nil),⟨_,_,rfl,e2.sm (by omega),e3.sm (by omega),rfl⟩,λ v4 H4 s4 hv4=>?_⟩
 have t4:=t2.trans (s3.trans s4);refine ⟨_,_,.cons (h1.keep t4) (.cons hv4 .nil),⟨_,_,rfl,pb.y.sm (by omega),(e2.mul e3).sm (by omega),rfl⟩,λ v5 H5 s5 hv5=>?_⟩
 have t5:=t4.trans s5;refine ⟨_,rfl,a,_,_,_,rfl,rfl,ha.keep t5,rfl,_,rfl,_,rfl,b,_,_,_,rfl,rfl,hb.keep t5,rfl,_,rfl,a,_,_,_,rfl,rfl,ha.keep t5,rfl,_,_,.cons (g2.keep t5) (.cons (h2.keep t5) .nil),⟨_,_,rfl,qb.u.sm (by omega),pb.u.sm (by omega),rfl⟩,λ v6 H6 s6 hv6=>?_⟩
 have e6:=qb.u.sub pb.u;refine ⟨_,_,.cons (hv2.keep (s3.trans (s4.trans (s5.trans s6)))) (.cons hv6 .nil),⟨_,_,rfl,e2.sm (by omega),e6.sm (by omega),rfl⟩,λ v7 H7 s7 hv7=>?_⟩
 have t7:=t5.trans (s6.trans s7);refine ⟨_,_,.cons (h2.keep t7) (.cons hv7 .nil),⟨_,_,rfl,pb.u.sm (by omega),(e2.mul e6).sm (by omega),rfl⟩,λ v8 H8 s8 hv8=>?_⟩
 refine ⟨_,rfl,_,rfl,(by show 2<=sizeLine;decide),λ p9 hp9=>?_⟩
 exact k _ _ (t7.trans (s8.trans (Ah hp9 _))) (DV.upd2 hp9 (hv5.keep (s6.trans (s7.trans s8))) hv8)
end
end K84
namespace K84
open PySem L2 Lib Fr Op
seal PE PT PW PA PS PSs PG PGs PI PO CZ
section
variable {P:Program}{w:World}{K:FrG}{mg:Str->Option Value}{base:Heap}{ad:Adr}{c:Bool}
theorem YH (T:Txt K mg ad):CalB P w K mg base true 2 "is_before" ["one","other"] (PR K qw):=by
 have Cv:=Gq (P:=P) (w:=w) (base:=base) T;refine T.U5.calN xU (λ _ _ _ _ _ _=>Bs λ _ _=>rfl) (λ vs H Q E h=>?_) (λ f cdv A outer s H vs Q E hr h=>?_)
 ·obtain ⟨_,_,dv,⟨_,_,_,rfl,_⟩,_⟩:=h;exact dv.len
 obtain ⟨_,_,dv,⟨r1,r2,n,rfl,b1,b2,hn,rfl⟩,k⟩:=h;obtain ⟨_,_,rfl,hx,hy⟩:=dv.two;obtain ⟨a,x1,x2,rfl,ha,hx1,hx2⟩:=DV.t2 hx;obtain ⟨b,y1,y2,rfl,hb,hy1,hy2⟩:=DV.t2 hy;refine ⟨_,(Al (Be (Bo (RK hr.units) (Ag Am (pv 0) Ac (λ _ _=>rfl)) (Ag Am (pv 1) Ac (λ _ _=>rfl)) (nomark _)) (Ao (Az (Aj Cv (hr.mono (by decide)) Ai (Ar (Ag Am (pv 0) Ac (λ _ _=>rfl)) (Ar (Ag Am (pv 1) Ac (λ _ _=>rfl)) Ab))))) Bj) (Ao (Az (Aj Cv (hr.mono (by decide)) Ai (Ar (Ag Am (pv 0) Ac (λ _ _=>rfl)) (Ar (Ag Am (pv 1) Ac (λ _ _=>rfl)) Ab)))))),?_⟩
 refine ⟨_,rfl,a,_,_,_,rfl,rfl,ha,rfl,_,rfl,b,_,_,_,rfl,rfl,hb,rfl,yQ hx1 hy1 ⟨_,rfl,?_⟩⟩;by_cases e:r1.1=r2.1
 ·refine Bf (by rw [decide_eq_true e];rfl) ?_
  refine ⟨_,rfl,a,_,_,_,rfl,rfl,ha,rfl,_,rfl,b,_,_,_,rfl,rfl,hb,rfl,_,_,.cons hx2 (.cons hy2 .nil),⟨_,_,rfl,b1.u.sm hn,b2.u.sm hn,rfl⟩,λ v H1 s1 hv=>?_⟩
  refine k _ _ s1 ?_;have e2:Bw r1 r2=decide (r1.2 < r2.2):=by unfold Bw;rw [if_pos e]
  rw [e2];exact hv
 ·refine Bt (by rw [decide_eq_false e];rfl) ?_
  refine ⟨_,rfl,a,_,_,_,rfl,rfl,ha,rfl,_,rfl,b,_,_,_,rfl,rfl,hb,rfl,_,_,.cons hx1 (.cons hy1 .nil),⟨_,_,rfl,b1.y.sm hn,b2.y.sm hn,rfl⟩,λ v H1 s1 hv=>?_⟩
  refine k _ _ s1 ?_;have e2:Bw r1 r2=decide (r1.1 < r2.1):=by unfold Bw;rw [if_neg e]
  rw [e2];exact hv
theorem oG (T:Txt K mg ad):CalB P w K mg base true 5 "cut_by" ["edge","corners"] (PR K vU):=by
 have wB:=yD (P:=P) (w:=w) (base:=base) T;have nO:=uK (P:=P) (w:=w) (base:=base) T;refine T.Qy.calN JF (λ _ _ _ _ _ _=>Bs λ _ _=>rfl) (λ vs H Q E h=>?_) (λ f cdv A outer s H vs Q E hr h=>?_)
 ·obtain ⟨_,_,dv,⟨_,_,_,_,_,rfl,_⟩,_⟩:=h;exact dv.len
 obtain ⟨_,_,dv,⟨e,ps,n,M,c,rfl,eb,pb,hle,hps,rfl⟩,k⟩:=h;obtain ⟨ev,_,rfl,he,hx⟩:=dv.two;obtain ⟨a,xs,rfl,ha,hxs⟩:=DV.lst_of hx;have hl:xs.length=ps.length:=by have:=hxs.len;rw [List.length_map] at this;exact this
 refine ⟨_,(Al (Lp (i:=2) JF.nd rfl (by first | exact Or.inl rfl | exact Or.inr rfl) ["corner","edge"] [none,some 0] rfl (Dw (pv 1)) (λ _ _ _ _ _ _=>(Bq (i:=0) (show List.Nodup [("corner":Str),("edge":Str)] by decide) rfl (by first | exact Or.inl rfl | exact Or.inr rfl))) (λ _ _ _ _ _ _=>Gy) (λ _ _ _ _ _ _=>(Aj wB (hr.mono (by decide)) Ai (Ad (pv 1) (Ad (pv 0) Ab)))) (JX (hcell:=by decide) (hf:=(show ∀y:Str×NameKind,y∈_->y.2=NameKind.free->(defScope O9).names.lookup y.1=some NameKind.cell by decide))) (by decide) rfl (by decide) rfl (λ i j h=>by
   rcases i with _ | _ | i
   ·simp at h
   ·simp at h;subst h;exact ⟨_,rfl,rfl,rfl,rfl⟩
   ·simp at h)) (Al (Aw (i:=3) JF.nd rfl (Or.inl rfl) (Cg Ab)) (Al (DW PassesOwn.never rfl (Ig rfl T.enumerate (Ad (pv 1) Ab)) (HY (n:=2) rfl (Ci (Bq (i:=4) JF.nd rfl (by first | exact Or.inl rfl | exact Or.inr rfl)) (Ci (Bq (i:=5) JF.nd rfl (by first | exact Or.inl rfl | exact Or.inr rfl)) Eu))) (Al (Aw (i:=6) JF.nd rfl (Or.inl rfl) (Ay Ec (pv 4) Ac)) (Al (Be (Bo JM (Ay Dd (Ag Am (Ag CV (pv 2) (pv 6) (λ _ _=>rfl)) Ac (λ _ _=>rfl)) (Ag Am (Ag CV (pv 2) (pv 4) (λ _ _=>rfl)) Ac (λ _ _=>rfl))) Ac (nomark _)) (Al (Aw (i:=7) JF.nd rfl (Or.inl rfl) (Aj nO (hr.mono (by decide)) Ai (Ar (Ag CV (pv 1) (pv 6) (λ _ _=>rfl)) (Ad (pv 5) (Ar (Ag CV (pv 2) (pv 6) (λ _ _=>rfl)) (Ar (Ag CV (pv 2) (pv 4) (λ _ _=>rfl)) Ab)))))) (Ao (Be (Bo (cQ hr.units) (pv 7) (pv 3) (by rfl)) (Ao (DR (Dc PySem.F.plainAttrs_list PySem.F.slot_list_append PySem.F.type_list_append Ft (pv 3) (Ad (pv 7) Ab)))) Bj))) Bj) (Ao (Be (Bo Y8 (Ag Am (Ag CV (pv 2) (pv 4) (λ _ _=>rfl)) Ac (λ _ _=>rfl)) Ac (nomark _)) (Ao (DR (Dc PySem.F.plainAttrs_list PySem.F.slot_list_append PySem.F.type_list_append Ft (pv 3) (Ad (pv 5) Ab)))) Bj))))) (Ao (Az (pv 3)))))),?_⟩
 refine ⟨_,rfl,a,rfl,⟨_,ha⟩,?_⟩;refine O5 (K:=K) (a:=a) (xs:=xs) (λ i σ ys H'=>∃c0,σ=[c0,some ev]/\Same H H'/\DVs K H' ys (((ps.take i).map (Ae e)).map Af)) ⟨_,rfl,Same.refl _,.nil⟩ ?_ ?_ ?_
 ·rintro i σ ys H' hi ⟨c0,rfl,s1,hys⟩
  refine ⟨Nat.le_of_lt (small1000 ?_),ha.keep s1⟩;have:=hys.len;rw [List.length_map,List.length_map,List.length_take] at this;omega
 ·rintro i x σ ys H' hi ⟨c0,rfl,s1,hys⟩
  obtain ⟨d,hd,hx⟩:=hxs.get hi;obtain ⟨cr,hcr,rfl⟩:=Io hd;have bc:=pb _ (List.mem_of_getElem? hcr);refine ⟨_,rfl,_,rfl,_,_,.cons (he.keep s1) (.cons (hx.keep s1) .nil),⟨_,_,n,M,c,rfl,eb,bc,by omega,rfl⟩,λ v H2 s2 hv=>?_⟩
  refine nx (Cq hi) ⟨_,rfl,s1.trans s2,?_⟩;rw [List.take_add_one,hcr,List.map_append,List.map_append];exact (hys.keep s2).append (.cons hv .nil)
 rintro σ' rs H1 lr ⟨c0,rfl,s1,hrs⟩ nlr
 rw [hl,List.take_length] at hrs;have u1:=Ah nlr (.lst rs);have hlr:upd H1 lr (.lst rs) lr=some (.lst rs):=Aq;have hrs1:=hrs.keep u1;have s2:=s1.trans u1;generalize upd H1 lr (.lst rs)=H2 at u1 hlr hrs1 s2 ⊢;have hrl:rs.length=ps.length:=by have:=hrs.len;rw [List.length_map,List.length_map] at this;exact this
 refine ⟨(by show 0<=sizeLine;decide),λ l nl=>?_⟩
 have u3:=Ah nl (.lst []);have hl0:upd H2 l (.lst []) l=some (.lst []):=Aq;have hlr3:=u3 _ _ hlr;have hrs3:=hrs1.keep u3;have s3:=s2.trans u3;have nlH:H l=none:=s2.free nl;have nel:lr≠l:=λ e=>by rw [e,nl] at hlr;cases hlr
 generalize upd H2 l (.lst [])=H3 at u3 hl0 hlr3 hrs3 s3 ⊢;refine ⟨_,rfl,a,rfl,⟨_,ha.keep s3⟩,?_⟩;refine Jf (K:=K) (a:=a) (xs:=xs) (λ i σ H'=>∃c4 c5 c6 c7 vs,σ=[some ev,some (.ref a),some (.ref lr),some (.ref l),c4,c5,c6,c7]/\Same H H'/\H' lr=some (.lst rs)/\DVs K H' rs ((ps.map (Ae e)).map Af)/\H' l=some (.lst vs)/\DVs K H' vs ((GK e ps i).map Ax)) ⟨_,_,_,_,[],rfl,s3,hlr3,hrs3,hl0,.nil⟩ ?_ ?_ ?_
 ·rintro i σ H' hi ⟨c4,c5,c6,c7,vs,rfl,s4,_⟩
  exact ha.keep s4
 ·rintro i x σ H' p hi ⟨c4,c5,c6,c7,vs,rfl,s4,hlr4,hrs4,hlv,hvs⟩ hp
  have hi':=Cq hi;have up:=Ah hp (.tup [.int i,x]);obtain ⟨v0,hv0,hd0⟩:=XM hxs (i:=i) (by omega)
  obtain ⟨v1,hv1,hd1⟩:=Hv hxs (i:=i) (by omega)
  cases hi.symm.trans hv1
  have vl:vs.length<=2 * i:=by
   have h1:=hvs.len;rw [List.length_map] at h1;have h2:=jx e ps i;omega
  have m0:=pb _ (XJ (cs:=ps) (i:=i) (by omega))
  have m1:=pb _ (Hy (cs:=ps) (i:=i) (by omega))
  refine ⟨p,_,rfl,SqT.of Aq,rfl,_,_,rfl,_,_,rfl,rfl,?_⟩;have s5:=s4.trans up;have hlr5:=up _ _ hlr4;have hrs5:=hrs4.keep up;have hlv5:=up _ _ hlv;have hvs5:=hvs.keep up;have hd0:=hd0.keep s5;have hd1:=hd1.keep s5;generalize upd H' p (.tup [.int i,x])=H5 at s5 hlr5 hrs5 hlv5 hvs5 hd0 hd1 ⊢;clear up hlr4 hrs4 hlv hvs s4;obtain ⟨w0,hw0,hr0⟩:=eX hrs5 (i:=i) (by omega)
  obtain ⟨w1,hw1,hr1⟩:=R0 hrs5 (i:=i) (by omega)
  obtain ⟨q0,rfl,hq0⟩:=XQ hr0;obtain ⟨q1,rfl,hq1⟩:=XQ hr1;have b0:Bd (2 * (c+n)+M+2) (Ae e (Cz ps i)):=(((eb.a.mul m0.y).add (eb.b.mul m0.u)).add eb.c).mono (by omega)
  have b1:Bd (2 * (c+n)+M+2) (Ae e (Bg ps i)):=(((eb.a.mul m1.y).add (eb.b.mul m1.u)).add eb.c).mono (by omega)
  have sz:CMulW (Ae e (Cz ps i)).num (Ae e (Bg ps i)).num:=⟨Nat.lt_of_lt_of_le b0.n (EY (by omega)),Nat.lt_of_lt_of_le b1.n (EY (by omega))⟩
  have ec:=gH e (ps:=ps) (i:=i) (by omega)
  unfold Gs at ec;dsimp only at ec
  refine ⟨_,rfl,_,_,rfl,rfl,?_⟩;refine ⟨_,rfl,_,rfl,lr,_,_,_,rfl,rfl,SqL.of hlr5,hw0,q0,_,_,_,rfl,rfl,hq0,CQ,_,rfl,_,rfl,lr,_,_,_,rfl,rfl,SqL.of hlr5,Eh hw1,q1,_,_,_,rfl,rfl,hq1,CQ,_,_,rfl,rfl,sz,_,_,rfl,rfl,_,rfl,?_⟩;by_cases hx:Ae e (Cz ps i) * Ae e (Bg ps i) < 0
  ·refine Bt (decide_eq_true ((cL _ _).mpr hx)) ?_;have hne:Ae e (Cz ps i) - Ae e (Bg ps i)≠0:=by rcases DK hx with z | z<;>grind
   refine ⟨_,rfl,_,rfl,a,_,_,v0,rfl,rfl,ha.keep s5,hv0,_,rfl,_,rfl,_,rfl,lr,_,_,_,rfl,rfl,SqL.of hlr5,hw0,_,rfl,_,rfl,lr,_,_,_,rfl,rfl,SqL.of hlr5,Eh hw1,_,_,.cons hd0 (.cons hd1 (.cons hr0 (.cons hr1 .nil))),⟨_,_,_,_,c,_,rfl,m0,m1,b0,b1,hne,hle,rfl⟩,λ cv H6 s6 hcv=>?_⟩
   have hcv:DV K H6 cv (Ax (Bh e (Cz ps i) (Bg ps i))):=hcv;have hlv6:=s6 _ _ hlv5;have hvs6:=hvs5.keep s6;have hlr6:=s6 _ _ hlr5;have hrs6:=hrs5.keep s6;have hq16:=hq1.keep s6;have hd16:=hd1.keep s6;have s06:=s5.trans s6;refine ⟨_,rfl,_,rfl,l,vs,_,_,rfl,SqL.of hlv6,hcv,hvs6,rfl,(by show (Ax _).depth<=60;exact Nat.le_trans (Ia _).d (by decide)),W7 _,_,rfl,?_⟩
   rw [Rf,ZS];by_cases hm:Bh e (Cz ps i) (Bg ps i)∈GK e ps i
   ·refine Bf (by rw [decide_eq_true hm];rfl) ?_
    rw [if_neg (λ z=>z.2 hm)] at ec
    clear hvs5 hlv5 hrs5 hlr5 hd0 hd1 hr0 hr1 hq0 hq1;refine ⟨_,rfl,_,rfl,lr,_,_,_,rfl,rfl,SqL.of hlr6,Eh hw1,q1,_,_,_,rfl,rfl,hq16,CQ,_,_,rfl,rfl,_,rfl,?_⟩;by_cases hn:0<=Ae e (Bg ps i)
    ·refine Bt (decide_eq_true ((KC _).mpr hn)) ?_;rw [if_pos hn] at ec;refine ⟨_,rfl,.inl ⟨rfl,_,SqL.of hlv6⟩,?_⟩;refine ⟨_,rfl,l,vs,_,rfl,rfl,hlv6,small1000 (by omega),?_⟩
     have uT:=Ej hlv6 (.lst (vs++[x]));refine ⟨_,_,_,_,vs++[x],rfl,?_,?_,?_,Aq,?_⟩
     ·intro b o e;rw [Av (Bm e nlH)];exact s06 _ _ e
     ·rw [Av nel];exact hlr6
     ·exact DG uT (DY Lk _) hrs6
     ·rw [ec,List.map_append];exact DG uT (by rw [<- List.map_append];exact DY Eb _) (hvs6.append (.cons hd16 .nil))
    ·refine Bf (decide_eq_false (λ z=>hn ((KC _).mp z))) ?_
     rw [if_neg hn,List.append_nil] at ec;exact ⟨_,_,_,_,vs,rfl,s06,hlr6,hrs6,hlv6,by rw [ec];exact hvs6⟩
   ·refine Bt (by rw [decide_eq_false hm];rfl) ?_
    rw [if_pos ⟨hx,hm⟩] at ec;refine ⟨_,rfl,.inl ⟨rfl,_,SqL.of hlv6⟩,?_⟩;refine ⟨_,rfl,l,vs,_,rfl,rfl,hlv6,small1000 (by omega),?_⟩
    have uT:=Ej hlv6 (.lst (vs++[cv]));have s06:Same H (upd H6 l (.lst (vs++[cv]))):=λ b o e=>by
     rw [Av (Bm e nlH)];exact s06 _ _ e
    have hlr6:upd H6 l (.lst (vs++[cv])) lr=some (.lst rs):=by rw [Av nel];exact hlr6
    have hrs6:DVs K (upd H6 l (.lst (vs++[cv]))) rs ((ps.map (Ae e)).map Af):=DG uT (DY Lk _) hrs6;have hvs6:DVs K (upd H6 l (.lst (vs++[cv]))) (vs++[cv]) ((GK e ps i++[Bh e (Cz ps i) (Bg ps i)]).map Ax):=by
     rw [List.map_append];exact DG uT (by rw [<- List.map_append];exact DY Eb _) (hvs6.append (.cons hcv .nil))
    have hq16:SqT K (upd H6 l (.lst (vs++[cv]))) q1 _:=vd uT hq16;have hd16:DV K (upd H6 l (.lst (vs++[cv]))) x (Ax (Bg ps i)):=Fq uT (Eb _) hd16;have hlv6:upd H6 l (.lst (vs++[cv])) l=some (.lst (vs++[cv])):=Aq;have vl:(vs++[cv]).length<=2 * i+1:=by rw [List.length_append];simp;omega
    clear uT hcv s6;generalize upd H6 l (.lst (vs++[cv]))=H6 at s06 hlr6 hrs6 hvs6 hq16 hd16 hlv6 ⊢;generalize vs++[cv]=vs at hvs6 hlv6 vl ⊢;clear hvs5 hlv5 hrs5 hlr5 hd0 hd1 hr0 hr1 hq0 hq1;refine ⟨_,rfl,_,rfl,lr,_,_,_,rfl,rfl,SqL.of hlr6,Eh hw1,q1,_,_,_,rfl,rfl,hq16,CQ,_,_,rfl,rfl,_,rfl,?_⟩;by_cases hn:0<=Ae e (Bg ps i)
    ·refine Bt (decide_eq_true ((KC _).mpr hn)) ?_;rw [if_pos hn] at ec;refine ⟨_,rfl,.inl ⟨rfl,_,SqL.of hlv6⟩,?_⟩;refine ⟨_,rfl,l,vs,_,rfl,rfl,hlv6,small1000 (by omega),?_⟩
     have uT:=Ej hlv6 (.lst (vs++[x]));refine ⟨_,_,_,_,vs++[x],rfl,?_,?_,?_,Aq,?_⟩
     ·intro b o e;rw [Av (Bm e nlH)];exact s06 _ _ e
     ·rw [Av nel];exact hlr6
     ·exact DG uT (DY Lk _) hrs6
     ·rw [ec,List.map_append];exact DG uT (by rw [<- List.map_append];exact DY Eb _) (hvs6.append (.cons hd16 .nil))
    ·refine Bf (decide_eq_false (λ z=>hn ((KC _).mp z))) ?_
     rw [if_neg hn,List.append_nil] at ec;exact ⟨_,_,_,_,vs,rfl,s06,hlr6,hrs6,hlv6,by rw [ec];exact hvs6⟩
  ·refine Bf (decide_eq_false (λ z=>hx ((cL _ _).mp z))) ?_
   rw [if_neg (λ z=>hx z.1)] at ec
   have s06:=s5;have hlr6:=hlr5;have hrs6:=hrs5;have hvs6:=hvs5;have hlv6:=hlv5;have hq16:=hq1;have hd16:=hd1;refine ⟨_,rfl,_,rfl,lr,_,_,_,rfl,rfl,SqL.of hlr6,Eh hw1,q1,_,_,_,rfl,rfl,hq16,CQ,_,_,rfl,rfl,_,rfl,?_⟩;by_cases hn:0<=Ae e (Bg ps i)
   ·refine Bt (decide_eq_true ((KC _).mpr hn)) ?_;rw [if_pos hn] at ec;refine ⟨_,rfl,.inl ⟨rfl,_,SqL.of hlv6⟩,?_⟩;refine ⟨_,rfl,l,vs,_,rfl,rfl,hlv6,small1000 (by omega),?_⟩
    have uT:=Ej hlv6 (.lst (vs++[x]));refine ⟨_,_,_,_,vs++[x],rfl,?_,?_,?_,Aq,?_⟩
    ·intro b o e;rw [Av (Bm e nlH)];exact s06 _ _ e
    ·rw [Av nel];exact hlr6
    ·exact DG uT (DY Lk _) hrs6
    ·rw [ec,List.map_append];exact DG uT (by rw [<- List.map_append];exact DY Eb _) (hvs6.append (.cons hd16 .nil))
   ·refine Bf (decide_eq_false (λ z=>hn ((KC _).mp z))) ?_
    rw [if_neg hn,List.append_nil] at ec;exact ⟨_,_,_,_,vs,rfl,s06,hlr6,hrs6,hlv6,by rw [ec];exact hvs6⟩
 ·rintro σ H' ⟨c4,c5,c6,c7,vs,rfl,s4,hlr4,hrs4,hlv,hvs⟩
  rw [hl,tW] at hvs;exact ⟨_,rfl,k _ _ s4 (.lst (SqL.of hlv) hvs)⟩
end
end K84
namespace K84
open PySem L2 Lib Fr Op
seal PE PT PW PA PS PSs PG PGs PI PO CZ
section
variable {P:Program}{w:World}{K:FrG}{mg:Str->Option Value}{base:Heap}{ad:Adr}{c:Bool}
theorem lO (T:Txt K mg ad):CalB P w K mg base true 4 "turn_of" ["start","end","ray"] (PR K mY):=by
 have Dh:=Kz (P:=P) (w:=w) (base:=base) T;have DP:=JN (P:=P) (w:=w) (base:=base) T;refine T.Vy.calN Vd (λ _ _ _ _ _ _=>Ij λ _ _ _=>rfl) (λ vs H Q E h=>?_) (λ f cdv A outer s H vs Q E hr h=>?_)
 ·obtain ⟨_,_,dv,⟨_,_,_,_,_,rfl,_⟩,_⟩:=h;exact dv.len
 obtain ⟨_,_,dv,⟨r1,r2,r3,n,m,rfl,b1,b2,b3,hn,rfl⟩,k⟩:=h;obtain ⟨_,_,_,rfl,hx,hy,hz⟩:=dv.three;obtain ⟨a,x1,x2,rfl,ha,hx1,hx2⟩:=DV.t2 hx;obtain ⟨b,y1,y2,rfl,hb,hy1,hy2⟩:=DV.t2 hy;obtain ⟨d,z1,z2,rfl,hd,hz1,hz2⟩:=DV.t2 hz;refine ⟨_,(Al (Aw (i:=3) Vd.nd rfl (Or.inl rfl) (Aj DP (hr.mono (by decide)) Ai (BX (Aj Dh (hr.mono (by decide)) Ai (Ar (Ag Am (pv 1) Ac (λ _ _=>rfl)) (Ar (Ag Am (pv 0) Ac (λ _ _=>rfl)) Ab))) (BX (Aj Dh (hr.mono (by decide)) Ai (Ar (Ag Am (pv 2) Ac (λ _ _=>rfl)) (Ar (Ag Am (pv 0) Ac (λ _ _=>rfl)) Ab))) Ab)))) (Al (Aw (i:=4) Vd.nd rfl (Or.inl rfl) (Aj DP (hr.mono (by decide)) Ai (BX (Aj Dh (hr.mono (by decide)) Ai (Ar (Ag Am (pv 1) Ac (λ _ _=>rfl)) (Ar (Ag Am (pv 0) Ac (λ _ _=>rfl)) Ab))) (BX (Aj Dh (hr.mono (by decide)) Ai (Ar (Ag Am (pv 2) Ac (λ _ _=>rfl)) (Ar (Ag Am (pv 0) Ac (λ _ _=>rfl)) Ab))) Ab)))) (Ao (Az (Aj Dh (hr.mono (by decide)) Ai (Ad (pv 3) (Ad (pv 4) Ab))))))),?_⟩
 refine ⟨_,rfl,b,_,_,_,rfl,rfl,hb,rfl,_,rfl,a,_,_,_,rfl,rfl,ha,rfl,_,_,.cons hy1 (.cons hx1 .nil),⟨_,_,rfl,b2.y.sm (by omega),b1.y.sm (by omega),rfl⟩,λ v1 H1 s1 hv1=>?_⟩
 refine ⟨_,rfl,d,_,_,_,rfl,rfl,hd.keep s1,rfl,_,rfl,a,_,_,_,rfl,rfl,ha.keep s1,rfl,_,_,.cons (hz2.keep s1) (.cons (hx2.keep s1) .nil),⟨_,_,rfl,b3.u.sm (by omega),b1.u.sm (by omega),rfl⟩,λ v2 H2 s2 hv2=>?_⟩
 have e1:=b2.y.sub b1.y;have e2:=b3.u.sub b1.u;refine ⟨_,_,.cons (hv1.keep s2) (.cons hv2 .nil),⟨_,_,rfl,e1.sm (by omega),e2.sm (by omega),rfl⟩,λ v3 H3 s3 hv3=>?_⟩
 have t3:=s1.trans (s2.trans s3);refine ⟨_,rfl,b,_,_,_,rfl,rfl,hb.keep t3,rfl,_,rfl,a,_,_,_,rfl,rfl,ha.keep t3,rfl,_,_,.cons (hy2.keep t3) (.cons (hx2.keep t3) .nil),⟨_,_,rfl,b2.u.sm (by omega),b1.u.sm (by omega),rfl⟩,λ v4 H4 s4 hv4=>?_⟩
 have t4:=t3.trans s4;refine ⟨_,rfl,d,_,_,_,rfl,rfl,hd.keep t4,rfl,_,rfl,a,_,_,_,rfl,rfl,ha.keep t4,rfl,_,_,.cons (hz1.keep t4) (.cons (hx1.keep t4) .nil),⟨_,_,rfl,b3.y.sm (by omega),b1.y.sm (by omega),rfl⟩,λ v5 H5 s5 hv5=>?_⟩
 have e4:=b2.u.sub b1.u;have e5:=b3.y.sub b1.y;refine ⟨_,_,.cons (hv4.keep s5) (.cons hv5 .nil),⟨_,_,rfl,e4.sm (by omega),e5.sm (by omega),rfl⟩,λ v6 H6 s6 hv6=>?_⟩
 refine ⟨_,rfl,_,rfl,_,_,.cons (hv3.keep (s4.trans (s5.trans s6))) (.cons hv6 .nil),⟨_,_,rfl,(e1.mul e2).sm (by omega),(e4.mul e5).sm (by omega),rfl⟩,λ v7 H7 s7 hv7=>?_⟩
 exact k _ _ (t4.trans (s5.trans (s6.trans s7))) hv7
theorem gK (T:Txt K mg ad):CalB P w K mg base true 5 "is_within" ["corners","ray"] (PR K qT):=by
 have Cv:=Gq (P:=P) (w:=w) (base:=base) T;have wy:=lO (P:=P) (w:=w) (base:=base) T;have Oe:=YH (P:=P) (w:=w) (base:=base) T;refine T.Qz.calN QX (λ _ _ _ _ _ _=>Bs λ _ _=>rfl) (λ vs H Q E h=>?_) (λ f cdv A outer s H vs Q E hr h=>?_)
 ·obtain ⟨_,_,dv,⟨_,_,_,_,rfl,_⟩,_⟩:=h;exact dv.len
 obtain ⟨_,_,dv,⟨cs,r,n,m,rfl,bc,br,hn,hcs,rfl⟩,k⟩:=h;obtain ⟨_,y,rfl,hx,hy⟩:=dv.two;obtain ⟨a,xs,rfl,ha,hxs⟩:=DV.lst_of hx;have hl:xs.length=cs.length:=by have:=hxs.len;rw [List.length_map] at this;exact this
 refine ⟨_,(Al (Be (Bo JM (CP Ea rfl T.len Dq (Ad (pv 0) Ab)) Ac (nomark _)) (Ao (Az (Eg (dB hr.units) (pv 1) (pv 0) (by rfl)))) Bj) (Al (DW PassesOwn.never rfl (Ig rfl T.enumerate (Ad (pv 0) Ab)) (HY (n:=2) rfl (Ci (Bq (i:=2) QX.nd rfl (by first | exact Or.inl rfl | exact Or.inr rfl)) (Ci (Bq (i:=3) QX.nd rfl (by first | exact Or.inl rfl | exact Or.inr rfl)) Eu))) (Ao (Be (By (Aj Cv (hr.mono (by decide)) Ai (BX (Aj wy (hr.mono (by decide)) Ai (Ar (Ag CV (pv 0) (Ay Ec (pv 2) Ac) (λ _ _=>rfl)) (Ad (pv 3) (Ad (pv 1) Ab)))) (Ad (CJ (v:=.ref ad.NOUGHT) rfl T.ex.m_NOUGHT rfl) Ab)))) (Ao (Az DN)) Bj))) (Al (Be (Bo JQ (CP Ea rfl T.len Dq (Ad (pv 0) Ab)) Ac (nomark _)) (Ao (Az DN)) Bj) (Ao (Az (Ed (GQ (Aj Oe (hr.mono (by decide)) Ai (Ad (pv 1) (Ar (Ag CV (pv 0) Ac (λ _ _=>rfl)) Ab)))) (Em (GQ (Aj Oe (hr.mono (by decide)) Ai (Ar (Ag CV (pv 0) Ac (λ _ _=>rfl)) (Ad (pv 1) Ab))))))))))),?_⟩
 refine ⟨_,rfl,a,_,rfl,.inl ha,_,_,rfl,rfl,_,rfl,?_⟩;by_cases h2:cs.length < 2
 ·refine Bt (decide_eq_true (by omega)) ?_
  refine ⟨_,rfl,_,rfl,a,xs,_,_,rfl,ha,hy,hxs,rfl,(by show (Ax r).depth<=60;exact Nat.le_trans (Ia r).d (by decide)),W7 cs,?_⟩
  have e:Ez cs r=(cs.map Ax).any (λ d=>PyData.eqv d (Ax r)):=by unfold Ez;rw [if_pos h2,Rf]
  refine k _ _ (Same.refl _) ?_;rw [e];exact .bl _
 ·refine Bf (decide_eq_false (by omega)) ?_
  refine ⟨_,rfl,a,rfl,⟨_,ha⟩,?_⟩;refine Jf (K:=K) (a:=a) (xs:=xs) (λ i σ H'=>∃c2 c3,σ=[some (.ref a),some y,c2,c3]/\Same H H'/\Fj cs r i=true) ⟨_,_,rfl,Same.refl _,rfl⟩ ?_ ?_ ?_
  ·rintro i σ H' hi ⟨c2,c3,rfl,s1,_⟩
   exact ha.keep s1
  ·rintro i x σ H' p hi ⟨c2,c3,rfl,s1,hlt⟩ hp
   have hlt':=Cq hi;have s2:=s1.trans (Ah hp (.tup [.int i,x]));obtain ⟨v0,hv0,hd0⟩:=XM hxs (i:=i) (by omega)
   obtain ⟨v1,hv1,hd1⟩:=Hv hxs (i:=i) (by omega)
   cases hi.symm.trans hv1
   refine ⟨p,_,rfl,SqT.of Aq,rfl,_,_,rfl,_,_,rfl,rfl,?_⟩;have m1:=bc _ (XJ (cs:=cs) (i:=i) (by omega))
   have m2:=bc _ (Hy (cs:=cs) (i:=i) (by omega))
   refine ⟨_,rfl,_,rfl,_,_,rfl,rfl,a,_,_,v0,rfl,rfl,ha.keep s2,hv0,_,rfl,_,rfl,_,_,.cons (hd0.keep s2) (.cons (hd1.keep s2) (.cons (hy.keep s2) .nil)),⟨_,_,_,n,m,rfl,m1,m2,br,hn,rfl⟩,λ v H3 s3 hv=>?_⟩
   have bt:Bd (6 * n+2 * m+5) (Ak (Cz cs i) (Bg cs i) r):=(((m2.y.sub m1.y).mul (br.u.sub m1.u)).sub ((m2.u.sub m1.u).mul (br.y.sub m1.y))).mono (by omega)
   refine ⟨_,_,.cons hv (.cons (.tup (T.ex.s_NOUGHT _) (.cons (.int _) (.cons (.int _) .nil))) .nil),⟨_,0,rfl,bt.sm (by omega),(⟨by decide+kernel,by decide+kernel⟩:Bd 1 (0:Rat)).sm (by decide),rfl⟩,λ v4 H4 s4 hv4=>?_⟩
   obtain rfl:=hv4.bl_of;refine ⟨_,rfl,?_⟩;cases hb:decide (Ak (Cz cs i) (Bg cs i) r < 0) with
   | true=>
    refine iteT ?_;refine k _ _ (s2.trans (s3.trans s4)) ?_;have e:Fj cs r cs.length=false:=by
     cases e:Fj cs r cs.length with
     | false=>rfl
     | true=>exact absurd (of_decide_eq_true hb) ((QK cs r _).mp e i (by omega))
    have e2:Ez cs r=false:=by unfold Ez;rw [if_neg h2,e];rfl
    rw [e2];exact .bl _
   | false=>
    refine iteF ⟨_,_,rfl,s2.trans (s3.trans s4),?_⟩;rw [Fj,hlt,hb];rfl
  ·rintro σ H' ⟨c2,c3,rfl,s1,hlt⟩
   rw [hl] at hlt;refine ⟨_,rfl,a,_,rfl,.inl (ha.keep s1),_,_,rfl,rfl,_,rfl,?_⟩;by_cases h3:2 < cs.length
   ·refine Bt (decide_eq_true (by omega)) ?_
    refine k _ _ s1 ?_;have e2:Ez cs r=true:=by unfold Ez;rw [if_neg h2,hlt,if_pos h3];rfl
    rw [e2];exact .bl _
   ·refine Bf (decide_eq_false (by omega)) ?_
    obtain ⟨v0,hv0,hd0⟩:=Hv hxs (i:=0) (by omega)
    obtain ⟨v1,hv1,hd1⟩:=Hv hxs (i:=1) (by omega)
    have m0:=bc _ (Hy (cs:=cs) (i:=0) (by omega))
    have m1:=bc _ (Hy (cs:=cs) (i:=1) (by omega))
    have m0:Rn (n+m) (Bg cs 0):=⟨m0.y.mono (by omega),m0.u.mono (by omega)⟩
    have m1:Rn (n+m) (Bg cs 1):=⟨m1.y.mono (by omega),m1.u.mono (by omega)⟩
    have br:Rn (n+m) r:=⟨br.y.mono (by omega),br.u.mono (by omega)⟩
    have ew:Ez cs r=(!Bw r (Bg cs 0) && !Bw (Bg cs 1) r):=by unfold Ez;rw [if_neg h2,hlt,if_neg h3];rfl
    refine ⟨_,rfl,_,rfl,a,_,_,v0,rfl,rfl,ha.keep s1,Eh (j:=0) hv0,_,_,.cons (hy.keep s1) (.cons (hd0.keep s1) .nil),⟨_,_,n+m,rfl,br,m0,by omega,rfl⟩,λ v5 H5 s5 hv5=>?_⟩
    obtain rfl:=hv5.bl_of;refine ⟨_,rfl,_,rfl,?_⟩;cases hb:Bw r (Bg cs 0) with
    | true=>
     refine iteF ?_;refine k _ _ (s1.trans s5) ?_;rw [ew,hb];exact .bl _
    | false=>
     refine iteT ?_;have t5:=s1.trans s5;refine ⟨_,rfl,a,_,_,v1,rfl,rfl,ha.keep t5,Eh (j:=1) hv1,_,rfl,_,_,.cons (hd1.keep t5) (.cons (hy.keep t5) .nil),⟨_,_,n+m,rfl,m1,br,by omega,rfl⟩,λ v6 H6 s6 hv6=>?_⟩
     obtain rfl:=hv6.bl_of;refine ⟨_,rfl,?_⟩;refine k _ _ (t5.trans s6) ?_;rw [ew,hb];exact .bl _
theorem yM (T:Txt K mg ad):CalB P w K mg base true 3 "from_the_least" ["corners"] (pO K):=by
 have Oe:=YH (P:=P) (w:=w) (base:=base) T;refine T.QL.calN Lj (λ _ _ _ _ _ _=>by1 λ _=>rfl) (λ vs H Q E h=>?_) (λ f cdv A outer s H vs Q E hr h=>?_)
 ·obtain ⟨_,_,_,rfl,_⟩:=h;rfl
 obtain ⟨cv,cs,n,rfl,hx,bc,hn,hcs,q⟩:=h;obtain ⟨a,xs,rfl,ha,hxs⟩:=DV.lst_of hx;have hl:xs.length=cs.length:=by have:=hxs.len;rw [List.length_map] at this;exact this
 refine ⟨_,(Al (Aw (i:=1) Lj.nd rfl (Or.inl rfl) Ac) (Al (DW PassesOwn.never rfl (Ig rfl T.enumerate (Ad (pv 0) Ab)) (HY (n:=2) rfl (Ci (Bq (i:=2) Lj.nd rfl (by first | exact Or.inl rfl | exact Or.inr rfl)) (Ci (Bq (i:=3) Lj.nd rfl (by first | exact Or.inl rfl | exact Or.inr rfl)) Eu))) (Ao (Be (By (Aj Oe (hr.mono (by decide)) Ai (Ad (pv 3) (Ar (Ag CV (pv 0) (pv 1) (λ _ _=>rfl)) Ab)))) (Ao (Aw (i:=1) Lj.nd rfl (Or.inl rfl) (pv 2))) Bj))) (Ao (Az (Ay JD (JS QR (pv 0) (Ho (pv 1)) K9) (JS QR (pv 0) K9 (Ho (pv 1)))))))),?_⟩
 refine ⟨_,rfl,a,rfl,⟨_,ha⟩,?_⟩;refine Jf (K:=K) (a:=a) (xs:=xs) (λ i σ H'=>∃c2 c3,σ=[some (.ref a),some (.int (Ca cs i:Nat)),c2,c3]/\Same H H') ⟨_,_,rfl,Same.refl _⟩ ?_ ?_ ?_
 ·rintro i σ H' hi ⟨c2,c3,rfl,s1⟩
  exact ha.keep s1
 ·rintro i x σ H' p hi ⟨c2,c3,rfl,s1⟩ hp
  have hlt':=Cq hi;have s2:=s1.trans (Ah hp (.tup [.int i,x]));have hll:Ca cs i < cs.length:=by
   cases i with
   | zero=>show 0 < cs.length;omega
   | succ j=>have:=W0 cs (j+1) (by omega);omega
  obtain ⟨v0,hv0,hd0⟩:=Hv hxs (i:=Ca cs i) hll;obtain ⟨v1,hv1,hd1⟩:=Hv hxs (i:=i) (by omega)
  cases hi.symm.trans hv1
  refine ⟨p,_,rfl,SqT.of Aq,rfl,_,_,rfl,_,_,rfl,rfl,?_⟩;have m1:=bc _ (Hy (cs:=cs) hll);have m2:=bc _ (Hy (cs:=cs) (i:=i) (by omega))
  refine ⟨_,rfl,_,rfl,_,rfl,a,_,_,v0,rfl,rfl,ha.keep s2,Eh hv0,_,_,.cons (hd1.keep s2) (.cons (hd0.keep s2) .nil),⟨_,_,n,rfl,m2,m1,hn,rfl⟩,λ v H3 s3 hv=>?_⟩
  obtain rfl:=hv.bl_of;refine ⟨_,rfl,?_⟩;cases hb:Bw (Bg cs i) (Bg cs (Ca cs i)) with
  | true=>
   refine iteT ⟨_,rfl,some (.int (i:Int)),some x,?_,s2.trans s3⟩;rw [Ca,if_pos hb];rfl
  | false=>
   refine iteF ⟨some (.int (i:Int)),some x,?_,s2.trans s3⟩;rw [Ca,if_neg (by rw [hb];decide)]
   rfl
 ·rintro σ H' ⟨c2,c3,rfl,s1⟩
  rw [hl];have ha1:=ha.keep s1;refine ⟨_,rfl,_,rfl,_,rfl,a,xs,rfl,ha1,λ p1 hp1=>?_⟩
  have u1:=Ah hp1 (.lst (cutV xs (some ((Ca cs cs.length:Nat):Int)) none));have hp11:upd H' p1 (.lst (cutV xs (some ((Ca cs cs.length:Nat):Int)) none)) p1=some (.lst (xs.drop (Ca cs cs.length))):=by rw [<- ou];exact Aq
  generalize upd H' p1 (.lst (cutV xs (some ((Ca cs cs.length:Nat):Int)) none))=H2 at u1 hp11 ⊢;have ha2:=ha1.keep u1;refine ⟨_,rfl,_,rfl,_,rfl,a,xs,rfl,ha2,λ p2 hp2=>?_⟩
  have u2:=Ah hp2 (.lst (cutV xs none (some ((Ca cs cs.length:Nat):Int))));have hp21:upd H2 p2 (.lst (cutV xs none (some ((Ca cs cs.length:Nat):Int)))) p2=some (.lst (xs.take (Ca cs cs.length))):=by rw [<- rW];exact Aq
  generalize upd H2 p2 (.lst (cutV xs none (some ((Ca cs cs.length:Nat):Int))))=H3 at u2 hp21 ⊢;refine ⟨p1,p2,_,_,rfl,rfl,u2 _ _ hp11,hp21,?_,λ p3 hp3=>?_⟩
  ·refine Nat.le_of_lt (small1000 ?_);rw [List.length_drop,List.length_take];omega
  have t3:=s1.trans (u1.trans (u2.trans (Ah hp3 (.lst (xs.drop (Ca cs cs.length)++xs.take (Ca cs cs.length))))));refine q p3 _ _ t3 ((s1.trans (u1.trans u2)).free hp3) Aq ?_;unfold Fb;rw [List.map_append,List.map_drop,List.map_take];exact DVs.keep t3 ((DVs.drop _ hxs).append (DVs.take _ hxs))
theorem yX (T:Txt K mg ad):CalB P w K mg base true 6 "field_of" ["bench","box"] (wL K):=by
 have Ha:=SQ (P:=P) (w:=w) (base:=base) T;have di:=lX (P:=P) (w:=w) (base:=base) T;have fL:=vW (P:=P) (w:=w) (base:=base) T;have uc:=jd (P:=P) (w:=w) (base:=base) T;have wG:=oG (P:=P) (w:=w) (base:=base) T;have uM:=yM (P:=P) (w:=w) (base:=base) T;refine T.Nb.calN Hk (λ _ _ _ _ _ _=>Bs λ _ _=>rfl) (λ vs H Q E h=>?_) (λ f cdv A outer s H vs Q E hr h=>?_)
 ·obtain ⟨_,_,_,_,_,_,_,rfl,_⟩:=h;rfl
 obtain ⟨bv,xv,ps,x,m,n,M,rfl,hb,hx,g,hm,fo,hnM,q⟩:=h;have hps:=g.len;have hll:=Tt ps 0 e1 e2;have pol:=λ i=>Poly.all (n:=n) (M:=M) ((Ba ps).take i) (Rk fo.ok fo.bd fo.pos) (λ l hl=>fo.lim l (List.mem_of_mem_take hl))
 have hle:∀i,((Ba ps).take i).length<=ps.length:=λ i=>Nat.le_trans (show ((Ba ps).take i).length<=(Ba ps).length by rw [List.length_take];omega) hll
 refine ⟨_,(Al (Aw (i:=2) Hk.nd rfl (Or.inl rfl) (Aj Ha (hr.mono (by decide)) Ai (Ad (pv 0) Ab))) (Al (DR (Aj di (hr.mono (by decide)) Ai (Ad (pv 1) Ab))) (Al (Aw (i:=3) Hk.nd rfl (Or.inl rfl) (Aj fL (hr.mono (by decide)) Ai (Ad (pv 1) Ab))) (Al (DW PassesOwn.never rfl (Dw (pv 2)) (Bq (i:=4) Hk.nd rfl (by first | exact Or.inl rfl | exact Or.inr rfl)) (Ao (DW PassesOwn.never rfl (Dw (Aj uc (hr.mono (by decide)) Ai (Ad (pv 4) Ab))) (Bq (i:=5) Hk.nd rfl (by first | exact Or.inl rfl | exact Or.inr rfl)) (Ao (Aw (i:=3) Hk.nd rfl (Or.inl rfl) (Aj wG (hr.mono (by decide)) Ai (Ad (pv 5) (Ad (pv 3) Ab)))))))) (Ao (Az (Aj uM (hr.mono (by decide)) Ai (Ad (pv 3) Ab)))))))),?_⟩
 refine ⟨_,rfl,bv,ps,m,rfl,hb,g,hm,λ l rs H1 s1 nl hl hrs=>?_⟩
 have hlen:rs.length=(Ba ps).length:=by have:=hrs.len;rw [List.length_map] at this;exact this
 refine ⟨_,rfl,_,_,.cons (hx.keep s1) .nil,⟨x,2 * n+M,rfl,fo.ok,fo.bd,by omega,rfl⟩,λ v2 H2 s2 _=>?_⟩
 refine ⟨_,rfl,_,_,.cons (hx.keep (s1.trans s2)) .nil,⟨x,rfl,rfl⟩,λ cv H3 s3 hcv=>?_⟩
 have t3:=s1.trans (s2.trans s3);have hl3:=(s2.trans s3) _ _ hl;have hrs3:=hrs.keep (s2.trans s3);refine ⟨_,rfl,l,rfl,⟨_,SqL.of hl3⟩,?_⟩;refine Fg (K:=K) (a:=l) (xs:=rs) (λ i σ H'=>∃cv c4 c5,σ=[some bv,some xv,some (.ref l),some cv,c4,c5]/\Same H3 H'/\DV K H' cv (Ge (HR ((Ba ps).take i) (Df x)))) ⟨cv,_,_,rfl,Same.refl _,hcv⟩ ?_ ?_ ?_
 ·rintro i σ H' hi ⟨cv,c4,c5,rfl,s4,_⟩
  exact SqL.of (s4 _ _ hl3)
 ·rintro i y σ H' hi ⟨cv,c4,c5,rfl,s4,hcv⟩
  obtain ⟨d,hd,hy⟩:=hrs3.get hi;obtain ⟨lm,hlm,rfl⟩:=bz hd;have lb:=fo.lim _ (List.mem_of_getElem? hlm);have pi:=pol i;have hli:=hle i;refine ⟨_,rfl,_,_,.cons (hy.keep s4) .nil,⟨lm,n,M,rfl,lb,by omega,by omega,rfl⟩,λ ev H5 s5 hev=>?_⟩
  obtain ⟨le,es,rfl,hle5,hes⟩:=DV.lst_of hev;obtain ⟨ea,eb,rfl,hea,heb⟩:=hes.two;rw [lC hlm];generalize HR ((Ba ps).take i) (Df x)=cs at hcv pi ⊢;refine ⟨le,rfl,⟨_,hle5⟩,?_⟩;refine Fg (K:=K) (a:=le) (xs:=[ea,eb]) (λ j σ H'=>∃cv c4 c5,σ=[some bv,some xv,some (.ref l),some cv,c4,c5]/\Same H5 H'/\DV K H' cv (Ge (ik cs lm j))) ⟨cv,_,_,rfl,Same.refl _,hcv.keep s5⟩ ?_ ?_ ?_
  ·rintro j σ H' hj ⟨cv,c4,c5,rfl,s6,_⟩
   exact hle5.keep s6
  ·rintro j y σ H' hj ⟨cv,c4,c5,rfl,s6,hcv⟩
   match j,hj with
   | 0,hj=>
    cases hj
    have pn:=pi.len;refine ⟨_,rfl,_,rfl,_,_,.cons (hea.keep s6) (.cons hcv .nil),⟨_,_,n,M,_,rfl,lb.up,pi.rn,by omega,by show cs.length<=200;omega,rfl⟩,λ nv H7 s7 hnv=>?_⟩
    exact ⟨nv,_,_,rfl,s6.trans s7,hnv⟩
   | 1,hj=>
    cases hj
    have pj:=pi.cut lb.up;have pn:=pj.len;refine ⟨_,rfl,_,rfl,_,_,.cons (heb.keep s6) (.cons hcv .nil),⟨_,_,n,M,_,rfl,lb.dn,pj.rn,by omega,by show (Cw (Gp lm) cs).length<=200;omega,rfl⟩,λ nv H7 s7 hnv=>?_⟩
    exact ⟨nv,_,_,rfl,s6.trans s7,hnv⟩
   | j+2,hj=>cases hj
  ·rintro σ H' ⟨cv,c4,c5,rfl,s6,hcv⟩
   exact ⟨cv,_,_,rfl,s4.trans (s5.trans s6),hcv⟩
 ·rintro σ H' ⟨cv,c4,c5,rfl,s4,hcv⟩
  have pe:=pol rs.length;have hle':=hle rs.length;have pn:=pe.len;rw [hlen,List.take_length] at hcv pe pn;refine ⟨_,rfl,cv,_,_,rfl,hcv,pe.rn,by omega,by rw [hlen,List.take_length] at hle';omega,λ l2 rs2 H5 s5 nl2 hl2 hrs2=>?_⟩
  have t5:=t3.trans s4;exact q l2 rs2 H5 (t5.trans s5) (t5.free nl2) hl2 hrs2
end
end K84
namespace K84
open PySem L2 Lib Fr Op
seal PE PT PW PA PS PSs PG PGs PI PO CZ
section
variable {P:Program}{w:World}{K:FrG}{mg:Str->Option Value}{base:Heap}{ad:Adr}{c:Bool}
theorem O4 (T:Txt K mg ad):CalB P w K mg base true 2 "in_order" ["one","other"] (PR K lA):=by
 have Cv:=Gq (P:=P) (w:=w) (base:=base) T;refine T.Ri.calN xq (λ _ _ _ _ _ _=>Bs λ _ _=>rfl) (λ vs H Q E h=>?_) (λ f cdv A outer s H vs Q E hr h=>?_)
 ·obtain ⟨_,_,dv,⟨_,_,rfl,_⟩,_⟩:=h;exact dv.len
 obtain ⟨_,_,dv,⟨p,q,rfl,sp,sq,rfl⟩,k⟩:=h;obtain ⟨x,y,rfl,hx,hy⟩:=dv.two;refine ⟨_,(Ao (Az (Ip (By (Aj Cv (hr.mono (by decide)) Ai (Ad (pv 1) (Ad (pv 0) Ab)))) (BK (Ad (pv 1) (Ad (pv 0) Ab))) (BK (Ad (pv 0) (Ad (pv 1) Ab)))))),?_⟩
 refine ⟨_,rfl,_,rfl,_,_,by walk_at "Zv",⟨_,_,rfl,sq,sp,rfl⟩,λ v1 H1 s1 hv1=>?_⟩
 obtain rfl:=hv1.bl_of;refine ⟨_,rfl,?_⟩;unfold Jj at k;by_cases c:q < p
 ·rw [if_pos c] at k;refine Bt (decide_eq_true c) ⟨_,rfl,_,rfl,(by show 2<=sizeLine;decide),λ p2 hp2=>?_⟩
  exact k _ _ (s1.trans (Ah hp2 _)) (DV.upd2 hp2 (hy.keep s1) (hx.keep s1))
 ·rw [if_neg c] at k;refine Bf (decide_eq_false c) ⟨_,rfl,_,rfl,(by show 2<=sizeLine;decide),λ p2 hp2=>?_⟩
  exact k _ _ (s1.trans (Ah hp2 _)) (DV.upd2 hp2 (hx.keep s1) (hy.keep s1))
theorem fK (T:Txt K mg ad):CalB P w K mg base true 5 "height_at" ["table","lamp","slant","t"] (PR K lK):=by
 have iw:=yt (P:=P) (w:=w) (base:=base) T;have Nf:=X4 (P:=P) (w:=w) (base:=base) T;refine T.U9.calN au (λ _ _ _ _ _ _=>by4 λ _ _ _ _=>rfl) (λ vs H Q E h=>?_) (λ f cdv A outer s H vs Q E hr h=>?_)
 ·obtain ⟨_,_,dv,⟨_,_,_,_,_,_,_,_,rfl,_⟩,_⟩:=h;exact dv.len
 obtain ⟨_,_,dv,⟨t,h0,s0,u,T0,n,m,k0,rfl,tb,bh,bs,bu,bT,le,rfl⟩,k⟩:=h;obtain ⟨x1,x2,x3,x4,rfl,h1,h2,h3,h4⟩:=dv.four;obtain ⟨la,l1,l2,rfl,hla,hl1,hl2⟩:=DV.t2 (show DV K H x2 (.tuple [Af h0,Af s0]) from h2)
 refine ⟨_,(Al (Aw (i:=4) au.nd rfl (Or.inl rfl) (HS (k:=4) (Jw Nf (hr.mono (by decide)) (Ar (Ag Am (pv 1) Ac (λ _ _=>rfl)) Ab)) (hr.mono (by decide)) (Bb (BK (Ar (Ag Am (pv 1) Ac (λ _ _=>rfl)) (Ad (pv 2) Ab))) Ab))) (Ao (Az (Ag Am (HS (k:=4) (Jw Nf (hr.mono (by decide)) (Ad (pv 3) Ab)) (hr.mono (by decide)) (BX (Aj iw (hr.mono (by decide)) Ai (Ad (pv 0) (Ad (pv 4) Ab))) Ab)) Ac (λ _ _=>rfl))))),?_⟩
 refine ⟨_,rfl,la,_,_,_,rfl,rfl,hla,rfl,λ o dx ho hdx hne=>⟨o,dx,l2,rfl,Aq,rfl,?_⟩⟩
 have s1:Same H (upd H dx (.own o)):=Ah hdx _;have ho':upd H dx (.own o) o=none:=by rw [Av (Ne.symm hne)];exact ho
 have s2:=s1.trans (Ah ho' (.ins ad.Gap dx [("length",l2)]));rw [Ik];have hO:upd (upd H dx (.own o)) o (.ins ad.Gap dx [("length",l2)]) o=some (.ins ad.Gap dx [("length",l2)]):=Aq;clear s1 ho';generalize upd (upd H dx (.own o)) o (.ins ad.Gap dx [("length",l2)])=H2 at s2 hO ⊢;have hl12:=hl1.keep s2;have h32:=h3.keep s2;refine ⟨o,_,dx,_,_,_,rfl,hO,rfl,Rt (P:=P) (w:=w) (base:=base) T,?_⟩;refine ⟨_,rfl,la,_,_,_,rfl,rfl,hla.keep s2,rfl,_,rfl,(by show 2<=sizeLine;decide),λ p3 hp3=>?_⟩
 have u3:=Ah hp3 (.tup [l1,x3]);have d3:DV K (upd H2 p3 (.tup [l1,x3])) (.ref p3) (Ax (h0,u)):=DV.upd2 hp3 hl12 h32;generalize upd H2 p3 (.tup [l1,x3])=H3 at u3 d3 ⊢;refine ⟨.ref o,.ref p3,.gap s0,(h0,u),m+m,m,rfl,trivial,.gap (u3 _ _ hO) (hl2.keep (s2.trans u3)),d3,Rb.of bh bu,bs,by omega,λ v4 H4 s4 hv4=>?_⟩
 have hv4:DV K H4 v4 (Ax (Ce h0 s0 u)):=hv4;have by1:Bd (3 * m+1) (h0+s0 * u):=(bh.add (bs.mul bu)).mono (by omega)
 have y1:Bd (2 * n+4 * m+2) (t.by (Ce h0 s0 u)).1:=((tb.a.mul by1).add (tb.b.mul bu)).mono (by omega)
 have y2:Bd (2 * n+4 * m+2) (t.by (Ce h0 s0 u)).2:=((tb.c.mul by1).add (tb.d.mul bu)).mono (by omega)
 refine ⟨_,rfl,λ o5 dx5 ho5 hdx5 hne5=>⟨o5,dx5,x4,rfl,Aq,rfl,?_⟩⟩
 have s5:Same H4 (upd H4 dx5 (.own o5)):=Ah hdx5 _;have ho5':upd H4 dx5 (.own o5) o5=none:=by rw [Av (Ne.symm hne5)];exact ho5
 have s6:=s5.trans (Ah ho5' (.ins ad.Gap dx5 [("length",x4)]));rw [Ik];have hO6:upd (upd H4 dx5 (.own o5)) o5 (.ins ad.Gap dx5 [("length",x4)]) o5=some (.ins ad.Gap dx5 [("length",x4)]):=Aq;clear s5 ho5';generalize upd (upd H4 dx5 (.own o5)) o5 (.ins ad.Gap dx5 [("length",x4)])=H6 at s6 hO6 ⊢;refine ⟨o5,_,dx5,_,_,_,rfl,hO6,rfl,Rt (P:=P) (w:=w) (base:=base) T,?_⟩;refine ⟨_,rfl,_,rfl,_,_,by walk_at "Zv",⟨t,Ce h0 s0 u,n+3 * m+1,rfl,Tb.mono tb (by omega),by1.mono (by omega),bu.mono (by omega),by omega,rfl⟩,λ v7 H7 s7 hv7=>?_⟩
 refine ⟨.ref o5,v7,.gap T0,t.by (Ce h0 s0 u),_,k0,rfl,trivial,.gap (s7 _ _ hO6) (show DV K H7 x4 _ from by walk_at "Zd"),hv7,Rb.of y1 y2,bT,by omega,λ v8 H8 s8 hv8=>?_⟩
 have hv8:DV K H8 v8 (Ax ((Pc.gap T0).bent (t.by (Ce h0 s0 u)))):=hv8
 obtain ⟨ga,g1,g2,rfl,hga,hg1,hg2⟩:=DV.t2 hv8;refine ⟨ga,_,_,_,rfl,rfl,hga,rfl,?_⟩;exact k _ _ (by walk_at "Zs") hg1
theorem vA (T:Txt K mg ad):CalB P w K mg base true 6 "spots_of" ["bench","lamp","slants","t"] (PR K jV):=by
 have o9:=xQ (P:=P) (w:=w) (base:=base) T;have JB:=O4 (P:=P) (w:=w) (base:=base) T;have Z2:=fK (P:=P) (w:=w) (base:=base) T;refine T.Vm.calN dY (λ _ _ _ _ _ _=>by4 λ _ _ _ _=>rfl) (λ vs H Q E h=>?_) (λ f cdv A outer s H vs Q E hr h=>?_)
 ·obtain ⟨_,_,dv,⟨_,_,_,_,_,_,_,_,_,rfl,_⟩,_⟩:=h;exact dv.len
 obtain ⟨_,_,dv,⟨ps,h0,s0,u0,u1,T0,n,m,k0,rfl,g,bh,bs,b0,b1,bT,le,rfl⟩,k⟩:=h;obtain ⟨x1,x2,x3,x4,rfl,h1,h2,h3,h4⟩:=dv.four;obtain ⟨sa,t1,t2,rfl,hsa,ht1,ht2⟩:=DV.t2 (show DV K H x3 (.tuple [Af u0,Af u1]) from h3)
 have tb:=eV (m:=n) g.bd;have tb':Tb (2+ps.length * (n+1)+n) (tabOf ps):=Tb.mono tb (by omega)
 have e0:=Yd tb' bh bs b0 bT;have e1:=Yd tb' bh bs b1 bT;refine ⟨_,(Al (Aw (i:=4) dY.nd rfl (Or.inl rfl) (Aj o9 (hr.mono (by decide)) Ai (Ad (pv 0) Ab))) (Ao (Az (Aj JB (hr.mono (by decide)) Ai (BX (Aj Z2 (hr.mono (by decide)) Ai (Ad (pv 4) (Ad (pv 1) (Ar (Ag Am (pv 2) Ac (λ _ _=>rfl)) (Ad (pv 3) Ab))))) (BX (Aj Z2 (hr.mono (by decide)) Ai (Ad (pv 4) (Ad (pv 1) (Ar (Ag Am (pv 2) Ac (λ _ _=>rfl)) (Ad (pv 3) Ab))))) Ab)))))),?_⟩
 refine ⟨_,rfl,_,_,by walk_at "Zv",⟨ps,n,rfl,g,by omega,rfl⟩,λ v5 H5 s5 hv5=>?_⟩
 refine ⟨_,rfl,_,rfl,_,rfl,sa,_,_,_,rfl,rfl,hsa.keep s5,rfl,_,rfl,_,_,by walk_at "Zv",⟨_,h0,s0,u0,T0,_,m,k0,rfl,tb',bh,bs,b0,bT,by omega,rfl⟩,λ v6 H6 s6 hv6=>?_⟩
 refine ⟨_,rfl,_,rfl,_,rfl,sa,_,_,_,rfl,rfl,hsa.keep (s5.trans s6),rfl,_,rfl,_,_,by walk_at "Zv",⟨_,h0,s0,u1,T0,_,m,k0,rfl,tb',bh,bs,b1,bT,by omega,rfl⟩,λ v7 H7 s7 hv7=>?_⟩
 exact ⟨_,_,by walk_at "Zv",⟨_,_,rfl,e0.sm (by omega),e1.sm (by omega),rfl⟩,λ v8 H8 s8 hv8=>k _ _ (by walk_at "Zs") hv8⟩
end
end K84
namespace K84
open PySem L2 Lib Fr Op
seal PE PT PW PA PS PSs PG PGs PI PO CZ
section
variable {P:Program}{w:World}{K:FrG}{mg:Str->Option Value}{base:Heap}{ad:Adr}{c:Bool}
theorem pZ (T:Txt K mg ad):CalB P w K mg base true 3 "lesser_of" ["one","other"] (PR K uQ):=by
 have JB:=O4 (P:=P) (w:=w) (base:=base) T;refine T.VR.calN xG (λ _ _ _ _ _ _=>Bs λ _ _=>rfl) (λ vs H Q E h=>?_) (λ f cdv A outer s H vs Q E hr h=>?_)
 ·obtain ⟨_,_,dv,⟨_,_,rfl,_⟩,_⟩:=h;exact dv.len
 obtain ⟨_,_,dv,⟨p,q,rfl,sp,sq,rfl⟩,k⟩:=h;obtain ⟨x,y,rfl,hx,hy⟩:=dv.two;refine ⟨_,(Ao (Az (Ag Am (Aj JB (hr.mono (by decide)) Ai (Ad (pv 0) (Ad (pv 1) Ab))) Ac (λ _ _=>rfl)))),?_⟩
 refine ⟨_,rfl,_,rfl,_,_,by walk_at "Zv",⟨_,_,rfl,sp,sq,rfl⟩,λ v1 H1 s1 hv1=>?_⟩
 rw [Ve] at hv1;obtain ⟨a,x1,x2,rfl,ha,h1,h2⟩:=DV.t2 (show DV K H1 v1 (.tuple [Af _,Af _]) from hv1)
 exact ⟨a,_,_,_,rfl,rfl,ha,rfl,k _ _ s1 h1⟩
theorem qz (T:Txt K mg ad):CalB P w K mg base true 3 "greater_of" ["one","other"] (PR K iy):=by
 have JB:=O4 (P:=P) (w:=w) (base:=base) T;refine T.S6.calN iu (λ _ _ _ _ _ _=>Bs λ _ _=>rfl) (λ vs H Q E h=>?_) (λ f cdv A outer s H vs Q E hr h=>?_)
 ·obtain ⟨_,_,dv,⟨_,_,rfl,_⟩,_⟩:=h;exact dv.len
 obtain ⟨_,_,dv,⟨p,q,rfl,sp,sq,rfl⟩,k⟩:=h;obtain ⟨x,y,rfl,hx,hy⟩:=dv.two;refine ⟨_,(Ao (Az (Ag Am (Aj JB (hr.mono (by decide)) Ai (Ad (pv 0) (Ad (pv 1) Ab))) Ac (λ _ _=>rfl)))),?_⟩
 refine ⟨_,rfl,_,rfl,_,_,by walk_at "Zv",⟨_,_,rfl,sp,sq,rfl⟩,λ v1 H1 s1 hv1=>?_⟩
 rw [Ve] at hv1;obtain ⟨a,x1,x2,rfl,ha,h1,h2⟩:=DV.t2 (show DV K H1 v1 (.tuple [Af _,Af _]) from hv1)
 exact ⟨a,_,_,_,rfl,rfl,ha,rfl,k _ _ s1 h2⟩
theorem Xz {B:Nat}{p q:Rat}(h:Bd B p)(k:Bd B q):Bd B (mx p q):=by rcases SM p q with e | e<;>rw [e]<;>assumption
theorem bK {B:Nat}{p q:Rat}(h:Bd B p)(k:Bd B q):Bd B (mn p q):=by rcases UT p q with e | e<;>rw [e]<;>assumption
theorem uh (T:Txt K mg ad):CalB P w K mg base true 4 "slants_by" ["limit","lamp","first","last"] (PR K mQ):=by
 have DP:=JN (P:=P) (w:=w) (base:=base) T;have FW:=Ka (P:=P) (w:=w) (base:=base) T;have Dh:=Kz (P:=P) (w:=w) (base:=base) T;have Ng:=XH (P:=P) (w:=w) (base:=base) T;have Cv:=Gq (P:=P) (w:=w) (base:=base) T;have JB:=O4 (P:=P) (w:=w) (base:=base) T;have uI:=qz (P:=P) (w:=w) (base:=base) T;have kI:=pZ (P:=P) (w:=w) (base:=base) T;refine T.Qw.calN Hl (λ _ _ _ _ _ _=>by4 λ _ _ _ _=>rfl) (λ vs H Q E h=>?_) (λ f cdv A outer s H vs Q E hr h=>?_)
 ·obtain ⟨_,_,dv,⟨_,_,_,_,_,_,_,_,rfl,_⟩,_⟩:=h;exact dv.len
 obtain ⟨_,_,dv,⟨l,h0,s0,f0,g0,n,m,B,rfl,lo,bh,bs,bf,bg,hB,hB2,rfl⟩,k⟩:=h;obtain ⟨x1,x2,x3,x4,rfl,h1,h2,h3,h4⟩:=dv.four;obtain ⟨ba,bb,blo,bhi,_⟩:=lo;obtain ⟨la,y1,y2,y3,y4,rfl,hla,k1,k2,k3,k4⟩:=DV.t5 h1;obtain ⟨pa,z1,z2,rfl,hpa,m1,m2⟩:=DV.t2 (show DV K H x2 (.tuple [Af h0,Af s0]) from h2)
 refine ⟨_,(Al (Aw (i:=4) Hl.nd rfl (Or.inl rfl) (Aj DP (hr.mono (by decide)) Ai (Ar (Ag Am (pv 0) Ac (λ _ _=>rfl)) (Ar (Ag Am (pv 1) Ac (λ _ _=>rfl)) Ab)))) (Al (Aw (i:=5) Hl.nd rfl (Or.inl rfl) (Aj FW (hr.mono (by decide)) Ai (BX (Aj DP (hr.mono (by decide)) Ai (Ar (Ag Am (pv 0) Ac (λ _ _=>rfl)) (Ar (Ag Am (pv 1) Ac (λ _ _=>rfl)) Ab))) (Ar (Ag Am (pv 0) Ac (λ _ _=>rfl)) Ab)))) (Al (Aw (i:=6) Hl.nd rfl (Or.inl rfl) (Aj Dh (hr.mono (by decide)) Ai (Ar (Ag Am (pv 0) Ac (λ _ _=>rfl)) (Ad (pv 4) Ab)))) (Al (Aw (i:=7) Hl.nd rfl (Or.inl rfl) (Aj Dh (hr.mono (by decide)) Ai (Ar (Ag Am (pv 0) Ac (λ _ _=>rfl)) (Ad (pv 4) Ab)))) (Al (Be (Bo (Uk hr.units) (pv 5) (CJ (v:=.ref ad.NOUGHT) rfl T.ex.m_NOUGHT rfl) (nomark _)) (Ao (Az (Ip (PW.pt (pw_and (Cd (By (Aj Cv (hr.mono (by decide)) Ai (Ad (CJ (v:=.ref ad.NOUGHT) rfl T.ex.m_NOUGHT rfl) (Ad (pv 6) Ab))))) (pw_and1 (Cd (By (Aj Cv (hr.mono (by decide)) Ai (Ad (pv 7) (Ad (CJ (v:=.ref ad.NOUGHT) rfl T.ex.m_NOUGHT rfl) Ab)))))))) (BK (Ad (pv 2) (Ad (pv 3) Ab))) Ff))) Bj) (Al (Aw (i:=8) Hl.nd rfl (Or.inl rfl) (Aj JB (hr.mono (by decide)) Ai (BX (Aj Ng (hr.mono (by decide)) Ai (Ad (pv 6) (Ad (pv 5) Ab))) (BX (Aj Ng (hr.mono (by decide)) Ai (Ad (pv 7) (Ad (pv 5) Ab))) Ab)))) (Al (Aw (i:=2) Hl.nd rfl (Or.inl rfl) (Aj uI (hr.mono (by decide)) Ai (Ad (pv 2) (Ar (Ag Am (pv 8) Ac (λ _ _=>rfl)) Ab)))) (Al (Aw (i:=3) Hl.nd rfl (Or.inl rfl) (Aj kI (hr.mono (by decide)) Ai (Ad (pv 3) (Ar (Ag Am (pv 8) Ac (λ _ _=>rfl)) Ab)))) (Ao (Az (Ip (By (Aj Cv (hr.mono (by decide)) Ai (Ad (pv 3) (Ad (pv 2) Ab)))) Ff (BK (Ad (pv 2) (Ad (pv 3) Ab)))))))))))))),?_⟩
 refine ⟨_,rfl,la,_,_,_,rfl,rfl,hla,rfl,_,rfl,pa,_,_,_,rfl,rfl,hpa,rfl,?_⟩;refine ⟨_,_,by walk_at "Zv",⟨_,_,rfl,ba.sm (by omega),bh.sm (by omega),rfl⟩,λ v5 H5 s5 hv5=>?_⟩
 refine ⟨_,rfl,la,_,_,_,rfl,rfl,by walk_at "Zt",by rfl,_,rfl,pa,_,_,_,rfl,rfl,by walk_at "Zt",by rfl,?_⟩
 refine ⟨_,_,by walk_at "Zv",⟨_,_,rfl,ba.sm (by omega),bs.sm (by omega),rfl⟩,λ v6 H6 s6 hv6=>?_⟩
 refine ⟨_,rfl,la,_,_,_,rfl,rfl,by walk_at "Zt",by rfl,?_⟩
 refine ⟨_,_,by walk_at "Zv",⟨_,_,rfl,(ba.mul bs).sm (by omega),bb.sm (by omega),rfl⟩,λ v7 H7 s7 hv7=>?_⟩
 refine ⟨_,rfl,la,_,_,_,rfl,rfl,by walk_at "Zt",by rfl,_,rfl,?_⟩
 refine ⟨_,_,by walk_at "Zv",⟨_,_,rfl,blo.sm (by omega),(ba.mul bh).sm (by omega),rfl⟩,λ v8 H8 s8 hv8=>?_⟩
 refine ⟨_,rfl,la,_,_,_,rfl,rfl,by walk_at "Zt",by rfl,_,rfl,?_⟩
 refine ⟨_,_,by walk_at "Zv",⟨_,_,rfl,bhi.sm (by omega),(ba.mul bh).sm (by omega),rfl⟩,λ v9 H9 s9 hv9=>?_⟩
 have br:=(ba.mul bs).add bb;have bl:=blo.sub (ba.mul bh);have bi:=bhi.sub (ba.mul bh);have w7:DV K H9 v7 (Af (l.a * s0+l.b)):=by walk_at "Zd"
 have w8:DV K H9 v8 (Af (l.lo - l.a * h0)):=by walk_at "Zd"
 have w9:DV K H9 v9 (Af (l.hi - l.a * h0)):=hv9;have w3:=h3.keep (show Same H H9 from by walk_at "Zs")
 have w4:=h4.keep (show Same H H9 from by walk_at "Zs")
 have sH:Same H H9:=by walk_at "Zs"
 clear s5 s6 s7 s8 s9 hv5 hv6 hv7 hv8 hv9;refine ⟨_,rfl,oM w7 (dN T H9) ⟨_,rfl,?_⟩⟩;unfold Et at k;generalize l.a * s0+l.b=ri at br w7 k ⊢;generalize l.lo - l.a * h0=lw at bl w8 k ⊢;generalize l.hi - l.a * h0=hg at bi w9 k ⊢;by_cases hr0:ri=0
 ·rw [if_pos hr0] at k;refine Bt (decide_eq_true hr0) ?_;have pair:∀H',Same H9 H'->(2<=sizeLine/\∀p,H' p=none->DV K (upd H' p (.tup [x3,x4])) (.ref p) (pairD f0 g0)):=λ H' s'=>⟨(by show 2<=sizeLine;decide),λ p hp=>DV.upd2 hp (w3.keep s') (w4.keep s')⟩
  refine ⟨_,rfl,_,_,.cons (dN T H9) (.cons w8 .nil),⟨0,_,rfl,Sm.zero,bl.sm (by omega),rfl⟩,λ b1 H10 s10 hb1=>?_⟩
  obtain rfl:=hb1.bl_of;refine ⟨_,rfl,?_⟩;by_cases c1:0 < lw
  ·rw [if_neg (λ z=>z.1 c1)] at k
   rw [decide_eq_true c1];exact iteF (iteF (k _ _ (sH.trans s10) .non))
  ·rw [decide_eq_false c1];refine iteT ?_;refine ⟨_,rfl,_,_,.cons (w9.keep s10) (.cons (dN T H10) .nil),⟨_,0,rfl,bi.sm (by omega),Sm.zero,rfl⟩,λ b2 H11 s11 hb2=>?_⟩
   obtain rfl:=hb2.bl_of;refine ⟨_,rfl,?_⟩;by_cases c2:hg < 0
   ·rw [if_neg (λ z=>z.2 c2)] at k
    rw [decide_eq_true c2];exact iteF (k _ _ (sH.trans (s10.trans s11)) .non)
   ·rw [if_pos ⟨c1,c2⟩] at k;rw [decide_eq_false c2];refine iteT ⟨_,rfl,_,rfl,(pair H11 (s10.trans s11)).1,λ p hp=>?_⟩
    exact k _ _ (sH.trans (s10.trans (s11.trans (Ah hp _)))) ((pair H11 (s10.trans s11)).2 p hp)
 ·rw [if_neg hr0] at k;refine Bf (decide_eq_false hr0) ?_;have q0:Bd B (lw / ri):=(bl.div br hr0).mono (by omega)
  have q1:Bd B (hg / ri):=(bi.div br hr0).mono (by omega)
  refine ⟨_,rfl,_,rfl,_,_,.cons w8 (.cons w7 .nil),⟨_,_,rfl,bl.sm (by omega),br.sm (by omega),hr0,rfl⟩,λ v10 H10 s10 hv10=>?_⟩
  refine ⟨_,rfl,_,rfl,_,_,by walk_at "Zv",⟨_,_,rfl,bi.sm (by omega),br.sm (by omega),hr0,rfl⟩,λ v11 H11 s11 hv11=>?_⟩
  generalize lw / ri=e0 at q0 hv10 k;generalize hg / ri=e1 at q1 hv11 k;refine ⟨_,_,by walk_at "Zv",⟨_,_,rfl,q0.sm (by omega),q1.sm (by omega),rfl⟩,λ v12 H12 s12 hv12=>?_⟩
  rw [Ve] at hv12;obtain ⟨ea,t1,t2,rfl,hea,ht1,ht2⟩:=DV.t2 (show DV K H12 v12 (.tuple [Af _,Af _]) from hv12)
  have n1:=bK q0 q1;have n2:=Xz q0 q1;generalize mn e0 e1=a0 at n1 ht1 k;generalize mx e0 e1=a1 at n2 ht2 k;refine ⟨_,rfl,_,rfl,ea,_,_,_,rfl,rfl,hea,rfl,_,_,by walk_at "Zv",⟨_,_,rfl,bf.sm (by omega),n1.sm (by omega),rfl⟩,λ v13 H13 s13 hv13=>?_⟩
  refine ⟨_,rfl,_,rfl,ea,_,_,_,rfl,rfl,hea.keep s13,rfl,_,_,by walk_at "Zv",⟨_,_,rfl,bg.sm (by omega),n2.sm (by omega),rfl⟩,λ v14 H14 s14 hv14=>?_⟩
  have n3:=Xz bf n1;have n4:=bK bg n2;generalize mx f0 a0=b0 at n3 hv13 k;generalize mn g0 a1=b1 at n4 hv14 k;refine ⟨_,rfl,_,rfl,_,_,by walk_at "Zv",⟨_,_,rfl,n4.sm (by omega),n3.sm (by omega),rfl⟩,λ b15 H15 s15 hb15=>?_⟩
  obtain rfl:=hb15.bl_of;refine ⟨_,rfl,?_⟩;by_cases c3:b1 < b0
  ·rw [if_pos c3] at k;exact Bt (decide_eq_true c3) (k _ _ (De s15 (De s14 (De s13 (De s12 (De s11 (De s10 sH)))))) .non)
  ·rw [if_neg c3] at k;refine Bf (decide_eq_false c3) ⟨_,rfl,_,rfl,(by show 2<=sizeLine;decide),λ p hp=>?_⟩
   exact k _ _ (JR hp (De s15 (De s14 (De s13 (De s12 (De s11 (De s10 sH))))))) (DV.upd2 hp (hv13.keep (s14.trans s15)) (hv14.keep s15))
theorem yH (T:Txt K mg ad):CalB P w K mg base true 4 "look_at_stretch" ["first","last"] (PR K jc):=by
 have Ou:=Xg (P:=P) (w:=w) (base:=base) T;refine T.V0.calN xT (λ _ _ _ _ _ _=>Bs λ _ _=>rfl) (λ vs H Q E h=>?_) (λ f cdv A outer s H vs Q E hr h=>?_)
 ·obtain ⟨_,_,dv,⟨_,_,rfl,_⟩,_⟩:=h;exact dv.len
 obtain ⟨_,_,dv,⟨p,q,rfl,sp,sq,ord,rfl⟩,k⟩:=h;obtain ⟨x,y,rfl,hx,hy⟩:=dv.two;refine ⟨_,(Ao (Be (Cd (By (Aj Ou (hr.mono (by decide)) Ai (Ad (pv 0) (Ad (pv 1) Ab))))) (Ao Es) Bj)),?_⟩
 refine ⟨_,rfl,_,rfl,_,_,.cons hx (.cons hy .nil),⟨_,_,rfl,sp,sq,Rat.not_lt.mp ord,rfl⟩,λ b H1 s1 hb=>?_⟩
 obtain rfl:=hb.bl_of;exact ⟨_,rfl,iteF (k _ _ s1 .non)⟩
theorem rP (T:Txt K mg ad):CalB P w K mg base true 6 "slants_of" ["bench","lamp","first","last"] (PR K wZ):=by
 have Ha:=SQ (P:=P) (w:=w) (base:=base) T;have yS:=yH (P:=P) (w:=w) (base:=base) T;have rR:=uh (P:=P) (w:=w) (base:=base) T;refine T.Mx.calN JW (λ _ _ _ _ _ _=>by4 λ _ _ _ _=>rfl) (λ vs H Q E h=>?_) (λ f cdv A outer s H vs Q E hr h=>?_)
 ·obtain ⟨_,_,dv,⟨_,_,_,_,_,_,_,_,rfl,_⟩,_⟩:=h;exact dv.len
 obtain ⟨_,_,dv,⟨ps,h0,s0,f0,g0,n,m,B,rfl,g,bh,bs,bf,bg,ord,hB,hB2,rfl⟩,k⟩:=h;obtain ⟨x1,x2,x3,x4,rfl,h1,h2,h3,h4⟩:=dv.four;refine ⟨_,(Al (Aw (i:=4) JW.nd rfl (Or.inl rfl) (Aj Ha (hr.mono (by decide)) Ai (Ad (pv 0) Ab))) (Al (DR (Aj yS (hr.mono (by decide)) Ai (Ad (pv 2) (Ad (pv 3) Ab)))) (Al (Aw (i:=5) JW.nd rfl (Or.inl rfl) (BK (Ad (pv 2) (Ad (pv 3) Ab)))) (Al (DW PassesOwn.never rfl (Dw (pv 4)) (Bq (i:=6) JW.nd rfl (by first | exact Or.inl rfl | exact Or.inr rfl)) (Al (Aw (i:=5) JW.nd rfl (Or.inl rfl) (Aj rR (hr.mono (by decide)) Ai (Ad (pv 6) (Ad (pv 1) (Ar (Ag Am (pv 5) Ac (λ _ _=>rfl)) (Ar (Ag Am (pv 5) Ac (λ _ _=>rfl)) Ab)))))) (Ao (Be (Bo La (pv 5) Ff (nomark _)) (Ao (Az Ff)) Bj)))) (Ao (Az (pv 5))))))),?_⟩
 refine ⟨_,rfl,_,ps,n,rfl,h1,g,by omega,λ l rs H1 s1 nl hl hrs=>?_⟩
 have hlen:rs.length=(Ba ps).length:=by have:=hrs.len;rw [List.length_map] at this;exact this
 have hok:∀x∈Ba ps,LimOk (2+ps.length * (n+1)+n) x:=qD g.bd;refine ⟨_,rfl,_,rfl,_,_,by walk_at "Zv",⟨_,_,rfl,bf.sm (by omega),bg.sm (by omega),ord,rfl⟩,λ v2 H2 s2 _=>?_⟩
 refine ⟨_,rfl,_,rfl,(by show 2<=sizeLine;decide),λ p3 hp3=>?_⟩
 have u3:=Ah hp3 (.tup [x3,x4]);have d3:DV K (upd H2 p3 (.tup [x3,x4])) (.ref p3) (pairD f0 g0):=DV.upd2 hp3 (by walk_at "Zd") (by walk_at "Zd")
 have hl3:=(s2.trans u3) _ _ hl;have hrs3:=hrs.keep (s2.trans u3);have t3:=s1.trans (s2.trans u3);clear u3 s2 s1;generalize upd H2 p3 (.tup [x3,x4])=H3 at d3 hl3 hrs3 t3 ⊢;generalize Ba ps=ls at hok hrs3 hlen k;refine ⟨_,rfl,l,rfl,⟨_,SqL.of hl3⟩,?_⟩;refine Fg (K:=K) (a:=l) (xs:=rs) (λ i σ H'=>∃c6 sv f1 g1,σ=[some x1,some x2,some x3,some x4,some (.ref l),some sv,c6]/\Same H3 H'/\DV K H' sv (pairD f1 g1)/\Bd B f1/\Bd B g1/\Dr ls h0 s0 f0 g0=Dr (ls.drop i) h0 s0 f1 g1) ⟨_,_,f0,g0,rfl,Same.refl _,d3,bf,bg,rfl⟩ ?_ ?_ ?_
 ·rintro i σ H' hi ⟨c6,sv,f1,g1,rfl,s4,_⟩
  exact SqL.of (s4 _ _ hl3)
 ·rintro i x σ H' hi ⟨c6,sv,f1,g1,rfl,s4,hsv,b1,b2,es⟩
  obtain ⟨d,hd,hx⟩:=hrs3.get hi;obtain ⟨lm,hlm,rfl⟩:=bz hd;have ok:=hok _ (List.mem_of_getElem? hlm);rw [jJ hlm] at es;obtain ⟨sa,t1,t2,rfl,hsa,ht1,ht2⟩:=DV.t2 (show DV K H' sv (.tuple [Af f1,Af g1]) from hsv)
  refine ⟨_,rfl,_,rfl,_,rfl,sa,_,_,_,rfl,rfl,hsa,rfl,_,rfl,sa,_,_,_,rfl,rfl,hsa,rfl,?_⟩;refine ⟨_,_,.cons (hx.keep s4) (.cons (h2.keep (t3.trans s4)) (.cons ht1 (.cons ht2 .nil))),⟨lm,h0,s0,f1,g1,_,m,B,rfl,ok,bh,bs,b1,b2,hB,hB2,rfl⟩,λ v5 H5 s5 hv5=>?_⟩
  cases e:Et lm h0 s0 f1 g1 with
  | none=>
   rw [e] at hv5 es;obtain rfl:=DV.non_of hv5;refine ⟨_,rfl,rfl,_,rfl,Bt (by decide) (k _ _ (t3.trans (s4.trans s5)) ?_)⟩
   rw [es];exact .non
  | some pr=>
   obtain ⟨f2,g2⟩:=pr;rw [e] at hv5 es;have hv5:DV K H5 v5 (pairD f2 g2):=hv5;obtain ⟨ea,eb,_⟩:=Xv e;have qb:=Yz (ls:=[lm]) (λ l hl=>by rw [List.mem_singleton.mp hl];exact ok) bh bs
   have b3:Bd B f2:=by
    rcases List.mem_cons.mp ea with rfl | h
    ·exact b1
    ·exact (qb _ h).mono hB
   have b4:Bd B g2:=by
    rcases List.mem_cons.mp eb with rfl | h
    ·exact b2
    ·exact (qb _ h).mono hB
   obtain ⟨va,w1,w2,rfl,hva,_,_⟩:=DV.t2 (show DV K H5 v5 (.tuple [Af f2,Af g2]) from hv5)
   exact ⟨_,rfl,rfl,_,rfl,Bf (by simp) ⟨_,_,f2,g2,rfl,s4.trans s5,hv5,b3,b4,es⟩⟩
 ·rintro σ H' ⟨c6,sv,f1,g1,rfl,s4,hsv,b1,b2,es⟩
  refine ⟨_,rfl,k _ _ (t3.trans s4) ?_⟩;rw [es,hlen,List.drop_length];exact hsv
end
end K84
namespace K84
open PySem L2 Lib Fr Op Tx PySem.NumText
seal PE PT PW PA PS PSs PG PGs PI PO CZ PJ
section
variable {P:Program}{w:World}{K:FrG}{mg:PySem.Str->Option Value}{base:Heap}{ad:Adr}{c:Bool}
theorem aQ (T:Txt K mg ad):CalB P w K mg base true 1 "show_ratio" ["one"] (yR K):=by
 refine T.Vw.calN WD (λ _ _ _ _ _ _=>by1 λ _=>rfl) (λ vs H Q E h=>?_) (λ f cdv A outer s H vs Q E hr h=>?_)
 ·obtain ⟨_,_,rfl,_⟩:=h;rfl
 obtain ⟨v,p,rfl,hv,sp,q⟩:=h;have hn:=Z6 sp.n;have hd:=Z6 sp.d;obtain ⟨a,y1,y2,rfl,h,e1,e2⟩:=DV.t2 (show DV K H v (.tuple [.int p.num,.int (p.den:Int)]) from hv)
 obtain rfl:=DV.int_of e1;obtain rfl:=DV.int_of e2;refine ⟨_,(Al (Aw (i:=1) WD.nd rfl (Or.inl rfl) (Ag Am (pv 0) Ac (λ _ _=>rfl))) (Al (Aw (i:=2) WD.nd rfl (Or.inl rfl) (Ag Am (pv 0) Ac (λ _ _=>rfl))) (Al (Be (Bo DX (pv 2) Ac (nomark _)) (Ao (Az (Rq jW rfl T.str Mh (Ad (pv 1) Ab)))) Bj) (Ao (Az (gw (dU (pv 1) (iT (dU (pv 2) sZ))))))))),?_⟩
 refine ⟨_,rfl,a,_,_,_,rfl,rfl,h,rfl,?_⟩;refine ⟨_,rfl,a,_,_,_,rfl,rfl,h,rfl,?_⟩;refine ⟨_,rfl,rfl,_,rfl,?_⟩;have e1:∀x:PySem.Str,cl x=sh p->x=Bk p:=λ x hx=>ext (hx.trans (Pb p).symm)
 refine ite2 (λ c1=>?_) (λ c1=>?_)
 ·have d1:p.den=1:=by
   have z:decide (V.int (p.den:Int)=V.int 1)=true:=c1;rw [KR] at z;have:=of_decide_eq_true z;omega
  refine ⟨_,rfl,_,rfl,hn,?_⟩;have e2:PySem.Str.ofString (toString p.num)=Bk p:=e1 _ (by rw [NZ];unfold sh;rw [if_pos d1,List.append_nil])
  show Q (.str (PySem.Str.ofString (toString p.num))) H;rw [e2];exact q
 ·have d1:¬ p.den=1:=by
   intro e
   apply c1
   show decide (V.int (p.den:Int)=V.int 1)=true;rw [KR,e];rfl
  have nl:((p.den:Int)).natAbs.log2 < 1920:=by rw [Int.natAbs_natCast];exact hd
  have z1:=YM hn;have z2:=YM nl;have z0:PySem.Str.empty.length=0:=rfl;have zs:(PySem.Str.ofString "/").length=1:=rfl;refine ⟨_,rfl,_,.inl ⟨_,rfl,hn,rfl⟩,IK (by rw [HW];omega),IK (by rw [HW,HW];omega),_,rfl,_,.inl ⟨_,rfl,nl,rfl⟩,IK (by rw [HW,HW,HW];omega),IK (by rw [HW,HW,HW];omega),?_⟩
  have e2:=e1 _ (show cl ((PySem.Str.empty++PySem.Str.ofString (toString p.num))++(PySem.Str.ofString "/")++PySem.Str.ofString (toString ((p.den:Nat):Int)))=sh p by
   rw [rE,cl,List.toList_toArray];unfold sh;rw [if_neg d1])
  show Q (.str ((PySem.Str.empty++PySem.Str.ofString (toString p.num))++(PySem.Str.ofString "/")++PySem.Str.ofString (toString ((p.den:Nat):Int)))) H;rw [e2];exact q
theorem ue (T:Txt K mg ad):CalB P w K mg base true 1 "read_part_figures" ["text"] mL:=by
 refine T.RW.calN pH (λ _ _ _ _ _ _=>by1 λ _=>rfl) (λ vs H Q E h=>?_) (λ f cdv A outer s H vs Q E hr h=>?_)
 ·obtain ⟨_,_,rfl,_⟩:=h;rfl
 obtain ⟨x,m,rfl,hx,hl,q⟩:=h;have xl:x.length=(dg m).length:=by rw [<- GX,hx]
 have xp:=m8 m;have hz:x.length<=sizeLine:=Nat.le_of_lt (small1000 (by omega))
 refine ⟨_,(Al (Be (PW.pt (pw_or (Cd (oX dJ dJ Ac (CP my rfl T.len Dq (Ad (pv 0) Ab)) (CJ (v:=.int 15) rfl T.ex.m_MOST_FIGURES ⟨_,rfl⟩))) (pw_or1 (Cd (By (CP (Xp rfl) rfl T.all ZD (Dn (su rfl (pv 0) T.ex.m_FIGURES (by decide) (by decide) rfl (by decide) rfl rfl rfl rfl) Ab))))))) (Ao Es) Bj) (Ao (Az (Rq jO rfl T.int Zf (Ad (pv 0) Ab))))),?_⟩
 refine ⟨_,rfl,x,rfl,hz,_,_,rfl,rfl,_,rfl,Bt (decide_eq_true (by omega)) ⟨_,_,rfl,rfl,_,rfl,Bf (by rw [decide_eq_true (by omega)];rfl) ?_⟩⟩
 refine ⟨_,rfl,x,rfl,hz,λ p hp=>?_⟩
 refine ⟨p,(cl x).map λ c=>decide (48<=c/\c<=57),rfl,SqL.of (by rw [qC];exact Aq),_,rfl,?_⟩
 have ad':AllDigits (cl x):=by rw [hx];exact Lb m
 rw [(vH (cl x)).mpr ad'];refine iteF ⟨_,rfl,x,(m:Int),rfl,by omega,?_,q _ (Ah hp _)⟩
 have e:=intText_digits (x:=x) ad' (λ e=>by have:=GX x;rw [cl,e] at this;simp at this;omega) (by omega)
 rw [e];show some ((digitsVal (cl x):Nat):Int)=some (m:Int);rw [hx,wu]
theorem wU (T:Txt K mg ad):CalB P w K mg base true 3 "read_ratio" ["text"] (bj K):=by
 have Jy:=Vs (P:=P) (w:=w) (base:=base) T;have Tq:=aQ (P:=P) (w:=w) (base:=base) T;have aX:=ue (P:=P) (w:=w) (base:=base) T;refine T.Qt.calN Jq (λ _ _ _ _ _ _=>by1 λ _=>rfl) (λ vs H Q E h=>?_) (λ f cdv A outer s H vs Q E hr h=>?_)
 ·obtain ⟨_,rfl,_⟩:=h;rfl
 obtain ⟨q,rfl,sq,k⟩:=h;have hl:=Xu q sq;have ex:cl (Bk q)=sh q:=Pb q;have xl:(Bk q).length<=40:=by rw [<- GX,ex];exact hl
 have n1:=(MJ (m:=q.num.natAbs) (k:=15) (by decide)).mpr sq.n
 have n2:=(MJ (m:=q.den) (k:=15) (by decide)).mpr sq.d
 have hz:(Bk q).length+2<=sizeLine:=Nat.le_of_lt (small1000 (by omega))
 obtain ⟨tR,hR,kR⟩:∃t,PSs (Dy true P w K mg base ["text","is_below","parts","top","bottom","one"] "read_ratio" (defScope Kh) f cdv A outer s H E).nox ((defBody Kh).drop 3) t/\∀(p:Addr) (ps:List PySem.Str) (H1:Hp) (D:Ends),H1 p=some (.lst (ps.map V.str))->ps.map cl=cut 47 (bd q)->(∀v H',Same H1 H'->DV K H' v (Af q)->D.rt v H')->
   t D [some (.str (Bk q)),some (.bl (decide (q.num < 0))),some (.ref p),none,none,none] H1:=by
  refine ⟨_,(Al (Be (Bo JQ (CP Ea rfl T.len Dq (Ad (pv 2) Ab)) Ac (nomark _)) (Ao Es) Bj) (Al (Aw (i:=3) Jq.nd rfl (Or.inl rfl) (Aj aX (hr.mono (by decide)) Ai (Ar (Ag CV (pv 2) Ac (λ _ _=>rfl)) Ab))) (Al (Aw (i:=4) Jq.nd rfl (Or.inl rfl) (Ip (Bo DX (CP Ea rfl T.len Dq (Ad (pv 2) Ab)) Ac (nomark _)) (Aj aX (hr.mono (by decide)) Ai (Ar (Ag CV (pv 2) Ac (λ _ _=>rfl)) Ab)) Ac)) (Al (Aw (i:=5) Jq.nd rfl (Or.inl rfl) (BK (gh (Ip (By (pv 1)) (Ay Ec Ac (pv 3)) (pv 3)) (Ad (pv 4) Ab)))) (Al (Be (PW.pt (pw_or (Cd (By (Aj Jy (hr.mono (by decide)) Ai (Ad (pv 5) Ab)))) (pw_or1 (Bo Hb (Aj Tq (hr.mono (by decide)) Ai (Ad (pv 5) Ab)) (pv 0) (nomark _))))) (Ao Es) Bj) (Ao (Az (pv 5)))))))),?_⟩
  intro p ps H1 D hp hps k;rw [vp] at hps;have num:(if q.num < 0 then (0:Int) - ((q.num.natAbs:Nat):Int) else ((q.num.natAbs:Nat):Int))=q.num:=by split<;>omega
  have fin:∀(H3:Hp) (r:Addr),H3 r=none->∀v:Int,v=q.num->Same H1 H3->DV K (upd H3 r (.tup [.int v,.int ((q.den:Nat):Int)])) (.ref r) (Af q)/\Same H1 (upd H3 r (.tup [.int v,.int ((q.den:Nat):Int)])):=λ H3 r hr v hv s3=>by
   subst hv;exact ⟨.tup (SqT.of Aq) (.cons (.int _) (.cons (.int _) .nil)),s3.trans (Ah hr _)⟩
  by_cases hd:q.den=1
  ·rw [if_pos hd] at hps
   match ps,hps,hp with
   | [z],hps,hp=>
    have ez:cl z=dg q.num.natAbs:=(List.cons.inj hps).1;refine ⟨_,rfl,p,_,rfl,.inl (SqL.of hp),_,_,rfl,rfl,_,rfl,Bf (by rfl) ?_⟩
    refine ⟨_,rfl,p,_,_,_,rfl,rfl,SqL.of hp,CQ,z,q.num.natAbs,rfl,ez,n1,λ H2 s2=>?_⟩
    refine ⟨_,rfl,p,_,rfl,.inl (SqL.of (s2 _ _ hp)),rfl,_,rfl,Bf (by rfl) ?_⟩
    have e1:((1:Nat):Int)=((q.den:Nat):Int):=by rw [hd]
    refine ⟨_,rfl,_,rfl,?_⟩;by_cases hn:q.num < 0
    ·rw [if_pos hn] at num;refine Bt (decide_eq_true hn) ⟨_,rfl,_,_,rfl,rfl,_,rfl,(by show 2<=sizeLine;decide),λ r hr=>?_⟩
     obtain ⟨d4,s4⟩:=fin H2 r hr _ num s2;rw [<- e1] at d4 s4;exact ⟨_,rfl,.ref r,q,rfl,d4,⟨_,rfl,iteF ⟨_,rfl,.ref r,q,rfl,d4,sq,_,rfl,rfl,_,rfl,Bf (by rw [decide_eq_true rfl];rfl) ⟨_,rfl,k _ _ s4 d4⟩⟩⟩⟩
    ·rw [if_neg hn] at num;refine Bf (decide_eq_false hn) ⟨_,rfl,_,rfl,(by show 2<=sizeLine;decide),λ r hr=>?_⟩
     obtain ⟨d4,s4⟩:=fin H2 r hr _ num s2;rw [<- e1] at d4 s4;exact ⟨_,rfl,.ref r,q,rfl,d4,⟨_,rfl,iteF ⟨_,rfl,.ref r,q,rfl,d4,sq,_,rfl,rfl,_,rfl,Bf (by rw [decide_eq_true rfl];rfl) ⟨_,rfl,k _ _ s4 d4⟩⟩⟩⟩
   | [],hps,_=>simp at hps
   | _::_::_,hps,_=>simp at hps
  ·rw [if_neg hd] at hps
   match ps,hps,hp with
   | [z,y],hps,hp=>
    have ez:cl z=dg q.num.natAbs:=(List.cons.inj hps).1;have ey:cl y=dg q.den:=(List.cons.inj (List.cons.inj hps).2).1;refine ⟨_,rfl,p,_,rfl,.inl (SqL.of hp),_,_,rfl,rfl,_,rfl,Bf (by rfl) ?_⟩
    refine ⟨_,rfl,p,_,_,_,rfl,rfl,SqL.of hp,CQ,z,q.num.natAbs,rfl,ez,n1,λ H2 s2=>?_⟩
    refine ⟨_,rfl,p,_,rfl,.inl (SqL.of (s2 _ _ hp)),rfl,_,rfl,Bt (by rfl) ?_⟩
    refine ⟨_,rfl,p,_,_,_,rfl,rfl,SqL.of (s2 _ _ hp),rfl,y,q.den,rfl,ey,n2,λ H3 s3=>?_⟩
    have s23:=s2.trans s3;refine ⟨_,rfl,_,rfl,?_⟩;by_cases hn:q.num < 0
    ·rw [if_pos hn] at num;refine Bt (decide_eq_true hn) ⟨_,rfl,_,_,rfl,rfl,_,rfl,(by show 2<=sizeLine;decide),λ r hr=>?_⟩
     obtain ⟨d4,s4⟩:=fin H3 r hr _ num s23;exact ⟨_,rfl,.ref r,q,rfl,d4,⟨_,rfl,iteF ⟨_,rfl,.ref r,q,rfl,d4,sq,_,rfl,rfl,_,rfl,Bf (by rw [decide_eq_true rfl];rfl) ⟨_,rfl,k _ _ s4 d4⟩⟩⟩⟩
    ·rw [if_neg hn] at num;refine Bf (decide_eq_false hn) ⟨_,rfl,_,rfl,(by show 2<=sizeLine;decide),λ r hr=>?_⟩
     obtain ⟨d4,s4⟩:=fin H3 r hr _ num s23;exact ⟨_,rfl,.ref r,q,rfl,d4,⟨_,rfl,iteF ⟨_,rfl,.ref r,q,rfl,d4,sq,_,rfl,rfl,_,rfl,Bf (by rw [decide_eq_true rfl];rfl) ⟨_,rfl,k _ _ s4 d4⟩⟩⟩⟩
   | [],hps,_=>simp at hps
   | [_],hps,_=>simp at hps
   | _::_::_::_,hps,_=>simp at hps
 refine ⟨_,(Al (Be (Cd (By (CP Gj rfl T.isinstance GF (Ad (pv 0) (Ad (GD (v:=.ty "str") rfl T.str Mh rfl) Ab))))) (Ao Es) Bj) (Al (Aw (i:=1) Jq.nd rfl (Or.inl rfl) (Dc PySem.F.plainAttrs_str PySem.F.slot_str_startswith PySem.F.type_str_startswith oK (pv 0) (BJ Dk Ab))) (Al (Aw (i:=2) Jq.nd rfl (Or.inl rfl) (Ip (By (pv 1)) (Dc PySem.F.plainAttrs_str PySem.F.slot_str_split PySem.F.type_str_split SX (JS aV (pv 0) (Ho Ac) K9) (BJ Dk Ab)) (Dc PySem.F.plainAttrs_str PySem.F.slot_str_split PySem.F.type_str_split SX (pv 0) (BJ Dk Ab)))) hR))),?_⟩;have st:∀x:PySem.Str,Txt.startswith x (PySem.Str.ofString "-")=decide ((cl x).head?=some 45):=λ x=>by rw [uB,pC]
 have sc:∀x:PySem.Str,(Txt.split x (PySem.Str.ofString "/")).map cl=cut 47 (cl x):=λ x=>by rw [nU,aM]
 refine ⟨_,rfl,_,_,_,_,rfl,.str _,Td _,_,rfl,iteF ?_⟩;refine ⟨_,rfl,rfl,_,_,rfl,rfl,?_⟩;have e1:Txt.startswith (Bk q) (PySem.Str.ofString "-")=decide (q.num < 0):=by rw [st,ex,mD]
 rw [e1];refine ⟨_,rfl,_,rfl,?_⟩;have eb:=lV q;by_cases hneg:q.num < 0
 ·refine Bt (decide_eq_true hneg) ?_;have yl:(Txt.slice (Bk q) (some 1) none).length<=40:=Nat.le_trans (Txt.slice_le _ _ _) xl;refine ⟨_,rfl,_,rfl,Bk q,rfl,IK (by omega),rfl,_,_,rfl,rfl,rfl,IK (by omega),λ p hp=>?_⟩
  rw [if_pos hneg] at eb;exact kR p _ _ _ Aq (by rw [sc,qu,ex,eb]) λ v H' s' hv=>k v H' ((Ah hp _).trans s') hv
 ·refine Bf (decide_eq_false hneg) ?_;refine ⟨_,rfl,rfl,_,_,rfl,rfl,rfl,IK (by omega),λ p hp=>?_⟩
  rw [if_neg hneg] at eb;exact kR p _ _ _ Aq (by rw [sc,ex,eb]) λ v H' s' hv=>k v H' ((Ah hp _).trans s') hv
theorem gP (T:Txt K mg ad):CalB P w K mg base true 4 "read_number" ["word"] (bj K):=by
 have xH:=wU (P:=P) (w:=w) (base:=base) T;refine T.Vl.calN pB (λ _ _ _ _ _ _=>by1 λ _=>rfl) (λ vs H Q E h=>?_) (λ f cdv A outer s H vs Q E hr h=>?_)
 ·obtain ⟨_,rfl,_⟩:=h;rfl
 obtain ⟨q,rfl,sq,k⟩:=h;refine ⟨_,(Ao (ni xH (hr.mono (by decide)) (Ad (pv 0) Ab))),?_⟩
 exact ⟨_,rfl,q,rfl,sq,k⟩
end
end K84
namespace K84
open PySem L2 Lib Fr Op Tx PySem.NumText
seal PE PT PW PA PS PSs PG PGs PI PO CZ PJ
section
variable {P:Program}{w:World}{K:FrG}{mg:PySem.Str->Option Value}{base:Heap}{ad:Adr}{c:Bool}
theorem xg (T:Txt K mg ad):MkC P w K mg base 1 "Reader" ad.Reader ["self","words"] (iI ad.Reader):=by
 refine T.ex.i_Reader.mkc fV (λ _ _ _ _ _ _=>Bs λ _ _=>rfl) (λ vs H Q E h=>?_) (λ f cdv A outer s H vs Q E hr h=>?_)
 ·obtain ⟨a,dx,wl,rfl,_⟩:=h;rfl
 obtain ⟨a,dx,wl,rfl,ha,q⟩:=h;refine ⟨_,(Al (KJ (pv 0) (pv 1)) (Ao (KJ (pv 0) Ac))),?_⟩;refine ⟨_,rfl,_,rfl,a,ad.Reader,dx,[],rfl,ha,T.ex.l_Reader,T.ex.n_Reader_words,by decide,?_⟩
 refine ⟨_,rfl,a,ad.Reader,dx,[("words",.ref wl)],rfl,Aq,T.ex.l_Reader,T.ex.n_Reader_place,by show 1 < 1000;decide,?_⟩
 rw [Ik];exact q
theorem W5 (T:Txt K mg ad):MC P w K mg base 1 ad.Reader "is_done" ["self"] (qm ad.Reader):=by
 refine T.ex.q_Reader_is_done.mc fU (λ _ _ _ _ _ _=>by1 λ _=>rfl) (λ vs H Q E h=>?_) (λ f cdv A outer s H vs Q E hr h=>?_)
 ·obtain ⟨_,_,_,_,_,rfl,_⟩:=h;rfl
 obtain ⟨a,dx,wl,ws,i,rfl,rd,q⟩:=h;refine ⟨_,(Ao (Az (Eg DX (Gg (pv 0)) (CP Ea rfl T.len Dq (Dn (Gg (pv 0)) Ab)) (nomark _)))),?_⟩;refine ⟨_,rfl,a,_,dx,_,_,rfl,rd.r,T.ex.l_Reader,T.ex.n_Reader_place,rfl,_,rfl,a,_,dx,_,_,rfl,rd.r,T.ex.l_Reader,T.ex.n_Reader_words,rfl,wl,_,rfl,.inl (SqL.of rd.w),rfl,?_⟩;rw [KR,List.length_map,show decide (((i:Nat):Int)=((ws.length:Nat):Int))=decide (i=ws.length) from decide_eq_decide.mpr ⟨λ h=>by omega,λ h=>by omega⟩]
 exact q
theorem Le (T:Txt K mg ad):MC P w K mg base 2 ad.Reader "take" ["self"] (oN ad.Reader):=by
 refine T.ex.q_Reader_take.mc xR (λ _ _ _ _ _ _=>by1 λ _=>rfl) (λ vs H Q E h=>?_) (λ f cdv A outer s H vs Q E hr h=>?_)
 ·obtain ⟨_,_,_,_,_,_,rfl,_⟩:=h;rfl
 obtain ⟨a,dx,wl,ws,i,z,rfl,rd,hz,q⟩:=h;have il:=Cq hz;refine ⟨_,(Al (Be (By (Iz (k:=1) (pv 0) (hr.mono (by decide)))) (Ao Es) Bj) (Al (ZC (pv 0) Ac cz) (Ao (Az (Ag CV (Gg (pv 0)) (Ay Ec (Gg (pv 0)) Ac) (λ _ _=>rfl)))))),?_⟩
 refine ⟨_,rfl,a,_,dx,_,_,_,rfl,rd.r,rfl,W5 T,a,dx,wl,ws,i,rfl,rd,_,rfl,Bf (decide_eq_false (by omega)) ?_⟩
 refine ⟨_,rfl,a,_,dx,_,_,rfl,rd.r,T.ex.l_Reader,T.ex.n_Reader_place,rfl,_,_,rfl,rfl,dx,_,rd.r,by show 2 < 1000;decide,?_⟩
 have rd2:=rd.step (i+1);have e:((i:Int)+1)=((i+1:Nat):Int):=by omega
 rw [e];refine ⟨_,rfl,a,_,dx,_,_,rfl,rd2.r,T.ex.l_Reader,T.ex.n_Reader_words,rfl,_,rfl,a,_,dx,_,_,rfl,rd2.r,T.ex.l_Reader,T.ex.n_Reader_place,rfl,_,_,rfl,rfl,wl,_,_,.str z,rfl,rfl,SqL.of rd2.w,?_,q⟩;have e2:((i+1:Nat):Int) - 1=(i:Int):=by omega
 rw [e2];exact Eh (by rw [List.getElem?_map,hz];rfl)
theorem uU (T:Txt K mg ad):MC P w K mg base 2 ad.Reader "take_if" ["self","word"] (xZ ad.Reader):=by
 refine T.ex.q_Reader_take_if.mc yV (λ _ _ _ _ _ _=>Bs λ _ _=>rfl) (λ vs H Q E h=>?_) (λ f cdv A outer s H vs Q E hr h=>?_)
 ·obtain ⟨_,_,_,_,_,_,rfl,_⟩:=h;rfl
 obtain ⟨a,dx,wl,ws,i,z,rfl,rd,le,q1,q2⟩:=h;refine ⟨_,(Al (Be (PW.pt (pw_or (By (Iz (k:=1) (pv 0) (hr.mono (by decide)))) (pw_or1 (Bo Hb (Ag CV (Gg (pv 0)) (Gg (pv 0)) (λ _ _=>rfl)) (pv 1) (nomark _))))) (Ao (Az DN)) Bj) (Al (ZC (pv 0) Ac cz) (Ao (Az DN)))),?_⟩
 refine ⟨_,rfl,a,_,dx,_,_,_,rfl,rd.r,rfl,W5 T,a,dx,wl,ws,i,rfl,rd,_,rfl,?_⟩;by_cases hi:i=ws.length
 ·refine Bt (decide_eq_true hi) (iteT (q2 λ e=>?_))
  have:=Cq e;omega
 ·refine Bf (decide_eq_false hi) ?_;have il:i < ws.length:=by omega
  have hg:ws[i]?=some ws[i]:=List.getElem?_eq_getElem il;refine ⟨_,rfl,a,_,dx,_,_,rfl,rd.r,T.ex.l_Reader,T.ex.n_Reader_words,rfl,_,rfl,a,_,dx,_,_,rfl,rd.r,T.ex.l_Reader,T.ex.n_Reader_place,rfl,wl,_,_,.str ws[i],rfl,rfl,SqL.of rd.w,Eh (by rw [List.getElem?_map,hg];rfl),_,rfl,rfl,_,rfl,?_⟩
  by_cases hz:ws[i]=z
  ·refine Bf (by rw [Ey,decide_eq_true hz];rfl) ?_
   refine ⟨_,rfl,a,_,dx,_,_,rfl,rd.r,T.ex.l_Reader,T.ex.n_Reader_place,rfl,_,_,rfl,rfl,dx,_,rd.r,by show 2 < 1000;decide,?_⟩
   have e:((i:Int)+1)=((i+1:Nat):Int):=by omega
   rw [e];exact q1 (by rw [hg,hz])
  ·exact Bt (by rw [Ey,decide_eq_false hz];rfl) (q2 (by rw [hg];exact λ e=>hz (Option.some.inj e)))
theorem lL (T:Txt K mg ad):CalB P w K mg base true 1 "words_of" ["text"] ju:=by
 refine T.Wv.calN Q9 (λ _ _ _ _ _ _=>by1 λ _=>rfl) (λ vs H Q E h=>?_) (λ f cdv A outer s H vs Q E hr h=>?_)
 ·obtain ⟨_,rfl,_⟩:=h;rfl
 obtain ⟨x,rfl,hx,n4,wl,q⟩:=h;refine ⟨_,(Al (Aw (i:=1) Q9.nd rfl (Or.inl rfl) (Cg Ab)) (Al (DW PassesOwn.never rfl (Dw (Dc PySem.F.plainAttrs_str PySem.F.slot_str_split PySem.F.type_str_split SX (pv 0) (BJ Dk Ab))) (Bq (i:=2) Q9.nd rfl (by first | exact Or.inl rfl | exact Or.inr rfl)) (Ao (Be (By (Dc PySem.F.plainAttrs_str PySem.F.slot_str_endswith PySem.F.type_str_endswith wg (pv 2) (Ad (CJ (v:=.str ";") rfl T.ex.m_PARTED ⟨_,rfl⟩) Ab))) (Al (DR (Dc PySem.F.plainAttrs_list PySem.F.slot_list_append PySem.F.type_list_append Ft (pv 1) (Ar (JS aV (pv 2) K9 (Ho (Jv Ju Ac))) Ab))) (Ao (DR (Dc PySem.F.plainAttrs_list PySem.F.slot_list_append PySem.F.type_list_append Ft (pv 1) (Ad (CJ (v:=.str ";") rfl T.ex.m_PARTED ⟨_,rfl⟩) Ab))))) (Ao (DR (Dc PySem.F.plainAttrs_list PySem.F.slot_list_append PySem.F.type_list_append Ft (pv 1) (Ad (pv 2) Ab))))))) (Ao (Az (pv 1))))),?_⟩
 refine ⟨(by show 0<=sizeLine;decide),λ l hl=>?_⟩
 have u0:=Ah hl (.lst []);have m0:upd H l (.lst []) l=some (.lst []):=Aq;generalize upd H l (.lst [])=H0 at u0 m0 ⊢;refine ⟨_,rfl,rfl,x,_,rfl,rfl,rfl,hx,λ p hp=>⟨p,rfl,⟨_,SqL.of Aq⟩,?_⟩⟩
 have nl:p≠l:=λ e=>by rw [e,m0] at hp;cases hp
 have m1:upd H0 p (.lst ((Txt.split x (PySem.Str.ofString " ")).map V.str)) p=some (.lst ((Txt.split x (PySem.Str.ofString " ")).map V.str)):=Aq;have m2:=Ah hp (.lst ((Txt.split x (PySem.Str.ofString " ")).map V.str)) _ _ m0;have u1:=u0.trans (Ah hp (.lst ((Txt.split x (PySem.Str.ofString " ")).map V.str)));generalize upd H0 p (.lst ((Txt.split x (PySem.Str.ofString " ")).map V.str))=H1 at m1 m2 u1 ⊢;generalize eS:Txt.split x (PySem.Str.ofString " ")=S at n4 wl q m1 ⊢;have ll:∀i,(Cr (S.take i)).length<=40002:=by
  intro i;have g:∀L:List PySem.Str,(Cr L).length<=2 * L.length:=by
   intro L
   induction L with
   | nil=>exact Nat.le_refl _
   | cons w L ih=>
    have e:Cr (w::L)=Dm w++Cr L:=by unfold Cr;rw [List.map_cons,List.flatten_cons]
    rw [e,List.length_append,List.length_cons];have:(Dm w).length<=2:=by unfold Dm;split<;>simp
    omega
  have:=g (S.take i);rw [List.length_take] at this;omega
 have step:∀(i:Nat) (z:PySem.Str),S[i]?=some z->Cr (S.take (i+1))=Cr (S.take i)++Dm z:=by
  intro i z hz;rw [List.take_add_one,hz];unfold Cr;rw [List.map_append,List.flatten_append];simp
 refine Fg (K:=K) (a:=p) (xs:=S.map V.str) (λ i σ H'=>∃c2,σ=[some (.str x),some (.ref l),c2]/\Same H H'/\H' p=some (.lst (S.map V.str))/\H' l=some (.lst ((Cr (S.take i)).map V.str))) ⟨_,rfl,u1,m1,by rw [List.take_zero];exact m2⟩ ?_ ?_ ?_
 ·rintro i σ H' hi ⟨c2,rfl,s1,hp',hl'⟩
  exact SqL.of hp'
 ·rintro i v σ H' hi ⟨c2,rfl,s1,hp',hl'⟩
  rw [List.getElem?_map] at hi;cases ez:S[i]? with
  | none=>rw [ez] at hi;cases hi
  | some z=>
   rw [ez] at hi;cases hi
   have es:=step i z ez;have li:=ll i;have lz:z.length<=sizeLine:=Nat.le_trans (wl z (List.mem_of_getElem? ez)) (by decide)
   refine ⟨_,rfl,rfl,z,_,rfl,rfl,_,rfl,?_⟩;cases he:Txt.endswith z (PySem.Str.ofString ";") with
   | true=>
    have ew:Dm z=[Txt.slice z none (some (-1)),PySem.Str.ofString ";"]:=by unfold Dm;rw [if_pos he]
    refine iteT ⟨_,rfl,.inl ⟨rfl,_,SqL.of hl'⟩,_,rfl,_,rfl,_,rfl,z,rfl,lz,l,_,_,rfl,rfl,hl',Vx (by rw [List.length_map];omega),?_⟩
    have hl2:upd H' l (.lst ((Cr (S.take i)).map V.str++[.str (Txt.slice z none (some (-1)))])) l=some (.lst ((Cr (S.take i)).map V.str++[.str (Txt.slice z none (some (-1)))])):=Aq;have hp2:upd H' l (.lst ((Cr (S.take i)).map V.str++[.str (Txt.slice z none (some (-1)))])) p=some (.lst (S.map V.str)):=by rw [Av nl];exact hp'
    have s2:=Og s1 hl (.lst ((Cr (S.take i)).map V.str++[.str (Txt.slice z none (some (-1)))]));generalize upd H' l (.lst ((Cr (S.take i)).map V.str++[.str (Txt.slice z none (some (-1)))]))=H2 at hl2 hp2 s2 ⊢;refine ⟨_,rfl,.inl ⟨rfl,_,SqL.of hl2⟩,l,_,_,rfl,rfl,hl2,Vx (by rw [List.length_append,List.length_map];simp only [List.length_cons,List.length_nil];omega),?_⟩
    refine ⟨_,rfl,Og s2 hl _,by rw [Av nl];exact hp2,?_⟩
    rw [Aq,es,ew,List.map_append,List.append_assoc];rfl
   | false=>
    have ew:Dm z=[z]:=by unfold Dm;rw [if_neg (by rw [he];exact Bool.false_ne_true)]
    refine iteF ⟨_,rfl,.inl ⟨rfl,_,SqL.of hl'⟩,_,rfl,l,_,_,rfl,rfl,hl',Vx (by rw [List.length_map];omega),?_⟩
    refine ⟨_,rfl,Og s1 hl _,by rw [Av nl];exact hp',?_⟩
    rw [Aq,es,ew,List.map_append];rfl
 ·rintro σ H' ⟨c2,rfl,s1,hp',hl'⟩
  rw [List.length_map,List.take_length] at hl';exact ⟨_,rfl,q l H' s1 hl hl'⟩
end
end K84
namespace K84
open PySem L2 Lib Fr Op Tx PySem.NumText
seal PE PT PW PA PS PSs PG PGs PI PO CZ PJ
section
variable {P:Program}{w:World}{K:FrG}{mg:PySem.Str->Option Value}{base:Heap}{ad:Adr}{c:Bool}
theorem Jo {q:Rat}(h:Short q):Bd 50 q:=by
 have p1:(10:Nat) ^ 15<=2 ^ 50:=by decide
 exact ⟨Nat.lt_of_lt_of_le h.n p1,Nat.lt_of_lt_of_le h.d p1⟩
theorem qY (T:Txt K mg ad):CalB P w K mg base true 5 "read_part_texts" ["reader","deep"] (fj K ad.Reader):=by
 have WX:=Zz (P:=P) (w:=w) (base:=base) T;have Vq:=gP (P:=P) (w:=w) (base:=base) T;have uN:=T.Qg.not (P:=P) (w:=w) (base:=base) (k:=0) qK (λ _ _ _ _ _ _=>Ij λ _ _ _=>rfl)
 refine T.S5.calN Mv (λ _ _ _ _ _ _=>Bs λ _ _=>rfl) (λ vs H Q E h=>?_) (λ f cdv A outer s H vs Q E hr h=>?_)
 ·obtain ⟨_,_,_,_,_,_,_,rfl,_⟩:=h;rfl
 obtain ⟨a,dx,wl,ws,i,p,dp,rfl,rd,tk,ps,k⟩:=h;refine ⟨_,(Al (Aw (i:=2) Mv.nd rfl (Or.inl rfl) (Iz (k:=2) (pv 0) (hr.mono (by decide)))) (Al (Be (PW.pt (pw_or (Bo DX (pv 2) (CJ (v:=.str "gap") rfl T.ex.m_GAP ⟨_,rfl⟩) (nomark _)) (pw_or1 (Bo DX (pv 2) (CJ (v:=.str "glass") rfl T.ex.m_GLASS ⟨_,rfl⟩) (nomark _))))) (Ao (Az (BK (Ad (pv 2) (BX (Aj Vq (hr.mono (by decide)) Ai (BX (Iz (k:=2) (pv 0) (hr.mono (by decide))) Ab)) Ab))))) Bj) (Al (Be (Bo Hb (pv 2) (CJ (v:=.str "stop") rfl T.ex.m_STOP ⟨_,rfl⟩) (nomark _)) (Ao (Az (Aj uN (hr.mono (by decide)) Ai (Ad (pv 0) (Ad (pv 2) (Ad (pv 1) Ab)))))) Bj) (Al (Aw (i:=3) Mv.nd rfl (Or.inl rfl) (Aj Vq (hr.mono (by decide)) Ai (BX (Iz (k:=2) (pv 0) (hr.mono (by decide))) Ab))) (Al (Aw (i:=4) Mv.nd rfl (Or.inl rfl) (Aj Vq (hr.mono (by decide)) Ai (BX (Iz (k:=2) (pv 0) (hr.mono (by decide))) Ab))) (Al (Be (Cd (By (Aj WX (hr.mono (by decide)) Ai (Bb (BK (Ad (CJ (v:=.str "stop") rfl T.ex.m_STOP ⟨_,rfl⟩) (Ad (pv 3) (Ad (pv 4) Ab)))) Ab)))) (Ao Es) Bj) (Ao (Az (BK (Ad (CJ (v:=.str "stop") rfl T.ex.m_STOP ⟨_,rfl⟩) (Ad (pv 3) (Ad (pv 4) Ab)))))))))))),?_⟩
 have t0:ws[i]?=some (wd p):=tk 0 (wd p) rfl;refine ⟨_,rfl,a,_,dx,_,_,_,rfl,rd.r,rfl,Le T,a,dx,wl,ws,i,wd p,rfl,rd,t0,?_⟩;have rd1:=rd.step (i+1);have sd1:SD a H (upd H a (Ck ad.Reader dx wl (i+1))):=KH _;generalize upd H a (Ck ad.Reader dx wl (i+1))=H1 at rd1 sd1 ⊢;cases p with
 | gap q=>
  have sq:Short q:=ps.2 q (by simp [fracs])
  have t1:ws[i+1]?=some (Bk q):=tk 1 (Bk q) rfl;refine ⟨_,rfl,rfl,_,rfl,Bt (by rw [Ey];exact decide_eq_true rfl) (iteT ?_)⟩
  refine ⟨_,rfl,_,rfl,a,_,dx,_,_,_,rfl,rd1.r,rfl,Le T,a,dx,wl,ws,i+1,Bk q,rfl,rd1,t1,?_⟩;have rd2:=rd1.step (i+1+1);have sd2:SD a H1 (upd H1 a (Ck ad.Reader dx wl (i+1+1))):=KH _;generalize upd H1 a (Ck ad.Reader dx wl (i+1+1))=H2 at rd2 sd2 ⊢;refine ⟨q,rfl,sq,λ v H3 s3 hv=>⟨(by show 2<=sizeLine;decide),λ t ht=>?_⟩⟩
  have u:=s3.trans (Ah ht (.tup [.str (PySem.Str.ofString "gap"),v]));exact k _ _ ((sd1.trans sd2).trans (Lib.SD.ofSame u)) (rd2.keep u) (DV.upd2 ht (.str _) hv)
 | glass q=>
  have sq:Short q:=ps.2 q (by simp [fracs])
  have t1:ws[i+1]?=some (Bk q):=tk 1 (Bk q) rfl;have w1:wd (.glass q)≠PySem.Str.ofString "gap":=by show PySem.Str.ofString "glass"≠_;decide+kernel
  refine ⟨_,rfl,rfl,_,rfl,Bf (by rw [Ey];exact decide_eq_false w1) ⟨_,rfl,rfl,_,rfl,Bt (by rw [Ey];exact decide_eq_true rfl) ?_⟩⟩
  refine ⟨_,rfl,_,rfl,a,_,dx,_,_,_,rfl,rd1.r,rfl,Le T,a,dx,wl,ws,i+1,Bk q,rfl,rd1,t1,?_⟩;have rd2:=rd1.step (i+1+1);have sd2:SD a H1 (upd H1 a (Ck ad.Reader dx wl (i+1+1))):=KH _;generalize upd H1 a (Ck ad.Reader dx wl (i+1+1))=H2 at rd2 sd2 ⊢;refine ⟨q,rfl,sq,λ v H3 s3 hv=>⟨(by show 2<=sizeLine;decide),λ t ht=>?_⟩⟩
  have u:=s3.trans (Ah ht (.tup [.str (PySem.Str.ofString "glass"),v]));exact k _ _ ((sd1.trans sd2).trans (Lib.SD.ofSame u)) (rd2.keep u) (DV.upd2 ht (.str _) hv)
 | stop lo hi=>
  have s1:Short lo:=ps.2 lo (by simp [fracs])
  have s2:Short hi:=ps.2 hi (by simp [fracs])
  have t1:ws[i+1]?=some (Bk lo):=tk 1 (Bk lo) rfl;have t2:ws[i+2]?=some (Bk hi):=tk 2 (Bk hi) rfl;have w1:wd (.stop lo hi)≠PySem.Str.ofString "gap":=by show PySem.Str.ofString "stop"≠_;decide+kernel
  have w2:wd (.stop lo hi)≠PySem.Str.ofString "glass":=by show PySem.Str.ofString "stop"≠_;decide+kernel
  refine ⟨_,rfl,rfl,_,rfl,Bf (by rw [Ey];exact decide_eq_false w1) ⟨_,rfl,rfl,_,rfl,Bf (by rw [Ey];exact decide_eq_false w2) ?_⟩⟩
  refine ⟨_,rfl,rfl,_,rfl,Bf (by rw [Ey,decide_eq_true (show wd (.stop lo hi)=PySem.Str.ofString "stop" from rfl)];rfl) ?_⟩
  refine ⟨_,rfl,a,_,dx,_,_,_,rfl,rd1.r,rfl,Le T,a,dx,wl,ws,i+1,Bk lo,rfl,rd1,t1,?_⟩;have rd2:=rd1.step (i+1+1);have sd2:SD a H1 (upd H1 a (Ck ad.Reader dx wl (i+1+1))):=KH _;generalize upd H1 a (Ck ad.Reader dx wl (i+1+1))=H2 at rd2 sd2 ⊢;refine ⟨lo,rfl,s1,λ v H3 s3 hv=>?_⟩
  have rd3:=rd2.keep s3;refine ⟨_,rfl,a,_,dx,_,_,_,rfl,rd3.r,rfl,Le T,a,dx,wl,ws,i+1+1,Bk hi,rfl,rd3,t2,?_⟩;have rd4:=rd3.step (i+1+1+1);have sd4:SD a H3 (upd H3 a (Ck ad.Reader dx wl (i+1+1+1))):=KH _;have hv4:DV K (upd H3 a (Ck ad.Reader dx wl (i+1+1+1))) v (Af lo):=Fq (RZ rd3.r sd4) (Lk _) hv;generalize upd H3 a (Ck ad.Reader dx wl (i+1+1+1))=H4 at rd4 sd4 hv4 ⊢;refine ⟨hi,rfl,s2,λ y H5 s5 hy=>?_⟩
  have hv5:=hv4.keep s5;refine ⟨_,rfl,_,rfl,(by show 3<=sizeLine;decide),λ t ht=>?_⟩
  have u:=Ah ht (.tup [.str (PySem.Str.ofString "stop"),v,y]);refine ⟨.ref t,.stop lo hi,50,rfl,.tup (SqT.of Aq) (.cons (.str _) (.cons (hv5.keep u) (.cons (hy.keep u) .nil))),ps.1,⟨Jo s1,Jo s2⟩,by decide,λ H6 s6=>⟨_,rfl,iteF ?_⟩⟩
  refine ⟨_,rfl,_,rfl,(by show 3<=sizeLine;decide),λ t2 ht2=>?_⟩
  have u2:=(u.trans s6).trans (Ah ht2 (.tup [.str (PySem.Str.ofString "stop"),v,y]));refine k _ _ ((((sd1.trans sd2).trans (Lib.SD.ofSame s3)).trans sd4).trans (Lib.SD.ofSame (s5.trans u2))) (rd4.keep (s5.trans u2)) (.tup (SqT.of Aq) (.cons (.str _) (.cons (hv5.keep u2) (.cons (hy.keep u2) .nil))))
theorem jj (T:Txt K mg ad):CalB P w K mg base true 2 "count_of" ["parts"] (gq K):=by
 have We:=T.Oq.not (P:=P) (w:=w) (base:=base) (k:=0) LC (λ _ _ _ _ _ _=>by1 λ _=>rfl)
 refine T.Oq.calN LC (λ _ _ _ _ _ _=>by1 λ _=>rfl) (λ vs H Q E h=>?_) (λ f cdv A outer s H vs Q E hr h=>?_)
 ·obtain ⟨_,_,rfl,_⟩:=h;rfl
 obtain ⟨v,ps,rfl,hv,q⟩:=h;obtain ⟨b,xs,rfl,hb,hxs⟩:=hv.lst_of;have hl:xs.length=ps.length:=by have:=hxs.len;rw [List.length_map] at this;exact this
 refine ⟨_,(Al (Aw (i:=1) LC.nd rfl (Or.inl rfl) Ac) (Al (DW PassesOwn.never rfl (Dw (pv 0)) (Bq (i:=2) LC.nd rfl (by first | exact Or.inl rfl | exact Or.inr rfl)) (Ao (jD (i:=1) LC.nd rfl (Or.inl rfl) (Ip (Bo DX (Ag Am (pv 2) Ac (λ _ _=>rfl)) (CJ (v:=.str "times") rfl T.ex.m_TIMES ⟨_,rfl⟩) (nomark _)) (Ay K7 (Ag Am (pv 2) Ac (λ _ _=>rfl)) (Aj We (hr.mono (by decide)) Ai (Ar (Ag Am (pv 2) Ac (λ _ _=>rfl)) Ab))) Ac) wN))) (Ao (Az (pv 1))))),?_⟩
 refine ⟨_,rfl,b,rfl,⟨_,hb⟩,?_⟩;refine Fg (K:=K) (a:=b) (xs:=xs) (λ i σ H'=>∃c2,σ=[some (.ref b),some (.int (i:Int)),c2]/\H'=H) ⟨_,rfl,rfl⟩ ?_ ?_ ?_
 ·rintro i σ H' hi ⟨c2,rfl,rfl⟩
  exact hb
 ·rintro i x σ H' hi ⟨c2,rfl,rfl⟩
  obtain ⟨d,hd,hx⟩:=hxs.get hi;obtain ⟨pc,hpc,rfl⟩:=Hr hd;obtain ⟨t,x0,xr,rfl,ht,e0,ne⟩:∃(t:Addr) (x0:PySem.Str) (xr:List V),x=.ref t/\SqT K H' t (.str x0::xr)/\x0=wd pc/\wd pc≠PySem.Str.ofString "times":=by
   cases pc with
   | gap g=>
    obtain ⟨t,y0,y1,rfl,ht,g0,_⟩:=DV.t2 (show DV K H' x (.tuple [.str "gap",Af g]) from hx)
    obtain rfl:=DV.str_of g0;exact ⟨t,_,_,rfl,ht,rfl,by show PySem.Str.ofString "gap"≠_;decide+kernel⟩
   | glass g=>
    obtain ⟨t,y0,y1,rfl,ht,g0,_⟩:=DV.t2 (show DV K H' x (.tuple [.str "glass",Af g]) from hx)
    obtain rfl:=DV.str_of g0;exact ⟨t,_,_,rfl,ht,rfl,by show PySem.Str.ofString "glass"≠_;decide+kernel⟩
   | stop g1 g2=>
    obtain ⟨t,y0,y1,y2,rfl,ht,g0,_,_⟩:=DV.t3 (show DV K H' x (.tuple [.str "stop",Af g1,Af g2]) from hx)
    obtain rfl:=DV.str_of g0;exact ⟨t,_,_,rfl,ht,rfl,by show PySem.Str.ofString "stop"≠_;decide+kernel⟩
  subst e0;refine ⟨_,rfl,_,rfl,t,_,_,_,rfl,rfl,ht,CQ,rfl,_,rfl,Bf (by rw [Ey];exact decide_eq_false ne) ⟨_,_,rfl,rfl,?_⟩⟩
  exact ⟨_,by show [some (V.ref b),some (V.int ((i:Int)+1)),some (V.ref t)]=_;rfl,rfl⟩
 ·rintro σ H' ⟨c2,rfl,rfl⟩
  rw [hl];exact ⟨_,rfl,q⟩
end
end K84
namespace K84
open PySem L2 Lib Fr Op Tx PySem.NumText
seal PE PT PW PA PS PSs PG PGs PI PO CZ PJ
section
variable {P:Program}{w:World}{K:FrG}{mg:PySem.Str->Option Value}{base:Heap}{ad:Adr}{c:Bool}
theorem j7 {H:Hp}{x:V}{pc:Pc}(hx:DV K H x (Bp pc)):∃(t:Addr) (xr:List V),x=.ref t/\SqT K H t (.str (wd pc)::xr)/\wd pc≠PySem.Str.ofString "times":=by
 cases pc with
 | gap g=>
  obtain ⟨t,y0,y1,rfl,ht,g0,_⟩:=DV.t2 (show DV K H x (.tuple [.str "gap",Af g]) from hx)
  obtain rfl:=DV.str_of g0;exact ⟨t,_,rfl,ht,by show PySem.Str.ofString "gap"≠_;decide+kernel⟩
 | glass g=>
  obtain ⟨t,y0,y1,rfl,ht,g0,_⟩:=DV.t2 (show DV K H x (.tuple [.str "glass",Af g]) from hx)
  obtain rfl:=DV.str_of g0;exact ⟨t,_,rfl,ht,by show PySem.Str.ofString "glass"≠_;decide+kernel⟩
 | stop g1 g2=>
  obtain ⟨t,y0,y1,y2,rfl,ht,g0,_,_⟩:=DV.t3 (show DV K H x (.tuple [.str "stop",Af g1,Af g2]) from hx)
  obtain rfl:=DV.str_of g0;exact ⟨t,_,rfl,ht,by show PySem.Str.ofString "stop"≠_;decide+kernel⟩
theorem tX (T:Txt K mg ad):CalB P w K mg base true 2 "told_out" ["parts"] (iG K):=by
 have Qh:=T.Oi.not (P:=P) (w:=w) (base:=base) (k:=0) Oa (λ _ _ _ _ _ _=>by1 λ _=>rfl)
 refine T.Oi.calN Oa (λ _ _ _ _ _ _=>by1 λ _=>rfl) (λ vs H Q E h=>?_) (λ f cdv A outer s H vs Q E hr h=>?_)
 ·obtain ⟨_,_,rfl,_⟩:=h;rfl
 obtain ⟨v,ps,rfl,hv,l60,q⟩:=h;obtain ⟨b,xs,rfl,hb,hxs⟩:=hv.lst_of;have hl:xs.length=ps.length:=by have:=hxs.len;rw [List.length_map] at this;exact this
 refine ⟨_,(Al (Aw (i:=1) Oa.nd rfl (Or.inl rfl) (Cg Ab)) (Al (DW PassesOwn.never rfl (Dw (pv 0)) (Bq (i:=2) Oa.nd rfl (by first | exact Or.inl rfl | exact Or.inr rfl)) (Ao (Be (Bo Hb (Ag Am (pv 2) Ac (λ _ _=>rfl)) (CJ (v:=.str "times") rfl T.ex.m_TIMES ⟨_,rfl⟩) (nomark _)) (Ao (DR (Dc PySem.F.plainAttrs_list PySem.F.slot_list_append PySem.F.type_list_append Ft (pv 1) (Ad (pv 2) Ab)))) (Ao (Be (Bo JQ (Ag Am (pv 2) Ac (λ _ _=>rfl)) Ac (nomark _)) (Ao (DR (Dc PySem.F.plainAttrs_list PySem.F.slot_list_extend PySem.F.type_list_extend gB (pv 1) (Bu (Ay fX (Aj Qh (hr.mono (by decide)) Ai (Ar (Ag Am (pv 2) Ac (λ _ _=>rfl)) Ab)) (Ag Am (pv 2) Ac (λ _ _=>rfl))) Ab)))) Bj))))) (Ao (Az (pv 1))))),?_⟩
 refine ⟨(by show 0<=sizeLine;decide),λ l nl=>?_⟩
 have u0:=Ah nl (.lst []);have b0:Bx K H l [] (upd H l (.lst [])):=⟨u0,nl,[],Aq,.nil⟩;generalize upd H l (.lst [])=H1 at u0 b0 ⊢;refine ⟨_,rfl,b,rfl,⟨_,hb.keep u0⟩,?_⟩;refine Fg (K:=K) (a:=b) (xs:=xs) (λ i σ H'=>∃c2,σ=[some (.ref b),some (.ref l),c2]/\Bx K H l (ps.take i) H') ⟨_,rfl,by rw [List.take_zero];exact b0⟩ ?_ ?_ ?_
 ·rintro i σ H' hi ⟨c2,rfl,bx⟩
  exact hb.keep bx.s
 ·rintro i x σ H' hi ⟨c2,rfl,bx⟩
  obtain ⟨d,hd,hx⟩:=hxs.get hi;obtain ⟨pc,hpc,rfl⟩:=Hr hd;obtain ⟨t,xr,rfl,ht,ne⟩:=j7 (hx.keep bx.s);obtain ⟨ys,e1,e2⟩:=bx.ex;have yl:ys.length<=60:=by
   have h1:=e2.len;rw [List.length_map,List.length_take] at h1;omega
  refine ⟨_,rfl,t,_,_,_,rfl,rfl,ht,CQ,rfl,_,rfl,Bt (by rw [Ey,decide_eq_false ne];rfl) ?_⟩
  refine ⟨_,rfl,.inl ⟨rfl,_,SqL.of e1⟩,_,rfl,l,ys,_,rfl,rfl,e1,small1000 (by omega),_,rfl,?_⟩
  have:=Bx.more (zs:=[.ref t]) (qs:=[pc]) bx.s bx.n e1 e2 (.cons (hx.keep bx.s) .nil);rw [List.take_add_one,hpc];exact this
 ·rintro σ H' ⟨c2,rfl,bx⟩
  rw [hl,List.take_length] at bx;obtain ⟨ys,e1,e2⟩:=bx.ex;exact ⟨_,rfl,q l ys H' bx.s bx.n e1 e2⟩
def Hm:List Pc->List PySem.Str
 | []=>[]
 | q::r=>PySem.Str.ofString ";"::Ek (q::r)
theorem cJ (p:Pc)(r:List Pc):Ek (p::r)=toks p++Hm r:=by
 cases r with
 | nil=>show toks p=toks p++[];rw [List.append_nil]
 | cons q r=>rfl
theorem Yg {ws t u:List PySem.Str}{i:Nat}(h:ws.drop i=t++u):(∀(j:Nat) (z:PySem.Str),t[j]?=some z->ws[i+j]?=some z)/\ws.drop (i+t.length)=u:=by
 refine ⟨λ j z hz=>?_,?_⟩
 ·rw [<- List.getElem?_drop,h,List.getElem?_append_left (Cq hz)];exact hz
 ·rw [<- List.drop_drop,h,List.drop_left]
theorem uE (T:Txt K mg ad):CalB P w K mg base true 6 "read_parts" ["reader","deep"] (vO K ad.Reader):=by
 have aK:=qY (P:=P) (w:=w) (base:=base) T;refine T.Tn.calN YJ (λ _ _ _ _ _ _=>Bs λ _ _=>rfl) (λ vs H Q E h=>?_) (λ f cdv A outer s H vs Q E hr h=>?_)
 ·obtain ⟨_,_,_,_,_,_,rfl,_⟩:=h;rfl
 obtain ⟨a,dx,wl,ws,ps,dp,rfl,rd,ew,ne,l60,sh,k⟩:=h;refine ⟨_,(Al (Aw (i:=2) YJ.nd rfl (Or.inl rfl) (Cg (BX (Aj aK (hr.mono (by decide)) Ai (Ad (pv 0) (Ad (pv 1) Ab))) Ab))) (Al (Wl PassesOwn.never (By (HS (k:=2) (pv 0) (hr.mono (by decide)) (Ad (CJ (v:=.str ";") rfl T.ex.m_PARTED ⟨_,rfl⟩) Ab))) (Ao (DR (Dc PySem.F.plainAttrs_list PySem.F.slot_list_append PySem.F.type_list_append Ft (pv 2) (BX (Aj aK (hr.mono (by decide)) Ai (Ad (pv 0) (Ad (pv 1) Ab))) Ab))))) (Ao (Az (pv 2))))),?_⟩
 cases ps with
 | nil=>exact absurd rfl ne
 | cons p r=>
  have d0:ws.drop 0=toks p++Hm r:=by rw [List.drop_zero,ew];exact cJ p r
  obtain ⟨tk,dr⟩:=Yg d0;refine ⟨_,rfl,_,rfl,a,dx,wl,ws,0,p,dp,rfl,rd,tk,sh p List.mem_cons_self,λ v H1 sd1 rd1 hv=>⟨(by show 1<=sizeLine;decide),λ l hl=>?_⟩⟩
  have u:=Ah hl (.lst [v]);have ha:H a=some (Ck ad.Reader dx wl 0):=rd.r;have nla:l≠a:=λ e=>by rw [e,rd1.r] at hl;cases hl
  have nlw:wl≠l:=λ e=>by rw [<- e,rd1.w] at hl;cases hl
  have nl:H l=none:=by
   cases e:H l with
   | none=>rfl
   | some o=>have:=sd1 l o nla e;rw [this] at hl;cases hl
  have sdl:SD a H (upd H1 l (.lst [v])):=sd1.trans (Lib.SD.ofSame u);have rdl:=rd1.keep u;have ml:upd H1 l (.lst [v]) l=some (.lst [v]):=Aq;have hvl:DVs K (upd H1 l (.lst [v])) [v] ([p].map Bp):=.cons (hv.keep u) .nil;generalize upd H1 l (.lst [v])=H2 at sdl rdl ml hvl ⊢;refine ⟨λ m σ H'=>∃(dn rs:List Pc) (i:Nat) (xs:List V),p::r=dn++rs/\m=rs.length/\σ=[some (.ref a),some (.int dp),some (.ref l)]/\SD a H H'/\RdAt ad.Reader a dx wl ws i H'/\i<=ws.length/\ws.drop i=Hm rs/\H' l=some (.lst xs)/\DVs K H' xs (dn.map Bp),
   ⟨_,[p],r,_,[v],rfl,rfl,rfl,sdl,rdl,?_,dr,ml,hvl⟩,?_⟩
  ·have:=congrArg List.length d0;rw [List.drop_zero,List.length_append] at this;omega
  rintro m σ H' ⟨dn,rs,i,xs,ep,rfl,rfl,sd,rd',il,dr',hl',hxs⟩
  have xl:xs.length<=60:=by
   have h1:=hxs.len;have h2:=congrArg List.length ep;rw [List.length_map] at h1;rw [List.length_append] at h2;omega
  refine ⟨_,rfl,a,_,dx,_,_,_,rfl,rd'.r,rfl,uU T,a,dx,wl,ws,i,PySem.Str.ofString ";",rfl,rd',il,λ e=>?_,λ e=>?_⟩
  ·cases rs with
   | nil=>
    have h1:=congrArg List.length dr';rw [List.length_drop] at h1;have h2:=Cq e;simp only [Hm,List.length_nil] at h1;omega
   | cons q rs=>
    refine ⟨_,rfl,iteT ?_⟩;have d1:ws.drop (i+1)=toks q++Hm rs:=by
     rw [<- List.drop_drop,dr'];show (PySem.Str.ofString ";"::Ek (q::rs)).drop 1=_;rw [cJ];rfl
    obtain ⟨tk1,dr1⟩:=Yg d1;have rd1':=rd'.step (i+1);have sdu:SD a H' (upd H' a (Ck ad.Reader dx wl (i+1))):=KH _;have hlu:upd H' a (Ck ad.Reader dx wl (i+1)) l=some (.lst xs):=by rw [Av nla];exact hl'
    have hxu:DVs K (upd H' a (Ck ad.Reader dx wl (i+1))) xs (dn.map Bp):=DG (RZ rd'.r sdu) (DY NP _) hxs;generalize upd H' a (Ck ad.Reader dx wl (i+1))=H3 at rd1' sdu hlu hxu ⊢;refine ⟨λ σ' H''=>∃(dn rs':List Pc) (i:Nat) (xs:List V),p::r=dn++rs'/\rs'.length=rs.length/\σ'=[some (.ref a),some (.int dp),some (.ref l)]/\SD a H H''/\RdAt ad.Reader a dx wl ws i H''/\i<=ws.length/\ws.drop i=Hm rs'/\H'' l=some (.lst xs)/\DVs K H'' xs (dn.map Bp),
     λ σ' H'' ⟨dn',rs',i',xs',h1,h2,h3⟩=>⟨rs.length,by simp,dn',rs',i',xs',h1,h2.symm,h3⟩,?_⟩
    refine ⟨_,rfl,.inl ⟨rfl,_,SqL.of hlu⟩,_,rfl,_,rfl,a,dx,wl,ws,i+1,q,dp,rfl,rd1',tk1,sh q (by rw [ep];simp),λ y H4 sd4 rd4 hy=>?_⟩
    have hl4:H4 l=some (.lst xs):=sd4 l _ nla hlu;have hx4:DVs K H4 xs (dn.map Bp):=DG (RZ rd1'.r sd4) (DY NP _) hxu;refine ⟨l,xs,_,rfl,rfl,hl4,small1000 (by omega),?_⟩
    have uT:=Ej hl4 (.lst (xs++[y]));refine ⟨dn++[q],rs,_,xs++[y],by rw [ep,List.append_assoc];rfl,rfl,rfl,?_,⟨by rw [Av (Ne.symm nla)];exact rd4.r,by rw [Av nlw];exact rd4.w,rd4.le⟩,?_,dr1,Aq,?_⟩
    ·intro b o nb e;have nbl:b≠l:=Bm e nl;rw [Av nbl];exact sd4 b o nb (sdu b o nb (sd b o nb e))
    ·have h1:=congrArg List.length d1;rw [List.length_drop,List.length_append] at h1;have h2:=Jt q;omega
    ·rw [List.map_append];exact DG uT (by rw [<- List.map_append];exact DY NP _) (hx4.append (.cons hy .nil))
  ·refine ⟨_,rfl,iteF ?_⟩;cases rs with
   | cons q rs=>
    exfalso
    apply e
    have:=congrArg (λ L:List PySem.Str=>L[0]?) dr'
    simp only [Hm,List.getElem?_drop,Nat.add_zero,List.getElem?_cons_zero] at this;exact this
   | nil=>
    have h1:=congrArg List.length dr';rw [List.length_drop] at h1;simp only [Hm,List.length_nil] at h1;have ei:i=ws.length:=by omega
    subst ei;rw [List.append_nil] at ep;subst ep;exact ⟨_,rfl,k l xs H' sd nl rd' hl' hxs⟩
end
end K84
namespace K84
open PySem L2 Lib Fr Op Tx PySem.NumText
seal PE PT PW PA PS PSs PG PGs PI PO CZ PJ
section
variable {P:Program}{w:World}{K:FrG}{mg:PySem.Str->Option Value}{base:Heap}{ad:Adr}{c:Bool}
theorem bJ {ts:List PySem.Str}{B:Nat}(h:∀t∈ts,t.length<=B):(ts.map (·.length)).sum<=ts.length * B:=by
 induction ts with
 | nil=>exact Nat.zero_le _
 | cons t ts ih=>
  rw [List.map_cons,List.sum_cons,List.length_cons,Nat.succ_mul];have:=h t List.mem_cons_self;have:=ih (λ x hx=>h x (List.mem_cons_of_mem _ hx))
  omega
theorem jY (T:Txt K mg ad):CalB P w K mg base true 7 "read_bench" ["text"] (sV K):=by
 have yd:=lL (P:=P) (w:=w) (base:=base) T;have lD:=uE (P:=P) (w:=w) (base:=base) T;have We:=jj (P:=P) (w:=w) (base:=base) T;have Qh:=tX (P:=P) (w:=w) (base:=base) T;have oU:=xg (P:=P) (w:=w) (base:=base) T;refine T.Us.calN RP (λ _ _ _ _ _ _=>by1 λ _=>rfl) (λ vs H Q E h=>?_) (λ f cdv A outer s H vs Q E hr h=>?_)
 ·obtain ⟨_,rfl,_⟩:=h;rfl
 obtain ⟨ps,rfl,l60,sh,q⟩:=h;refine ⟨_,(Al (Be (Cd (By (CP Gj rfl T.isinstance GF (Ad (pv 0) (Ad (GD (v:=.ty "str") rfl T.str Mh rfl) Ab))))) (Ao Es) Bj) (Al (Be (Bo DX (pv 0) Dk (nomark _)) (Ao (Az (Cg Ab))) Bj) (Al (Aw (i:=1) RP.nd rfl (Or.inl rfl) (Jw oU (hr.mono (by decide)) (BX (Aj yd (hr.mono (by decide)) Ai (Ad (pv 0) Ab)) Ab))) (Al (Aw (i:=2) RP.nd rfl (Or.inl rfl) (Aj lD (hr.mono (by decide)) Ai (Ad (pv 1) (BJ Ac Ab)))) (Al (Be (Cd (By (Iz (k:=1) (pv 1) (hr.mono (by decide))))) (Ao Es) Bj) (Al (Be (Bo JQ (Aj We (hr.mono (by decide)) Ai (Ad (pv 2) Ab)) (CJ (v:=.int 60) rfl T.ex.m_MOST_PIECES ⟨_,rfl⟩) (nomark _)) (Ao Es) Bj) (Ao (Az (Aj Qh (hr.mono (by decide)) Ai (Ad (pv 2) Ab)))))))))),?_⟩
 refine ⟨_,rfl,_,_,_,_,rfl,.str _,Td _,_,rfl,iteF ?_⟩;by_cases hne:ps=[]
 ·subst hne;refine ⟨_,rfl,rfl,_,rfl,Bt (by rw [Ey];exact decide_eq_true (by decide+kernel)) ⟨(by show 0<=sizeLine;decide),λ l hl=>?_⟩⟩
  exact q l [] _ (Ah hl _) hl Aq .nil
 ·have tn:=jz hne;refine ⟨_,rfl,rfl,_,rfl,Bf (by rw [Ey];exact decide_eq_false tn) ?_⟩
  have tl:=lN l60 sh;have sp:=j6 hne;have sl:=T9 ps;refine ⟨_,rfl,Gm ps,rfl,Nat.le_trans (Nat.add_le_add_right tl 2) (by decide),by rw [sp];omega,(λ w hw=>by rw [sp] at hw;have:=QM ps sh w hw;omega),λ wl H1 s1 nwl hwl=>λ a dx na ndx ne=>?_⟩
  rw [sp,xu ps hne] at hwl;have w1:Same H1 (upd (upd H1 dx (.own a)) a (.ins ad.Reader dx [])):=λ b o e=>by rw [Av (Bm e na),Av (Bm e ndx)];exact e
  refine ⟨a,dx,wl,rfl,Aq,⟨rfl,?_⟩⟩;have nwa:wl≠a:=λ e=>by rw [<- e,hwl] at na;cases na
  have rd:RdAt ad.Reader a dx wl (Ek ps) 0 (upd (upd (upd H1 dx (.own a)) a (.ins ad.Reader dx [])) a (Ck ad.Reader dx wl 0)):=⟨Aq,by rw [Av nwa];exact w1 _ _ hwl,by have:=cV ps;omega⟩
  have sA:Same H1 (upd (upd (upd H1 dx (.own a)) a (.ins ad.Reader dx [])) a (Ck ad.Reader dx wl 0)):=λ b o e=>by rw [Av (Bm e na)];exact w1 _ _ e
  generalize upd (upd (upd H1 dx (.own a)) a (.ins ad.Reader dx [])) a (Ck ad.Reader dx wl 0)=H2 at rd sA ⊢;refine ⟨_,rfl,a,dx,wl,Ek ps,ps,0,rfl,rd,rfl,hne,l60,sh,λ l xs H3 sd nl rd3 hl hxs=>?_⟩
  have hd:DV K H3 (.ref l) (Dz ps):=.lst (SqL.of hl) hxs;refine ⟨_,rfl,a,_,dx,_,_,_,rfl,rd3.r,rfl,W5 T,a,dx,wl,Ek ps,(Ek ps).length,rfl,rd3,_,rfl,Bf (by rw [decide_eq_true rfl];rfl) ?_⟩
  refine ⟨_,rfl,.ref l,ps,rfl,hd,_,_,rfl,rfl,_,rfl,Bf (decide_eq_false (by omega)) ?_⟩
  refine ⟨_,rfl,.ref l,ps,rfl,hd,l60,λ l2 xs2 H4 s4 nl2 hl2 hxs2=>?_⟩
  have na0:H a=none:=s1.free na;have s03:Same H H3:=Lib.SD.same (s1.trans sA) na0 sd;exact q l2 xs2 H4 (s03.trans s4) (s03.free nl2) hl2 hxs2
theorem jT (T:Txt K mg ad):CalB P w K mg base true 2 "show_piece" ["piece"] (kZ K):=by
 have Tq:=aQ (P:=P) (w:=w) (base:=base) T;refine T.Uh.calN xm (λ _ _ _ _ _ _=>by1 λ _=>rfl) (λ vs H Q E h=>?_) (λ f cdv A outer s H vs Q E hr h=>?_)
 ·obtain ⟨_,_,rfl,_⟩:=h;rfl
 obtain ⟨v,p,rfl,hv,ps,q⟩:=h;refine ⟨_,(Ao (Az (Dc PySem.F.plainAttrs_str PySem.F.slot_str_join PySem.F.type_str_join Yv Dk (Bu (Ay JD (Cg (Ar (Ag Am (pv 0) Ac (λ _ _=>rfl)) Ab)) (Kl ["part"] [none] rfl (Ro (JS aN (pv 0) (Ho Ac) K9)) (λ _ _ _ _ _=>(Bq (i:=0) (show List.Nodup [("part":Str)] by decide) rfl (by first | exact Or.inl rfl | exact Or.inr rfl))) (λ _ _ _ _ _=>Gy) (λ _ _ _ _ _=>(Aj Tq (hr.mono (by decide)) Ai (Ad (pv 0) Ab))) (Oo (by decide) (by decide)) (by decide) rfl (by decide) rfl (Mz rfl))) Ab)))),?_⟩
 obtain ⟨t,xr,rfl,ht,hxr⟩:∃(t:Addr) (xr:List V),v=.ref t/\SqT K H t (.str (wd p)::xr)/\DVs K H xr ((fracs p).map Af):=by
  cases p with
  | gap g=>
   obtain ⟨t,y0,y1,rfl,ht,g0,g1⟩:=DV.t2 (show DV K H v (.tuple [.str "gap",Af g]) from hv)
   obtain rfl:=DV.str_of g0;exact ⟨t,_,rfl,ht,.cons g1 .nil⟩
  | glass g=>
   obtain ⟨t,y0,y1,rfl,ht,g0,g1⟩:=DV.t2 (show DV K H v (.tuple [.str "glass",Af g]) from hv)
   obtain rfl:=DV.str_of g0;exact ⟨t,_,rfl,ht,.cons g1 .nil⟩
  | stop g h=>
   obtain ⟨t,y0,y1,y2,rfl,ht,g0,g1,g2⟩:=DV.t3 (show DV K H v (.tuple [.str "stop",Af g,Af h]) from hv)
   obtain rfl:=DV.str_of g0;exact ⟨t,_,rfl,ht,.cons g1 (.cons g2 .nil)⟩
 have hl:xr.length=(fracs p).length:=by have:=hxr.len;rw [List.length_map] at this;exact this
 have fl:1<=(fracs p).length/\(fracs p).length<=2:=by cases p<;>exact ⟨by simp [fracs],by simp [fracs]⟩
 refine ⟨rfl,_,rfl,t,_,_,_,rfl,rfl,ht,CQ,(by show 1<=sizeLine;decide),λ p1 hp1=>?_⟩
 have u1:=Ah hp1 (.lst [.str (wd p)]);have m1:upd H p1 (.lst [.str (wd p)]) p1=some (.lst [.str (wd p)]):=Aq;generalize upd H p1 (.lst [.str (wd p)])=H1 at u1 m1 ⊢;refine ⟨_,rfl,_,rfl,t,_,rfl,ht.keep u1,(λ e=>by rw [Uu] at e;simp only [List.length_cons] at e;omega),λ p2 hp2=>⟨p2,rfl,⟨_,SqT.of Aq⟩,?_⟩⟩
 rw [Z0];have u2:=Ah hp2 (.tup ((V.str (wd p)::xr).drop 1));have m2:upd H1 p2 (.tup ((V.str (wd p)::xr).drop 1)) p2=some (.tup xr):=Aq;have m12:=u2 _ _ m1;have s2:=u1.trans u2;generalize upd H1 p2 (.tup ((V.str (wd p)::xr).drop 1))=H2 at u2 m2 m12 s2 ⊢;refine Wn (K:=K) (a:=p2) (xs:=xr) (λ i σ ys H'=>∃c0,σ=[c0]/\ys=(((fracs p).take i).map Bk).map V.str/\H'=H2) ⟨_,rfl,rfl,rfl⟩ ?_ ?_ ?_
 ·rintro i σ ys H' hi ⟨c0,rfl,rfl,rfl⟩
  refine ⟨?_,SqT.of m2⟩;rw [List.length_map,List.length_map,List.length_take];exact Nat.le_of_lt (small1000 (by omega))
 ·rintro i x σ ys H' hi ⟨c0,rfl,rfl,rfl⟩
  obtain ⟨d,hd,hx⟩:=hxr.get hi;rw [List.getElem?_map] at hd;cases e:(fracs p)[i]? with
  | none=>rw [e] at hd;cases hd
  | some g=>
   rw [e] at hd;cases hd
   refine ⟨_,rfl,x,g,rfl,hx.keep s2,ps.2 g (List.mem_of_getElem? e),nx (Cq hi) ⟨_,rfl,?_,rfl⟩⟩;rw [List.take_add_one,e,List.map_append,List.map_append];rfl
 ·rintro σ ys H' p3 ⟨c0,rfl,rfl,rfl⟩ hp3
  rw [hl,List.take_length];have u3:=Ah hp3 (.lst (((fracs p).map Bk).map V.str));have m3:upd H' p3 (.lst (((fracs p).map Bk).map V.str)) p3=some (.lst (((fracs p).map Bk).map V.str)):=Aq;have m13:=u3 _ _ m12;have s3:=s2.trans u3;generalize upd H' p3 (.lst (((fracs p).map Bk).map V.str))=H3 at u3 m3 m13 s3 ⊢;refine ⟨p1,p3,_,_,rfl,rfl,m13,m3,Nat.le_of_lt (small1000 (by rw [List.length_map,List.length_map];simp only [List.length_cons,List.length_nil];omega)),λ p4 hp4=>?_⟩
  have e4:([.str (wd p)]++((fracs p).map Bk).map V.str:List V)=(toks p).map V.str:=rfl;have jo:JoinOk (PySem.Str.ofString " ") (toks p)=true:=by
   refine PyProof.Rows.joinOk_of_weight ?_ (by decide+kernel)
   have h1:∀t∈toks p,t.length<=50:=λ t ht=>Lib.T8 p ps t ht
   have h2:=Jt p;have h3:((toks p).map (·.length)).sum<=(toks p).length * 50:=bJ h1
   have h4:(toks p).length * 50<=3 * 50:=Nat.mul_le_mul_right _ h2.1;omega
  exact ⟨_,p4,toks p,rfl,rfl,by rw [Aq,e4],jo,q _ (s3.trans (Ah hp4 _))⟩
end
end K84
namespace K84
open PySem L2 Lib Fr Op Tx PySem.NumText
seal PE PT PW PA PS PSs PG PGs PI PO CZ PJ
section
variable {P:Program}{w:World}{K:FrG}{mg:PySem.Str->Option Value}{base:Heap}{ad:Adr}{c:Bool}
theorem fY {p:Pc}(h:Fd p):(Ex p).length<=200:=by
 unfold Ex;rw [K6];have h1:=Xi (PySem.Str.ofString " ") (toks p) 50 (λ t ht=>Lib.T8 p h t ht)
 have h2:=Jt p;have h3:(PySem.Str.ofString " ").length=1:=by decide+kernel
 have h4:(toks p).length * (50+(PySem.Str.ofString " ").length)<=3 * 51:=Nat.mul_le_mul h2.1 (by omega)
 omega
theorem fB {p:Pc}(h:Fd p):p.bd 50:=by
 cases p with
 | gap q=>exact Jo (h.2 q (by simp [fracs]))
 | glass q=>exact Jo (h.2 q (by simp [fracs]))
 | stop lo hi=>exact ⟨Jo (h.2 lo (by simp [fracs])),Jo (h.2 hi (by simp [fracs]))⟩
theorem jR (T:Txt K mg ad):CalB P w K mg base true 5 "show_bench" ["bench"] (nJ K):=by
 have Gw:=Nr (P:=P) (w:=w) (base:=base) T;have iD:=jT (P:=P) (w:=w) (base:=base) T;refine T.R5.calN qH (λ _ _ _ _ _ _=>by1 λ _=>rfl) (λ vs H Q E h=>?_) (λ f cdv A outer s H vs Q E hr h=>?_)
 ·obtain ⟨_,_,rfl,_⟩:=h;rfl
 obtain ⟨v,ps,rfl,hv,l60,sh,q⟩:=h;refine ⟨_,(Al (DR (Aj Gw (hr.mono (by decide)) Ai (Ad (pv 0) Ab))) (Ao (Az (Dc PySem.F.plainAttrs_str PySem.F.slot_str_join PySem.F.type_str_join Yv Dk (Dn (Kl ["piece"] [none] rfl (Dw (pv 0)) (λ _ _ _ _ _=>(Bq (i:=0) (show List.Nodup [("piece":Str)] by decide) rfl (by first | exact Or.inl rfl | exact Or.inr rfl))) (λ _ _ _ _ _=>Gy) (λ _ _ _ _ _=>(Aj iD (hr.mono (by decide)) Ai (Ad (pv 0) Ab))) (Oo (by decide) (by decide)) (by decide) rfl (by decide) rfl (Mz rfl)) Ab))))),?_⟩
 refine ⟨_,rfl,v,ps,50,rfl,hv,⟨l60,λ p hp=>(sh p hp).1,λ p hp=>fB (sh p hp)⟩,by decide,λ H1 s1=>?_⟩
 obtain ⟨b,xs,rfl,hb,hxs⟩:=hv.lst_of;have hl:xs.length=ps.length:=by have:=hxs.len;rw [List.length_map] at this;exact this
 refine ⟨rfl,_,rfl,b,rfl,⟨_,hb.keep s1⟩,?_⟩;refine O5 (K:=K) (a:=b) (xs:=xs) (λ i σ ys H'=>∃c0,σ=[c0]/\ys=((ps.take i).map Ex).map V.str/\Same H H') ⟨_,rfl,rfl,s1⟩ ?_ ?_ ?_
 ·rintro i σ ys H' hi ⟨c0,rfl,rfl,s2⟩
  refine ⟨?_,hb.keep s2⟩;rw [List.length_map,List.length_map,List.length_take];exact Nat.le_of_lt (small1000 (by omega))
 ·rintro i x σ ys H' hi ⟨c0,rfl,rfl,s2⟩
  obtain ⟨d,hd,hx⟩:=hxs.get hi;obtain ⟨pc,hpc,rfl⟩:=Hr hd;refine ⟨_,rfl,x,pc,rfl,hx.keep s2,sh pc (List.mem_of_getElem? hpc),λ H3 s3=>nx (Cq hi) ⟨_,rfl,?_,s2.trans s3⟩⟩
  rw [List.take_add_one,hpc,List.map_append,List.map_append];rfl
 ·rintro σ ys H' p ⟨c0,rfl,rfl,s2⟩ hp
  rw [hl,List.take_length];have jo:JoinOk (PySem.Str.ofString "; ") (ps.map Ex)=true:=by
   refine PyProof.Rows.joinOk_of_weight ?_ (by decide+kernel)
   have h1:∀t∈ps.map Ex,t.length<=200:=λ t ht=>by
    obtain ⟨p,hp,rfl⟩:=List.mem_map.mp ht;exact fY (sh p hp)
   have h3:=bJ h1;rw [List.length_map] at h3 ⊢;have h4:ps.length * 200<=60 * 200:=Nat.mul_le_mul_right _ l60;omega
  exact ⟨_,p,ps.map Ex,rfl,rfl,Aq,jo,q _ (s2.trans (Ah hp _))⟩
end
end K84
namespace K84
open PySem L2 Lib Fr Op Tx
seal PE PT PW PA PS PSs PG PGs PI PO CZ
section
variable {P:Program}{w:World}{K:FrG}{mg:Str->Option Value}{base:Heap}{ad:Adr}{c:Bool}
theorem Yt (T:Txt K mg ad):CalB P w K mg base true 2 "_law_between" ["_law_low","_law_one","_law_high"] (PR K yg):=by
 have Cv:=Gq (P:=P) (w:=w) (base:=base) T;refine T.Vp.calN vC (λ _ _ _ _ _ _=>Ij λ _ _ _=>rfl) (λ vs H Q E h=>?_) (λ f cdv A outer s H vs Q E hr h=>?_)
 ·obtain ⟨_,_,dv,⟨_,_,_,rfl,_⟩,_⟩:=h;exact dv.len
 obtain ⟨_,_,dv,⟨p,q,r,rfl,sp,sq,sr,rfl⟩,k⟩:=h;obtain ⟨x,y,z,rfl,hx,hy,hz⟩:=dv.three;unfold Hg at k;refine ⟨_,(Ao (Az (Ed (GQ (Aj Cv (hr.mono (by decide)) Ai (Ad (pv 1) (Ad (pv 0) Ab)))) (Em (GQ (Aj Cv (hr.mono (by decide)) Ai (Ad (pv 2) (Ad (pv 1) Ab)))))))),?_⟩
 refine ⟨_,rfl,_,rfl,_,_,.cons hy (.cons hx .nil),⟨_,_,rfl,sq,sp,rfl⟩,λ v1 H1 s1 hv1=>?_⟩
 obtain rfl:=hv1.bl_of;refine ⟨_,rfl,?_⟩;cases c1:decide (q < p) with
 | true=>
  rw [c1] at k;exact ⟨_,rfl,iteF (k _ _ s1 (.bl _))⟩
 | false=>
  rw [c1] at k;refine ⟨_,rfl,iteT ?_⟩;refine ⟨_,rfl,_,rfl,_,_,.cons (hz.keep s1) (.cons (hy.keep s1) .nil),⟨_,_,rfl,sr,sq,rfl⟩,λ v2 H2 s2 hv2=>?_⟩
  obtain rfl:=hv2.bl_of;exact ⟨_,rfl,k _ _ (s1.trans s2) (.bl _)⟩
theorem yP (T:Txt K mg ad):CalB P w K mg base true 3 "_law_bench" ["_law_script"] (uo K):=by
 have Hh:=YG (P:=P) (w:=w) (base:=base) T;have JH:=Qu (P:=P) (w:=w) (base:=base) T;have Ef:=KN (P:=P) (w:=w) (base:=base) T;refine T.QV.calN Gn (λ _ _ _ _ _ _=>by1 λ _=>rfl) (λ vs H Q E h=>?_) (λ f cdv A outer s H vs Q E hr h=>?_)
 ·obtain ⟨_,_,rfl,_⟩:=h;rfl
 obtain ⟨a,ns,rfl,hS,q⟩:=h;refine ⟨_,(Al (N5 (Ag CV (Cg (Bb (BK (Bb (BK (BJ Ac (BJ Ac Ab))) (Bb (BK (BJ Ac (BJ Ac Ab))) Ab))) (Bb (BK (Bb (BK (BJ Ac (BJ Ac Ab))) (Bb (BK (BJ Ac (BJ Ac Ab))) Ab))) (Bb (BK (Bb (BK (BJ Ac (BJ Ac Ab))) (Bb (BK (BJ Ac (BJ Ac Ab))) Ab))) (Bb (BK (Bb (BK (BJ Ac (BJ Ac Ab))) (Bb (BK (BJ Ac (BJ Ac Ab))) Ab))) (Bb (BK (Bb (BK (LR (Jv Ju Ac) (BJ Ac Ab))) (Bb (BK (LR (Jv Ju Ac) (BJ Ac Ab))) Ab))) (Bb (BK (Bb (BK (BJ Ac (BJ Ac Ab))) (Bb (BK (BJ Ac (BJ Ac Ab))) Ab))) Ab))))))) (Ay Cu (Aj Hh (hr.mono (by decide)) Ai (Ad (pv 0) (BJ Ac Ab))) Ac) (λ _ _=>rfl)) (HY (n:=2) rfl (Ci (Bq (i:=1) Gn.nd rfl (by first | exact Or.inl rfl | exact Or.inr rfl)) (Ci (Bq (i:=2) Gn.nd rfl (by first | exact Or.inl rfl | exact Or.inr rfl)) Eu)))) (Al (Aw (i:=3) Gn.nd rfl (by first | exact Or.inl rfl | exact Or.inr rfl) (Cg Ab)) (Al (DW PassesOwn.never rfl (cN rfl T.range (BJ Ac Ab)) (Bq (i:=4) Gn.nd rfl (by first | exact Or.inl rfl | exact Or.inr rfl)) (Al (Aw (i:=5) Gn.nd rfl (Or.inl rfl) (Ay Eo (Aj JH (hr.mono (by decide)) Ai (BX (Aj Hh (hr.mono (by decide)) Ai (Ad (pv 0) (Bu (Ay Gi Ac (pv 4)) Ab))) (BJ Ac Ab))) Ac)) (Al (Aw (i:=6) Gn.nd rfl (Or.inl rfl) (Aj Ef (hr.mono (by decide)) Ai (Bu (Ay Ec (Ay Ec Ac Ac) (Ay Cu (pv 5) (Ag CV (Cg (BJ Ac (BJ Ac (BJ Ac Ab)))) (Ay Cu (Ay Eo (pv 5) Ac) Ac) (λ _ _=>rfl)))) (Bu (Ay Gi Ac (Ay Cu (Ay Eo (pv 5) Ac) Ac)) Ab)))) (Al (Aw (i:=7) Gn.nd rfl (Or.inl rfl) (Aj Ef (hr.mono (by decide)) Ai (Bu (Ay Gi Ac (Ay Cu (Ay Eo (pv 5) Ac) (Ag CV (Cg (BJ Ac (BJ Ac (BJ Ac Ab)))) (Ay Cu (Ay Eo (pv 5) Ac) Ac) (λ _ _=>rfl)))) (Bu (Ay Gi Ac (Ay Cu (Ay Eo (pv 5) Ac) Ac)) Ab)))) (Ao (Aw (i:=3) Gn.nd rfl (by first | exact Or.inl rfl | exact Or.inr rfl) (Ay JD (pv 3) (Cg (Bb (BK (BJ Dk (Ad (pv 6) (Ad (pv 7) Ab)))) (Bb (BK (BJ Dk (Ad (pv 1) Ab))) (Bb (BK (BJ Dk (Ad (pv 2) Ab))) Ab))))))))))) (Ao (Az (pv 3)))))),?_⟩
 refine ⟨(by show 2<=sizeLine;decide),λ a0 ha0=>?_⟩
 have ua0:=Ah ha0 (.tup [.int 1,.int 1]);have da0:DV K (upd H a0 (.tup [.int 1,.int 1])) (.ref a0) (Af (1:Rat)):=Cj (by decide+kernel) (by decide+kernel)
 generalize upd H a0 (.tup [.int 1,.int 1])=A0 at ua0 da0 ⊢;refine ⟨(by show 2<=sizeLine;decide),λ b0 hb0=>?_⟩
 have ub0:=Ah hb0 (.tup [.int 1,.int 1]);have db0:DV K (upd A0 b0 (.tup [.int 1,.int 1])) (.ref b0) (Af (1:Rat)):=Cj (by decide+kernel) (by decide+kernel)
 generalize upd A0 b0 (.tup [.int 1,.int 1])=B0 at ub0 db0 ⊢;refine ⟨(by show 2<=sizeLine;decide),λ c0 hc0=>?_⟩
 have uc0:=Ah hc0 (.tup [.ref a0,.ref b0]);have dc0:DV K (upd B0 c0 (.tup [.ref a0,.ref b0])) (.ref c0) (pairD (1:Rat) (1:Rat)):=DV.upd2 hc0 (da0.keep ub0) db0;generalize upd B0 c0 (.tup [.ref a0,.ref b0])=C0 at uc0 dc0 ⊢;have t0:=ua0.trans (ub0.trans uc0);refine ⟨(by show 2<=sizeLine;decide),λ a1 ha1=>?_⟩
 have ua1:=Ah ha1 (.tup [.int 2,.int 1]);have da1:DV K (upd C0 a1 (.tup [.int 2,.int 1])) (.ref a1) (Af (2:Rat)):=Cj (by decide+kernel) (by decide+kernel)
 generalize upd C0 a1 (.tup [.int 2,.int 1])=A1 at ua1 da1 ⊢;refine ⟨(by show 2<=sizeLine;decide),λ b1 hb1=>?_⟩
 have ub1:=Ah hb1 (.tup [.int 1,.int 2]);have db1:DV K (upd A1 b1 (.tup [.int 1,.int 2])) (.ref b1) (Af (1 / 2:Rat)):=Cj (by decide+kernel) (by decide+kernel)
 generalize upd A1 b1 (.tup [.int 1,.int 2])=B1 at ub1 db1 ⊢;refine ⟨(by show 2<=sizeLine;decide),λ c1 hc1=>?_⟩
 have uc1:=Ah hc1 (.tup [.ref a1,.ref b1]);have dc1:DV K (upd B1 c1 (.tup [.ref a1,.ref b1])) (.ref c1) (pairD (2:Rat) (1 / 2:Rat)):=DV.upd2 hc1 (da1.keep ub1) db1;generalize upd B1 c1 (.tup [.ref a1,.ref b1])=C1 at uc1 dc1 ⊢;have t1:=t0.trans (ua1.trans (ub1.trans uc1));have r1:=ua1.trans (ub1.trans uc1);refine ⟨(by show 2<=sizeLine;decide),λ a2 ha2=>?_⟩
 have ua2:=Ah ha2 (.tup [.int 1,.int 2]);have da2:DV K (upd C1 a2 (.tup [.int 1,.int 2])) (.ref a2) (Af (1 / 2:Rat)):=Cj (by decide+kernel) (by decide+kernel)
 generalize upd C1 a2 (.tup [.int 1,.int 2])=A2 at ua2 da2 ⊢;refine ⟨(by show 2<=sizeLine;decide),λ b2 hb2=>?_⟩
 have ub2:=Ah hb2 (.tup [.int 2,.int 1]);have db2:DV K (upd A2 b2 (.tup [.int 2,.int 1])) (.ref b2) (Af (2:Rat)):=Cj (by decide+kernel) (by decide+kernel)
 generalize upd A2 b2 (.tup [.int 2,.int 1])=B2 at ub2 db2 ⊢;refine ⟨(by show 2<=sizeLine;decide),λ c2 hc2=>?_⟩
 have uc2:=Ah hc2 (.tup [.ref a2,.ref b2]);have dc2:DV K (upd B2 c2 (.tup [.ref a2,.ref b2])) (.ref c2) (pairD (1 / 2:Rat) (2:Rat)):=DV.upd2 hc2 (da2.keep ub2) db2;generalize upd B2 c2 (.tup [.ref a2,.ref b2])=C2 at uc2 dc2 ⊢;have t2:=t1.trans (ua2.trans (ub2.trans uc2));have r2:=ua2.trans (ub2.trans uc2);refine ⟨(by show 2<=sizeLine;decide),λ a3 ha3=>?_⟩
 have ua3:=Ah ha3 (.tup [.int 3,.int 1]);have da3:DV K (upd C2 a3 (.tup [.int 3,.int 1])) (.ref a3) (Af (3:Rat)):=Cj (by decide+kernel) (by decide+kernel)
 generalize upd C2 a3 (.tup [.int 3,.int 1])=A3 at ua3 da3 ⊢;refine ⟨(by show 2<=sizeLine;decide),λ b3 hb3=>?_⟩
 have ub3:=Ah hb3 (.tup [.int 1,.int 3]);have db3:DV K (upd A3 b3 (.tup [.int 1,.int 3])) (.ref b3) (Af (1 / 3:Rat)):=Cj (by decide+kernel) (by decide+kernel)
 generalize upd A3 b3 (.tup [.int 1,.int 3])=B3 at ub3 db3 ⊢;refine ⟨(by show 2<=sizeLine;decide),λ c3 hc3=>?_⟩
 have uc3:=Ah hc3 (.tup [.ref a3,.ref b3]);have dc3:DV K (upd B3 c3 (.tup [.ref a3,.ref b3])) (.ref c3) (pairD (3:Rat) (1 / 3:Rat)):=DV.upd2 hc3 (da3.keep ub3) db3;generalize upd B3 c3 (.tup [.ref a3,.ref b3])=C3 at uc3 dc3 ⊢;have t3:=t2.trans (ua3.trans (ub3.trans uc3));have r3:=ua3.trans (ub3.trans uc3);refine ⟨_,rfl,(by show 2<=sizeLine;decide),λ a4 ha4=>?_⟩
 have ua4:=Ah ha4 (.tup [.int (-1),.int 1]);have da4:DV K (upd C3 a4 (.tup [.int (-1),.int 1])) (.ref a4) (Af (-1:Rat)):=Cj (by decide+kernel) (by decide+kernel)
 generalize upd C3 a4 (.tup [.int (-1),.int 1])=A4 at ua4 da4 ⊢;refine ⟨_,rfl,(by show 2<=sizeLine;decide),λ b4 hb4=>?_⟩
 have ub4:=Ah hb4 (.tup [.int (-1),.int 1]);have db4:DV K (upd A4 b4 (.tup [.int (-1),.int 1])) (.ref b4) (Af (-1:Rat)):=Cj (by decide+kernel) (by decide+kernel)
 generalize upd A4 b4 (.tup [.int (-1),.int 1])=B4 at ub4 db4 ⊢;refine ⟨(by show 2<=sizeLine;decide),λ c4 hc4=>?_⟩
 have uc4:=Ah hc4 (.tup [.ref a4,.ref b4]);have dc4:DV K (upd B4 c4 (.tup [.ref a4,.ref b4])) (.ref c4) (pairD (-1:Rat) (-1:Rat)):=DV.upd2 hc4 (da4.keep ub4) db4;generalize upd B4 c4 (.tup [.ref a4,.ref b4])=C4 at uc4 dc4 ⊢;have t4:=t3.trans (ua4.trans (ub4.trans uc4));have r4:=ua4.trans (ub4.trans uc4);refine ⟨(by show 2<=sizeLine;decide),λ a5 ha5=>?_⟩
 have ua5:=Ah ha5 (.tup [.int 2,.int 3]);have da5:DV K (upd C4 a5 (.tup [.int 2,.int 3])) (.ref a5) (Af (2 / 3:Rat)):=Cj (by decide+kernel) (by decide+kernel)
 generalize upd C4 a5 (.tup [.int 2,.int 3])=A5 at ua5 da5 ⊢;refine ⟨(by show 2<=sizeLine;decide),λ b5 hb5=>?_⟩
 have ub5:=Ah hb5 (.tup [.int 3,.int 2]);have db5:DV K (upd A5 b5 (.tup [.int 3,.int 2])) (.ref b5) (Af (3 / 2:Rat)):=Cj (by decide+kernel) (by decide+kernel)
 generalize upd A5 b5 (.tup [.int 3,.int 2])=B5 at ub5 db5 ⊢;refine ⟨(by show 2<=sizeLine;decide),λ c5 hc5=>?_⟩
 have uc5:=Ah hc5 (.tup [.ref a5,.ref b5]);have dc5:DV K (upd B5 c5 (.tup [.ref a5,.ref b5])) (.ref c5) (pairD (2 / 3:Rat) (3 / 2:Rat)):=DV.upd2 hc5 (da5.keep ub5) db5;generalize upd B5 c5 (.tup [.ref a5,.ref b5])=C5 at uc5 dc5 ⊢;have t5:=t4.trans (ua5.trans (ub5.trans uc5));have r5:=ua5.trans (ub5.trans uc5);have e0:=(((((dc0.keep r1).keep r2).keep r3).keep r4).keep r5);have e1:=((((dc1.keep r2).keep r3).keep r4).keep r5);have e2:=(((dc2.keep r3).keep r4).keep r5);have e3:=((dc3.keep r4).keep r5);have e4:=(dc4.keep r5);have e5:=dc5;refine ⟨(by show 6<=sizeLine;decide),λ pl hpl=>?_⟩
 have ul:=Ah hpl (.lst [.ref c0,.ref c1,.ref c2,.ref c3,.ref c4,.ref c5]);have hl:upd C5 pl (.lst [.ref c0,.ref c1,.ref c2,.ref c3,.ref c4,.ref c5]) pl=some (.lst [.ref c0,.ref c1,.ref c2,.ref c3,.ref c4,.ref c5]):=Aq;have e0:=e0.keep ul;have e1:=e1.keep ul;have e2:=e2.keep ul;have e3:=e3.keep ul;have e4:=e4.keep ul;have e5:=e5.keep ul;have tl:=t5.trans ul;generalize upd C5 pl (.lst [.ref c0,.ref c1,.ref c2,.ref c3,.ref c4,.ref c5])=HL at hl e0 e1 e2 e3 e4 e5 tl ⊢;refine ⟨_,rfl,a,ns,0,rfl,hS.keep tl,by decide,λ z0=>?_⟩
 obtain ⟨v,hv,hm⟩:=Uw (xs:=[V.ref c0,.ref c1,.ref c2,.ref c3,.ref c4,.ref c5]) (r:=z0 % 6) (by omega) (by simp only [List.length_cons,List.length_nil];omega)
 obtain ⟨g,pp,hgp,gp,bg,bp⟩:∃g pp:Rat,DV K HL v (pairD g pp)/\g * pp=1/\Bd 2 g/\Bd 2 pp:=by
  simp only [List.mem_cons,List.not_mem_nil,or_false] at hm;rcases hm with rfl | rfl | rfl | rfl | rfl | rfl
  ·exact ⟨_,_,e0,by decide+kernel,⟨by decide+kernel,by decide+kernel⟩,⟨by decide+kernel,by decide+kernel⟩⟩
  ·exact ⟨_,_,e1,by decide+kernel,⟨by decide+kernel,by decide+kernel⟩,⟨by decide+kernel,by decide+kernel⟩⟩
  ·exact ⟨_,_,e2,by decide+kernel,⟨by decide+kernel,by decide+kernel⟩,⟨by decide+kernel,by decide+kernel⟩⟩
  ·exact ⟨_,_,e3,by decide+kernel,⟨by decide+kernel,by decide+kernel⟩,⟨by decide+kernel,by decide+kernel⟩⟩
  ·exact ⟨_,_,e4,by decide+kernel,⟨by decide+kernel,by decide+kernel⟩,⟨by decide+kernel,by decide+kernel⟩⟩
  ·exact ⟨_,_,e5,by decide+kernel,⟨by decide+kernel,by decide+kernel⟩,⟨by decide+kernel,by decide+kernel⟩⟩
 clear e0 e1 e2 e3 e4 e5 dc0 da0 db0 ua0 ub0 uc0 t0 dc1 da1 db1 ua1 ub1 uc1 t1 dc2 da2 db2 ua2 ub2 uc2 t2 dc3 da3 db3 ua3 ub3 uc3 t3 dc4 da4 db4 ua4 ub4 uc4 t4 dc5 da5 db5 ua5 ub5 uc5 t5 r1 r2 r3 r4 r5;refine ⟨_,_,rfl,rfl,(by show (0:Int) < 6;decide),pl,_,_,v,rfl,rfl,SqL.of hl,hv,?_⟩
 obtain ⟨ra,gv,pv',rfl,hra,hgv,hpv⟩:=DV.t2 (show DV K HL v (.tuple [Af g,Af pp]) from hgp)
 refine ⟨ra,_,rfl,hra,rfl,gv,_,rfl,pv',_,rfl,rfl,?_⟩;refine ⟨(by show 0<=sizeLine;decide),λ lb0 hlb0=>?_⟩
 have u0:=Ah hlb0 (.lst []);have l0:upd HL lb0 (.lst []) lb0=some (.lst []):=Aq;have hgv:=hgv.keep u0;have hpv:=hpv.keep u0;have t0:=tl.trans u0;have n0:H lb0=none:=tl.free hlb0;generalize upd HL lb0 (.lst [])=H0 at l0 hgv hpv t0 ⊢;refine ⟨20,rfl,by decide,by decide,?_⟩
 refine QW (lo:=0) (n:=Int.toNat 20) (λ i σ H'=>∃(lb:Addr) (xs:List V) (S:List (Rat×Rat)) (c4 c5 c6 c7:Option V),σ=[some (.ref a),some gv,some pv',some (.ref lb),c4,c5,c6,c7]/\Same H0 H'/\H lb=none/\H' lb=some (.lst xs)/\DVs K H' xs ((BZ g pp S).map Bp)/\S.length=i/\∀q∈S,q.1<=q.2/\Bd 6 q.1/\Bd 6 q.2) ⟨lb0,[],[],_,_,_,_,rfl,Same.refl _,n0,l0,.nil,rfl,λ _ h=>nomatch h⟩ ?_ ?_
 ·rintro i σ H' hi ⟨lb,xs,S,c4,c5,c6,c7,rfl,s',nlb,hlb,hxs,rfl,hSq⟩
  have hi:S.length < 20:=hi;have hxl:xs.length=3 * S.length:=by have:=hxs.len;rw [List.length_map,O3] at this;exact this
  have s1:=t0.trans s';refine ⟨_,rfl,_,rfl,_,_,rfl,rfl,a,ns,_,rfl,hS.keep s1,by omega,λ z=>?_⟩
  refine ⟨z,48271,rfl,by decide,by decide,λ x x0 x1=>⟨_,_,rfl,rfl,⟨by decide,by decide⟩,?_⟩⟩
  have nb0:0<=x / 64:=Int.ediv_nonneg x0 (by decide)
  dsimp only
  generalize x / 64=nb at nb0 ⊢;have lim7:∀b:Int,b.natAbs < 2 ^ 7->b.natAbs < lim:=λ b h=>Nat.lt_of_lt_of_le h (by unfold lim;exact EY (by decide))
  have p6:(2:Nat) ^ 6=64:=by decide
  have p7:(2:Nat) ^ 7=128:=by decide
  have most:∀{k:Int},0<=k->k < 3->∃m:Int,atI [V.int 40,.int 9,.int 40] k=some (.int m)/\0 < m/\m<=40:=λ {k} k0 k1=>by
   have:k=0\/k=1\/k=2:=by omega
   rcases this with rfl | rfl | rfl
   ·exact ⟨40,rfl,by decide,by decide⟩
   ·exact ⟨9,rfl,by decide,by decide⟩
   ·exact ⟨40,rfl,by decide,by decide⟩
  obtain ⟨m,hm,m0,m1⟩:=most (k:=nb / 64 % 3) (by omega) (by omega)
  refine ⟨_,_,rfl,rfl,_,rfl,(by show 3<=sizeLine;decide),λ q1 hq1=>?_⟩
  have v1:=Ah hq1 (.lst [.int 40,.int 9,.int 40]);refine ⟨_,rfl,_,_,rfl,rfl,⟨by decide,by decide⟩,_,_,rfl,rfl,(by show (0:Int) < 3;decide),q1,_,_,_,rfl,rfl,SqL.of Aq,hm,?_⟩
  generalize upd H' q1 (.lst [.int 40,.int 9,.int 40])=G1 at v1 ⊢;refine ⟨_,_,rfl,rfl,m0,_,_,rfl,rfl,?_⟩;refine ⟨_,rfl,_,_,rfl,rfl,⟨by decide,by decide⟩,_,_,rfl,rfl,(by show (0:Int) < 3;decide),_,_,rfl,rfl,?_⟩
  have w0:=Int.emod_nonneg nb (show m≠0 by omega)
  have w1:=Int.emod_lt_of_pos nb m0;generalize nb % m=wl at w0 w1;have b0:(0:Int) < 1+nb / 4096 % 3:=by omega
  have b1:(1+nb / 4096 % 3:Int).natAbs < 2 ^ 6:=by omega
  refine ⟨_,_,rfl,b0,lim7 _ (by omega),λ q2 hq2=>?_⟩
  have v2:=Ah hq2 (.tup [.int (Fr.lt (0 - 1 - wl) (1+nb / 4096 % 3)),.int (Fr.lb (0 - 1 - wl) (1+nb / 4096 % 3))]);have hlo:DV K (upd G1 q2 (.tup [.int (Fr.lt (0 - 1 - wl) (1+nb / 4096 % 3)),.int (Fr.lb (0 - 1 - wl) (1+nb / 4096 % 3))])) (.ref q2) (Af (Rat.divInt (0 - 1 - wl) (1+nb / 4096 % 3))):=Do (H:=G1) (by omega)
  have blo:Bd 6 (Rat.divInt (0 - 1 - wl) (1+nb / 4096 % 3)):=Bd.of (by omega) (by omega) b1
  have nlo:=iZ (show 0 - 1 - wl<=0 by omega) (show 0<=1+nb / 4096 % 3 by omega)
  generalize Rat.divInt (0 - 1 - wl) (1+nb / 4096 % 3)=loq at hlo blo nlo;generalize upd G1 q2 (.tup [.int (Fr.lt (0 - 1 - wl) (1+nb / 4096 % 3)),.int (Fr.lb (0 - 1 - wl) (1+nb / 4096 % 3))])=G2 at v2 hlo ⊢;refine ⟨_,rfl,_,_,rfl,rfl,⟨by decide,by decide⟩,(by show 3<=sizeLine;decide),λ q3 hq3=>?_⟩
  have v3:=Ah hq3 (.lst [.int 40,.int 9,.int 40]);refine ⟨_,rfl,_,_,rfl,rfl,⟨by decide,by decide⟩,_,_,rfl,rfl,(by show (0:Int) < 3;decide),q3,_,_,_,rfl,rfl,SqL.of Aq,hm,?_⟩
  generalize upd G2 q3 (.lst [.int 40,.int 9,.int 40])=G3 at v3 ⊢;refine ⟨_,_,rfl,rfl,m0,_,_,rfl,rfl,?_⟩;refine ⟨_,rfl,_,_,rfl,rfl,⟨by decide,by decide⟩,_,_,rfl,rfl,(by show (0:Int) < 2;decide),_,_,rfl,rfl,?_⟩
  have y0:=Int.emod_nonneg (nb / 16) (show m≠0 by omega)
  have y1:=Int.emod_lt_of_pos (nb / 16) m0;generalize nb / 16 % m=wh at y0 y1;have d0:(0:Int) < 1+nb / 8192 % 2:=by omega
  have d1:(1+nb / 8192 % 2:Int).natAbs < 2 ^ 6:=by omega
  refine ⟨_,_,rfl,d0,lim7 _ (by omega),λ q4 hq4=>?_⟩
  have v4:=Ah hq4 (.tup [.int (Fr.lt (1+wh) (1+nb / 8192 % 2)),.int (Fr.lb (1+wh) (1+nb / 8192 % 2))]);have hhi:DV K (upd G3 q4 (.tup [.int (Fr.lt (1+wh) (1+nb / 8192 % 2)),.int (Fr.lb (1+wh) (1+nb / 8192 % 2))])) (.ref q4) (Af (Rat.divInt (1+wh) (1+nb / 8192 % 2))):=Do (H:=G3) (by omega)
  have bhi:Bd 6 (Rat.divInt (1+wh) (1+nb / 8192 % 2)):=Bd.of (by omega) (by omega) d1
  have nhi:=XX (show 0<=1+wh by omega) (show 0<=1+nb / 8192 % 2 by omega)
  generalize Rat.divInt (1+wh) (1+nb / 8192 % 2)=hiq at hhi bhi nhi;generalize upd G3 q4 (.tup [.int (Fr.lt (1+wh) (1+nb / 8192 % 2)),.int (Fr.lb (1+wh) (1+nb / 8192 % 2))])=G4 at v4 hhi ⊢;have v14:=v1.trans (v2.trans (v3.trans v4));refine ⟨_,rfl,_,rfl,_,rfl,(by show 3<=sizeLine;decide),λ q5 hq5=>?_⟩
  have v5:=Ah hq5 (.tup [.str "stop",.ref q2,.ref q4]);have d5:DV K (upd G4 q5 (.tup [.str "stop",.ref q2,.ref q4])) (.ref q5) (Bp (.stop loq hiq)):=.tup (SqT.of Aq) (.cons (.str _) (.cons (hlo.keep (v3.trans (v4.trans v5))) (.cons (hhi.keep v5) .nil)));generalize upd G4 q5 (.tup [.str "stop",.ref q2,.ref q4])=G5 at v5 d5 ⊢;have v15:=v14.trans v5;refine ⟨_,rfl,(by show 2<=sizeLine;decide),λ q6 hq6=>?_⟩
  have v6:=Ah hq6 (.tup [.str "gap",gv]);have d6:DV K (upd G5 q6 (.tup [.str "gap",gv])) (.ref q6) (Bp (.gap g)):=.tup (SqT.of Aq) (.cons (.str _) (.cons (hgv.keep (s'.trans (v15.trans v6))) .nil));generalize upd G5 q6 (.tup [.str "gap",gv])=G6 at v6 d6 ⊢;refine ⟨_,rfl,(by show 2<=sizeLine;decide),λ q7 hq7=>?_⟩
  have v7:=Ah hq7 (.tup [.str "glass",pv']);have d7:DV K (upd G6 q7 (.tup [.str "glass",pv'])) (.ref q7) (Bp (.glass pp)):=.tup (SqT.of Aq) (.cons (.str _) (.cons (hpv.keep (s'.trans (v15.trans (v6.trans v7)))) .nil));generalize upd G6 q7 (.tup [.str "glass",pv'])=G7 at v7 d7 ⊢;refine ⟨(by show 3<=sizeLine;decide),λ q8 hq8=>?_⟩
  have v8:=Ah hq8 (.lst [.ref q5,.ref q6,.ref q7]);have l8:upd G7 q8 (.lst [.ref q5,.ref q6,.ref q7]) q8=some (.lst [.ref q5,.ref q6,.ref q7]):=Aq;generalize upd G7 q8 (.lst [.ref q5,.ref q6,.ref q7])=G8 at v8 l8 ⊢;have v18:=v15.trans (v6.trans (v7.trans v8));refine ⟨lb,q8,_,_,rfl,rfl,v18 _ _ hlb,l8,Nat.le_of_lt (small1000 (by simp only [List.length_cons,List.length_nil];omega)),λ q9 hq9=>?_⟩
  have v9:=Ah hq9 (.lst (xs++[.ref q5,.ref q6,.ref q7]));have v19:=v18.trans v9;refine ⟨q9,_,S++[(loq,hiq)],_,_,_,_,rfl,s'.trans v19,(s1.trans v18).free hq9,Aq,?_,by rw [List.length_append];rfl,λ q' hq'=>?_⟩
  ·rw [gO,List.map_append];exact (hxs.keep v19).append (.cons (d5.keep (v6.trans (v7.trans (v8.trans v9)))) (.cons (d6.keep (v7.trans (v8.trans v9))) (.cons (d7.keep (v8.trans v9)) .nil)))
  ·rcases List.mem_append.mp hq' with h | h
   ·exact hSq q' h
   ·rw [List.mem_singleton.mp h];exact ⟨Rat.le_trans nlo nhi,blo,bhi⟩
 ·rintro σ H' ⟨lb,xs,S,c4,c5,c6,c7,rfl,s',nlb,hlb,hxs,hSl,hSq⟩
  have hSl:S.length=20:=hSl;exact ⟨_,rfl,q lb H' xs g pp S (t0.trans s') nlb hlb hxs ⟨gp,bg,bp,by omega,hSq⟩ hSl⟩
theorem bN (T:Txt K mg ad):CalB P w K mg base true 5 "_law_heights" ["_law_bench_here"] (tZ K):=by
 have Fw:=R7 (P:=P) (w:=w) (base:=base) T;have FZ:=Tv (P:=P) (w:=w) (base:=base) T;have Q8:=Y4 (P:=P) (w:=w) (base:=base) T;refine T.Qe.calN Jd (λ _ _ _ _ _ _=>by1 λ _=>rfl) (λ vs H Q E h=>?_) (λ f cdv A outer s H vs Q E hr h=>?_)
 ·obtain ⟨_,_,rfl,_⟩:=h;rfl
 obtain ⟨v,es,rfl,hv,h62,hbd,q⟩:=h;refine ⟨_,(Al (Aw (i:=1) Jd.nd rfl (Or.inl rfl) (Cg (Bb (BK (Bb (BK (BJ Ac (BJ Ac Ab))) (Bb (BK (BJ Ac (BJ Ac Ab))) Ab))) (Bb (BK (Bb (BK (BJ Ac (BJ Ac Ab))) (Bb (BK (BJ Ac (BJ Ac Ab))) Ab))) Ab)))) (Al (Aw (i:=2) Jd.nd rfl (Or.inl rfl) (Cg Ab)) (Al (DW PassesOwn.never rfl (Dw (pv 0)) (Bq (i:=3) Jd.nd rfl (by first | exact Or.inl rfl | exact Or.inr rfl)) (Ao (Be (Bo DX (Ag Am (pv 3) Ac (λ _ _=>rfl)) Dk (nomark _)) (Ao (Lp (i:=1) Jd.nd rfl (by first | exact Or.inl rfl | exact Or.inr rfl) ["_law_y","_law_u","_law_piece"] [none,none,some 3] rfl (Dw (pv 1)) (λ _ _ _ _ _ _=>(Li (K:=K) (n:=2) rfl (Ci (Bq (i:=0) (show List.Nodup [("_law_y":Str),("_law_u":Str),("_law_piece":Str)] by decide) rfl (by first | exact Or.inl rfl | exact Or.inr rfl)) (Ci (Bq (i:=1) (show List.Nodup [("_law_y":Str),("_law_u":Str),("_law_piece":Str)] by decide) rfl (by first | exact Or.inl rfl | exact Or.inr rfl)) Eu)))) (λ _ _ _ _ _ _=>Gy) (λ _ _ _ _ _ _=>(BK (BX (Aj Fw (hr.mono (by decide)) Ai (Ad (pv 0) (BX (Aj FZ (hr.mono (by decide)) Ai (Ar (Ag (Ih (K:=K)) (pv 2) Ac (λ _ _=>rfl)) (Ad (pv 1) Ab))) Ab))) (Ad (pv 1) Ab)))) (JX (hcell:=by decide) (hf:=(show ∀y:Str×NameKind,y∈_->y.2=NameKind.free->(defScope Lq).names.lookup y.1=some NameKind.cell by decide))) (by decide) rfl (by decide) rfl (λ i j h=>by
   rcases i with _ | _ | _ | i
   ·simp at h
   ·simp at h
   ·simp at h;subst h;exact ⟨_,rfl,rfl,rfl,rfl⟩
   ·simp at h))) (Ao (Be (Bo DX (Ag Am (pv 3) Ac (λ _ _=>rfl)) Dk (nomark _)) (Ao (Lp (i:=1) Jd.nd rfl (by first | exact Or.inl rfl | exact Or.inr rfl) ["_law_y","_law_u","_law_piece"] [none,none,some 3] rfl (Dw (pv 1)) (λ _ _ _ _ _ _=>(Li (K:=K) (n:=2) rfl (Ci (Bq (i:=0) (show List.Nodup [("_law_y":Str),("_law_u":Str),("_law_piece":Str)] by decide) rfl (by first | exact Or.inl rfl | exact Or.inr rfl)) (Ci (Bq (i:=1) (show List.Nodup [("_law_y":Str),("_law_u":Str),("_law_piece":Str)] by decide) rfl (by first | exact Or.inl rfl | exact Or.inr rfl)) Eu)))) (λ _ _ _ _ _ _=>Gy) (λ _ _ _ _ _ _=>(BK (Ad (pv 0) (BX (Aj Fw (hr.mono (by decide)) Ai (Ad (pv 1) (BX (Aj Q8 (hr.mono (by decide)) Ai (BX (Aj FZ (hr.mono (by decide)) Ai (Ar (Ag (Ih (K:=K)) (pv 2) Ac (λ _ _=>rfl)) (Ad (pv 0) Ab))) Ab)) Ab))) Ab)))) (JX (hcell:=by decide) (hf:=(show ∀y:Str×NameKind,y∈_->y.2=NameKind.free->(defScope Lq).names.lookup y.1=some NameKind.cell by decide))) (by decide) rfl (by decide) rfl (λ i j h=>by
   rcases i with _ | _ | _ | i
   ·simp at h
   ·simp at h
   ·simp at h;subst h;exact ⟨_,rfl,rfl,rfl,rfl⟩
   ·simp at h))) (Ao (DR (Dc PySem.F.plainAttrs_list PySem.F.slot_list_append PySem.F.type_list_append Ft (pv 2) (Bb (BK (Ar (Ag Am (Ag CV (pv 1) Ac (λ _ _=>rfl)) Ac (λ _ _=>rfl)) (Ar (Ag Am (Ag CV (pv 1) Ac (λ _ _=>rfl)) Ac (λ _ _=>rfl)) Ab))) Ab))))))))) (Ao (Az (pv 2)))))),?_⟩
 obtain ⟨lb,xs,rfl,hlb,hxs⟩:=hv.lst_of;have hxl:xs.length=es.length:=by have:=hxs.len;rw [List.length_map] at this;exact this
 have f11:∀{H:Hp} {p:Addr},DV K (upd H p (.tup [.int 1,.int 1])) (.ref p) (Af 1):=λ {H p}=>Cj (by decide+kernel) (by decide+kernel)
 have f01:∀{H:Hp} {p:Addr},DV K (upd H p (.tup [.int 0,.int 1])) (.ref p) (Af 0):=λ {H p}=>Cj (by decide+kernel) (by decide+kernel)
 refine ⟨(by show 2<=sizeLine;decide),λ a1 ha1=>?_⟩
 have u1:=Ah ha1 (.tup [.int 1,.int 1]);have d1:=f11 (H:=H) (p:=a1);generalize upd H a1 (.tup [.int 1,.int 1])=H1 at u1 d1 ⊢;refine ⟨(by show 2<=sizeLine;decide),λ a2 ha2=>?_⟩
 have u2:=Ah ha2 (.tup [.int 0,.int 1]);have d2:=f01 (H:=H1) (p:=a2);generalize upd H1 a2 (.tup [.int 0,.int 1])=H2 at u2 d2 ⊢;refine ⟨(by show 2<=sizeLine;decide),λ a3 ha3=>?_⟩
 have u3:=Ah ha3 (.tup [.ref a1,.ref a2]);have d3:DV K (upd H2 a3 (.tup [.ref a1,.ref a2])) (.ref a3) (Ax e1):=DV.upd2 ha3 (d1.keep u2) d2;generalize upd H2 a3 (.tup [.ref a1,.ref a2])=H3 at u3 d3 ⊢;refine ⟨(by show 2<=sizeLine;decide),λ a4 ha4=>?_⟩
 have u4:=Ah ha4 (.tup [.int 0,.int 1]);have d4:=f01 (H:=H3) (p:=a4);generalize upd H3 a4 (.tup [.int 0,.int 1])=H4 at u4 d4 ⊢;refine ⟨(by show 2<=sizeLine;decide),λ a5 ha5=>?_⟩
 have u5:=Ah ha5 (.tup [.int 1,.int 1]);have d5:=f11 (H:=H4) (p:=a5);generalize upd H4 a5 (.tup [.int 1,.int 1])=H5 at u5 d5 ⊢;refine ⟨(by show 2<=sizeLine;decide),λ a6 ha6=>?_⟩
 have u6:=Ah ha6 (.tup [.ref a4,.ref a5]);have d6:DV K (upd H5 a6 (.tup [.ref a4,.ref a5])) (.ref a6) (Ax e2):=DV.upd2 ha6 (d4.keep u5) d5;generalize upd H5 a6 (.tup [.ref a4,.ref a5])=H6 at u6 d6 ⊢;refine ⟨(by show 2<=sizeLine;decide),λ a7 ha7=>?_⟩
 have u7:=Ah ha7 (.lst [.ref a3,.ref a6]);have l7:upd H6 a7 (.lst [.ref a3,.ref a6]) a7=some (.lst [.ref a3,.ref a6]):=Aq;have d3:=d3.keep (u4.trans (u5.trans (u6.trans u7)));have d6:=d6.keep u7;have t7:=u1.trans (u2.trans (u3.trans (u4.trans (u5.trans (u6.trans u7)))));generalize upd H6 a7 (.lst [.ref a3,.ref a6])=H7 at l7 d3 d6 t7 ⊢;clear u1 u2 u3 u4 u5 u6 u7 d1 d2 d4 d5;refine ⟨(by show 0<=sizeLine;decide),λ lf hlf=>?_⟩
 have u8:=Ah hlf (.lst []);have l8:upd H7 lf (.lst []) lf=some (.lst []):=Aq;have n8:H lf=none:=t7.free hlf;have d3:=d3.keep u8;have d6:=d6.keep u8;have l7:=u8 _ _ l7;have t8:=t7.trans u8;generalize upd H7 lf (.lst [])=H8 at l7 l8 d3 d6 t8 ⊢;refine ⟨_,rfl,lb,rfl,⟨_,hlb.keep t8⟩,?_⟩;refine Fg (K:=K) (a:=lb) (xs:=xs) (λ i σ H'=>∃(lr:Addr) (r1 r2:V) (ys:List V) (c3:Option V),σ=[some (.ref lb),some (.ref lr),some (.ref lf),c3]/\Same H H'/\H' lr=some (.lst [r1,r2])/\DV K H' r1 (Ax (Fe (es.take i) e1))/\DV K H' r2 (Ax (Fe (es.take i) e2))/\H' lf=some (.lst ys)/\lr≠lf/\DVs K H' ys ((El (es.take i) e1 e2).map Xm)) ⟨a7,_,_,[],_,rfl,t8,l7,d3,d6,l8,(λ e=>by rw [e] at l7;rw [l7] at l8;cases l8),.nil⟩ ?_ ?_ ?_
 ·rintro i σ H' hi ⟨lr,r1,r2,ys,c3,rfl,s',_⟩
  exact hlb.keep s'
 ·rintro i y σ H' hi ⟨lr,r1,r2,ys,c3,rfl,s',hlr,hr1,hr2,hlf',nlr,hys⟩
  obtain ⟨d,hd,hy⟩:=hxs.get hi;rw [List.getElem?_map] at hd;cases he:es[i]? with
  | none=>rw [he] at hd;cases hd
  | some e=>
  rw [he] at hd;cases hd
  have il:=Cq he;have em:=List.mem_of_getElem? he;have et:es.take (i+1)=es.take i++[e]:=by rw [List.take_add_one,he];rfl
  have rbi:∀r:Aa,RB 2 r->RB 460 (Fe (es.take i) r):=λ r hr=>Rb.mono (V8 (m:=6) (es.take i) 2 r (λ p hp=>hbd p (List.mem_of_mem_take hp)) hr) (by
   have:(es.take i).length * (6+1)<=62 * 7:=Nat.mul_le_mul (by rw [List.length_take];omega) (Nat.le_refl _)
   omega)
  have rb1:=rbi e1 ⟨1,0,1,by decide,by decide,by decide,by decide,by decide+kernel,by decide+kernel⟩
  have rb2:=rbi e2 ⟨0,1,1,by decide,by decide,by decide,by decide,by decide+kernel,by decide+kernel⟩
  rw [et,WP,WP,Sy];generalize Fe (es.take i) e1=hh at hr1 rb1 ⊢;generalize Fe (es.take i) e2=ss at hr2 rb2 ⊢;have htl:(El (es.take i) e1 e2).length<=62:=Nat.le_trans (ZP _ _ _) (by rw [List.length_take];omega)
  generalize El (es.take i) e1 e2=hts at hys htl ⊢;have hrs:DVs K H' [r1,r2] ([hh,ss].map Ax):=.cons hr1 (.cons hr2 .nil);have rbs:∀r∈[hh,ss],RB 460 r:=λ r hr=>by
   simp only [List.mem_cons,List.not_mem_nil,or_false] at hr;rcases hr with rfl | rfl
   ·exact rb1
   ·exact rb2
  have hy:=hy.keep s'
  match e,em,hy with
  | some (.gap d),em,hy=>
   obtain ⟨b,x0,x1,rfl,hb,g0,g1⟩:=DV.t2 (show DV K H' y (.tuple [.str "gap",Af d]) from hy)
   obtain rfl:=DV.str_of g0;have bd:Bd 6 d:=hbd (.gap d) em;refine ⟨_,rfl,b,_,_,_,rfl,rfl,hb,CQ,rfl,_,rfl,Bt (by decide) ?_⟩
   refine ⟨_,rfl,lr,rfl,⟨_,SqL.of hlr⟩,?_⟩;refine O5 (K:=K) (a:=lr) (xs:=[r1,r2]) (λ j σ zs H''=>∃c0 c1,σ=[c0,c1,some (.ref b)]/\Same H' H''/\DVs K H'' zs ((([hh,ss].take j).map (Pc.gap d).bent).map Ax)) ⟨_,_,rfl,Same.refl _,.nil⟩ ?_ ?_ ?_
   ·rintro j σ zs H'' hj ⟨c0,c1,rfl,s2,hzs⟩
    refine ⟨?_,SqL.of (s2 _ _ hlr)⟩;have:=hzs.len;rw [List.length_map,List.length_map,List.length_take] at this;simp only [List.length_cons,List.length_nil] at this;exact Nat.le_of_lt (small1000 (by omega))
   ·rintro j rv σ zs H'' hj ⟨c0,c1,rfl,s2,hzs⟩
    obtain ⟨dd,hdd,hrv⟩:=hrs.get hj;obtain ⟨r,hr,rfl⟩:=Io hdd;have rb:=rbs r (List.mem_of_getElem? hr);have jt:[hh,ss].take (j+1)=[hh,ss].take j++[r]:=by rw [List.take_add_one,hr];rfl
    obtain ⟨ra,yv,uv,rfl,hra,hyv,huv⟩:=DV.t2 (show DV K H'' rv (.tuple [Af r.1,Af r.2]) from hrv.keep s2)
    refine ⟨ra,_,rfl,hra,rfl,yv,_,rfl,uv,_,rfl,rfl,?_⟩;refine ⟨_,rfl,_,rfl,b,_,_,_,rfl,rfl,hb.keep s2,rfl,_,rfl,_,_,.cons (g1.keep s2) (.cons huv .nil),⟨_,_,rfl,bd.sm (by decide),rb.u.sm (by decide),rfl⟩,λ v1 G1 w1 hv1=>?_⟩
    refine ⟨_,_,.cons (hyv.keep w1) (.cons hv1 .nil),⟨_,_,rfl,rb.y.sm (by decide),(bd.mul rb.u).sm (by decide),rfl⟩,λ v2 G2 w2 hv2=>?_⟩
    refine ⟨_,rfl,(by show 2<=sizeLine;decide),λ pz hpz=>?_⟩
    have wz:=Ah hpz (.tup [v2,uv]);refine nx (Cq hj) ⟨_,_,rfl,s2.trans (w1.trans (w2.trans wz)),?_⟩;rw [jt,List.map_append,List.map_append];refine (hzs.keep (w1.trans (w2.trans wz))).append (.cons ?_ .nil);exact DV.upd2 hpz hv2 (huv.keep (w1.trans w2))
   rintro σ zs G lz ⟨c0,c1,rfl,sz,hzs⟩ hlz
   obtain ⟨z1,z2,rfl,hz1,hz2⟩:=DVs.two (show DVs K G zs [Ax ((Pc.gap d).bent hh),Ax ((Pc.gap d).bent ss)] from hzs)
   have uz:=Ah hlz (.lst [z1,z2]);have tz:=sz.trans uz;exact ⟨lz,z1,z2,ys,_,rfl,s'.trans tz,Aq,hz1.keep uz,hz2.keep uz,tz _ _ hlf',(λ e=>by rw [e] at hlz;rw [sz _ _ hlf'] at hlz;cases hlz),by rw [show ht1 (some (Pc.gap d)) hh ss=[] from rfl,List.append_nil];exact hys.keep tz⟩
  | some (.glass d),em,hy=>
   obtain ⟨b,x0,x1,rfl,hb,g0,g1⟩:=DV.t2 (show DV K H' y (.tuple [.str "glass",Af d]) from hy)
   obtain rfl:=DV.str_of g0;have bd:Bd 6 d:=hbd (.glass d) em;refine ⟨_,rfl,b,_,_,_,rfl,rfl,hb,CQ,rfl,_,rfl,Bf (by decide) ?_⟩
   refine ⟨_,rfl,b,_,_,_,rfl,rfl,hb,CQ,rfl,_,rfl,Bt (by decide) ?_⟩
   refine ⟨_,rfl,lr,rfl,⟨_,SqL.of hlr⟩,?_⟩;refine O5 (K:=K) (a:=lr) (xs:=[r1,r2]) (λ j σ zs H''=>∃c0 c1,σ=[c0,c1,some (.ref b)]/\Same H' H''/\DVs K H'' zs ((([hh,ss].take j).map (Pc.glass d).bent).map Ax)) ⟨_,_,rfl,Same.refl _,.nil⟩ ?_ ?_ ?_
   ·rintro j σ zs H'' hj ⟨c0,c1,rfl,s2,hzs⟩
    refine ⟨?_,SqL.of (s2 _ _ hlr)⟩;have:=hzs.len;rw [List.length_map,List.length_map,List.length_take] at this;simp only [List.length_cons,List.length_nil] at this;exact Nat.le_of_lt (small1000 (by omega))
   ·rintro j rv σ zs H'' hj ⟨c0,c1,rfl,s2,hzs⟩
    obtain ⟨dd,hdd,hrv⟩:=hrs.get hj;obtain ⟨r,hr,rfl⟩:=Io hdd;have rb:=rbs r (List.mem_of_getElem? hr);have jt:[hh,ss].take (j+1)=[hh,ss].take j++[r]:=by rw [List.take_add_one,hr];rfl
    obtain ⟨ra,yv,uv,rfl,hra,hyv,huv⟩:=DV.t2 (show DV K H'' rv (.tuple [Af r.1,Af r.2]) from hrv.keep s2)
    refine ⟨ra,_,rfl,hra,rfl,yv,_,rfl,uv,_,rfl,rfl,?_⟩;refine ⟨_,rfl,_,rfl,_,rfl,b,_,_,_,rfl,rfl,hb.keep s2,rfl,_,rfl,_,_,.cons (g1.keep s2) (.cons hyv .nil),⟨_,_,rfl,bd.sm (by decide),rb.y.sm (by decide),rfl⟩,λ v1 G1 w1 hv1=>?_⟩
    refine ⟨_,_,.cons hv1 .nil,⟨_,rfl,rfl⟩,λ v2 G2 w2 hv2=>?_⟩
    refine ⟨_,_,.cons (huv.keep (w1.trans w2)) (.cons hv2 .nil),⟨_,_,rfl,rb.u.sm (by decide),(M4 (bd.mul rb.y)).sm (by decide),rfl⟩,λ v3 G3 w3 hv3=>?_⟩
    have w13:=w1.trans (w2.trans w3);have hv3:DV K G3 v3 (Af (r.2+-(d * r.1))):=hv3;rw [<- Rat.sub_eq_add_neg] at hv3;refine ⟨(by show 2<=sizeLine;decide),λ pz hpz=>?_⟩
    have wz:=Ah hpz (.tup [yv,v3]);refine nx (Cq hj) ⟨_,_,rfl,s2.trans (w13.trans wz),?_⟩;rw [jt,List.map_append,List.map_append];refine (hzs.keep (w13.trans wz)).append (.cons ?_ .nil);exact DV.upd2 hpz (hyv.keep w13) hv3
   rintro σ zs G lz ⟨c0,c1,rfl,sz,hzs⟩ hlz
   obtain ⟨z1,z2,rfl,hz1,hz2⟩:=DVs.two (show DVs K G zs [Ax ((Pc.glass d).bent hh),Ax ((Pc.glass d).bent ss)] from hzs)
   have uz:=Ah hlz (.lst [z1,z2]);have tz:=sz.trans uz;exact ⟨lz,z1,z2,ys,_,rfl,s'.trans tz,Aq,hz1.keep uz,hz2.keep uz,tz _ _ hlf',(λ e=>by rw [e] at hlz;rw [sz _ _ hlf'] at hlz;cases hlz),by rw [show ht1 (some (Pc.glass d)) hh ss=[] from rfl,List.append_nil];exact hys.keep tz⟩
  | some (.stop lo hi'),em,hy=>
   obtain ⟨b,x0,x1,x2,rfl,hb,g0,g1,g2⟩:=DV.t3 (show DV K H' y (.tuple [.str "stop",Af lo,Af hi']) from hy)
   obtain rfl:=DV.str_of g0;refine ⟨_,rfl,b,_,_,_,rfl,rfl,hb,CQ,rfl,_,rfl,Bf (by decide) ?_⟩
   refine ⟨_,rfl,b,_,_,_,rfl,rfl,hb,CQ,rfl,_,rfl,Bf (by decide) ?_⟩
   obtain ⟨p1,y1,w1,rfl,hp1,hy1,_⟩:=DV.t2 (show DV K H' r1 (.tuple [Af hh.1,Af hh.2]) from hr1)
   obtain ⟨p2,y2,w2,rfl,hp2,hy2,_⟩:=DV.t2 (show DV K H' r2 (.tuple [Af ss.1,Af ss.2]) from hr2)
   refine ⟨_,rfl,.inl ⟨rfl,_,SqL.of hlf'⟩,_,rfl,lr,_,_,_,rfl,rfl,SqL.of hlr,CQ,p1,_,_,_,rfl,rfl,hp1,CQ,?_⟩;refine ⟨_,rfl,lr,_,_,_,rfl,rfl,SqL.of hlr,rfl,p2,_,_,_,rfl,rfl,hp2,CQ,(by show 2<=sizeLine;decide),λ pz hpz=>?_⟩
   have wz:=Ah hpz (.tup [y1,y2]);have dz:DV K (upd H' pz (.tup [y1,y2])) (.ref pz) (pairD hh.1 ss.1):=DV.upd2 hpz hy1 hy2;have hysl:ys.length<=62:=by
    have h1:=hys.len;rw [List.length_map] at h1;omega
   refine ⟨lf,ys,_,rfl,rfl,wz _ _ hlf',small1000 (by omega),?_⟩
   have hlfz:=wz _ _ hlf';have hlrz:=wz _ _ hlr;have hr1:=hr1.keep wz;have hr2:=hr2.keep wz;have hys:=hys.keep wz;have s':=s'.trans wz;generalize upd H' pz (.tup [y1,y2])=Hz at dz hlfz hlrz hr1 hr2 hys s' ⊢;refine ⟨lr,.ref p1,.ref p2,ys++[.ref pz],_,rfl,λ b o e=>by rw [Av (Bm e n8)];exact s' _ _ e,by rw [Av nlr];exact hlrz,Fq (Ej hlfz _) (Eb _) hr1,Fq (Ej hlfz _) (Eb _) hr2,Aq,nlr,?_⟩
   rw [List.map_append];refine DG (Ej hlfz _) ?_ (hys.append (.cons dz .nil));rw [<- List.map_append];exact DY (λ _=>rfl) _
  | none,em,hy=>
   obtain ⟨b,ws,rfl,hb,g⟩:=DV.tup_of (show DV K H' y (.tuple [.str "stop"]) from hy)
   obtain ⟨x0,rfl,g0⟩:=g.one;obtain rfl:=DV.str_of g0;refine ⟨_,rfl,b,_,_,_,rfl,rfl,hb,CQ,rfl,_,rfl,Bf (by decide) ?_⟩
   refine ⟨_,rfl,b,_,_,_,rfl,rfl,hb,CQ,rfl,_,rfl,Bf (by decide) ?_⟩
   obtain ⟨p1,y1,w1,rfl,hp1,hy1,_⟩:=DV.t2 (show DV K H' r1 (.tuple [Af hh.1,Af hh.2]) from hr1)
   obtain ⟨p2,y2,w2,rfl,hp2,hy2,_⟩:=DV.t2 (show DV K H' r2 (.tuple [Af ss.1,Af ss.2]) from hr2)
   refine ⟨_,rfl,.inl ⟨rfl,_,SqL.of hlf'⟩,_,rfl,lr,_,_,_,rfl,rfl,SqL.of hlr,CQ,p1,_,_,_,rfl,rfl,hp1,CQ,?_⟩;refine ⟨_,rfl,lr,_,_,_,rfl,rfl,SqL.of hlr,rfl,p2,_,_,_,rfl,rfl,hp2,CQ,(by show 2<=sizeLine;decide),λ pz hpz=>?_⟩
   have wz:=Ah hpz (.tup [y1,y2]);have dz:DV K (upd H' pz (.tup [y1,y2])) (.ref pz) (pairD hh.1 ss.1):=DV.upd2 hpz hy1 hy2;have hysl:ys.length<=62:=by
    have h1:=hys.len;rw [List.length_map] at h1;omega
   refine ⟨lf,ys,_,rfl,rfl,wz _ _ hlf',small1000 (by omega),?_⟩
   have hlfz:=wz _ _ hlf';have hlrz:=wz _ _ hlr;have hr1:=hr1.keep wz;have hr2:=hr2.keep wz;have hys:=hys.keep wz;have s':=s'.trans wz;generalize upd H' pz (.tup [y1,y2])=Hz at dz hlfz hlrz hr1 hr2 hys s' ⊢;refine ⟨lr,.ref p1,.ref p2,ys++[.ref pz],_,rfl,λ b o e=>by rw [Av (Bm e n8)];exact s' _ _ e,by rw [Av nlr];exact hlrz,Fq (Ej hlfz _) (Eb _) hr1,Fq (Ej hlfz _) (Eb _) hr2,Aq,nlr,?_⟩
   rw [List.map_append];refine DG (Ej hlfz _) ?_ (hys.append (.cons dz .nil));rw [<- List.map_append];exact DY (λ _=>rfl) _
 ·rintro σ H' ⟨lr,r1,r2,ys,c3,rfl,s',hlr,hr1,hr2,hlf',nlr,hys⟩
  rw [hxl,List.take_length] at hys;exact ⟨_,rfl,q lf H' ys s' n8 hlf' hys⟩
end
end K84
namespace K84
open PySem L2 Lib Fr Op Tx
seal PE PT PW PA PS PSs PG PGs PI PO CZ
section
variable {P:Program}{w:World}{K:FrG}{mg:Str->Option Value}{base:Heap}{ad:Adr}{c:Bool}
theorem qL (T:Txt K mg ad):CalB P w K mg base true 8 "_law_good" ["_law_bench_here","_law_box","_law_corners","_law_ray_here"] (uF K):=by
 have N8:=Yt (P:=P) (w:=w) (base:=base) T;have jP:=gK (P:=P) (w:=w) (base:=base) T;have Kq:=Tr (P:=P) (w:=w) (base:=base) T;refine T.Ur.calN Z9 (λ _ _ _ _ _ _=>by4 λ _ _ _ _=>rfl) (λ vs H Q E h=>?_) (λ f cdv A outer s H vs Q E hr h=>?_)
 ·obtain ⟨_,_,_,_,_,_,_,_,_,rfl,_⟩:=h;rfl
 obtain ⟨bv,xv,cv,rv,g,p,S,x,r,rfl,hb,hx,hc,hr',b84,xo,xb,rb,q⟩:=h;have fo:=b84.fo xo xb;have gd:=b84.good;have hl:=b84.len;have hfl:=cY fo;have ry:=rb.y.sm (show 200<=4000 by decide)
 have ru:=rb.u.sm (show 200<=4000 by decide)
 obtain ⟨xa,x1,x2,x3,x4,rfl,hxa,h1,h2,h3,h4⟩:=DV.t4b hx;obtain ⟨ra,y,u,rfl,hra,hy,hu⟩:=DV.t2 (show DV K H rv (.tuple [Af r.1,Af r.2]) from hr')
 refine ⟨_,(Al (Aw (i:=4) Z9.nd rfl (Or.inl rfl) (Ed (Aj N8 (hr.mono (by decide)) Ai (Ar (Ag Am (pv 1) Ac (λ _ _=>rfl)) (Ar (Ag Am (pv 3) Ac (λ _ _=>rfl)) (Ar (Ag Am (pv 1) Ac (λ _ _=>rfl)) Ab)))) (Em (Aj N8 (hr.mono (by decide)) Ai (Ar (Ag Am (pv 1) Ac (λ _ _=>rfl)) (Ar (Ag Am (pv 3) Ac (λ _ _=>rfl)) (Ar (Ag Am (pv 1) Ac (λ _ _=>rfl)) Ab))))))) (Ao (Az (Eg DX (Aj jP (hr.mono (by decide)) Ai (Ad (pv 2) (Ad (pv 3) Ab))) (Ed (pv 4) (Em (Aj Kq (hr.mono (by decide)) Ai (Ad (pv 0) (Ad (pv 3) Ab))))) (nomark _))))),?_⟩
 refine ⟨_,rfl,xa,_,_,_,rfl,rfl,hxa,rfl,_,rfl,ra,_,_,_,rfl,rfl,hra,rfl,_,rfl,xa,_,_,_,rfl,rfl,hxa,rfl,_,_,.cons h1 (.cons hy (.cons h2 .nil)),⟨_,_,_,rfl,xb.a.sm (by decide),ry,xb.b.sm (by decide),rfl⟩,λ v1 H1 s1 hv1=>?_⟩
 obtain rfl:=hv1.bl_of;refine ⟨_,rfl,?_⟩;cases c1:Hg x.a r.1 x.b with
 | false=>
  refine iteF ?_;have t:=s1;refine ⟨_,rfl,_,rfl,_,_,.cons (hc.keep t) (.cons (hr'.keep t) .nil),⟨_,r,21,200,rfl,fo.poly.rn,⟨rb.y,rb.u⟩,by decide,by omega,rfl⟩,λ wv H3 s3 hwv=>?_⟩
  obtain rfl:=hwv.bl_of;rw [O2 fo r,TY];refine ⟨_,rfl,_,rfl,iteF ⟨rfl,?_⟩⟩;rw [c1];exact q _ (t.trans s3)
 | true=>
  refine iteT ?_;refine ⟨_,rfl,xa,_,_,_,rfl,rfl,hxa.keep s1,rfl,_,rfl,ra,_,_,_,rfl,rfl,hra.keep s1,rfl,_,rfl,xa,_,_,_,rfl,rfl,hxa.keep s1,rfl,_,_,.cons (h3.keep s1) (.cons (hu.keep s1) (.cons (h4.keep s1) .nil)),⟨_,_,_,rfl,xb.c.sm (by decide),ru,xb.d.sm (by decide),rfl⟩,λ v2 H2 s2 hv2=>?_⟩
  obtain rfl:=hv2.bl_of;have t:=s1.trans s2;cases c2:Hg x.c r.2 x.d with
  | false=>
   refine ⟨_,rfl,_,rfl,_,_,.cons (hc.keep t) (.cons (hr'.keep t) .nil),⟨_,r,21,200,rfl,fo.poly.rn,⟨rb.y,rb.u⟩,by decide,by omega,rfl⟩,λ wv H3 s3 hwv=>?_⟩
   obtain rfl:=hwv.bl_of;rw [O2 fo r,TY];refine ⟨_,rfl,_,rfl,iteF ⟨rfl,?_⟩⟩;rw [c1,c2];exact q _ (t.trans s3)
  | true=>
   refine ⟨_,rfl,_,rfl,_,_,.cons (hc.keep t) (.cons (hr'.keep t) .nil),⟨_,r,21,200,rfl,fo.poly.rn,⟨rb.y,rb.u⟩,by decide,by omega,rfl⟩,λ wv H3 s3 hwv=>?_⟩
   obtain rfl:=hwv.bl_of;rw [O2 fo r,TY];refine ⟨_,rfl,_,rfl,iteT ?_⟩;have t3:=t.trans s3;refine ⟨_,rfl,_,rfl,_,_,.cons (hb.keep t3) (.cons (hr'.keep t3) .nil),⟨_,r,200,6,rfl,gd,rb,by omega,rfl⟩,λ gv H4 s4 hgv=>?_⟩
   obtain rfl:=hgv.bl_of;refine ⟨rfl,?_⟩;rw [c1,c2];have e:decide (V.bl (true && true && (walk (BZ g p S) r).2.isNone)=V.bl (walk (BZ g p S) r).2.isNone)=true:=decide_eq_true rfl;rw [e];exact q _ (t3.trans s4)
theorem jM (T:Txt K mg ad):CalB P w K mg base true 5 "_law_ray" ["_law_corners","_law_box","_law_cell"] (mW K):=by
 have JH:=Qu (P:=P) (w:=w) (base:=base) T;have Ef:=KN (P:=P) (w:=w) (base:=base) T;have FZ:=Tv (P:=P) (w:=w) (base:=base) T;have Fw:=R7 (P:=P) (w:=w) (base:=base) T;have Q8:=Y4 (P:=P) (w:=w) (base:=base) T;refine T.RD.calN JP (λ _ _ _ _ _ _=>Ij λ _ _ _=>rfl) (λ vs H Q E h=>?_) (λ f cdv A outer s H vs Q E hr h=>?_)
 ·obtain ⟨_,_,_,_,_,rfl,_⟩:=h;rfl
 obtain ⟨cv,xv,z,cs,x,rfl,hc,hx,cb,cl,xb,q⟩:=h;have lim7:∀b:Int,b.natAbs < 2 ^ 7->b.natAbs < lim:=λ b h=>Nat.lt_of_lt_of_le h (by unfold lim;exact EY (by decide))
 have p7:(2:Nat) ^ 7=128:=by decide
 obtain ⟨xa,x1,x2,x3,x4,rfl,hxa,h1,h2,h3,h4⟩:=DV.t4b hx;obtain ⟨lc,rs,rfl,hlc,hrs⟩:=DV.lst_of hc;have hrl:rs.length=cs.length:=by have:=hrs.len;rw [List.length_map] at this;exact this
 refine ⟨_,(Al (Be (PW.pt (pw_or (Bo (Uk hr.units) (pv 0) (Cg Ab) (nomark _)) (pw_or1 (Bo DX (Ay Cu (pv 2) Ac) Ac (nomark _))))) (Al (Aw (i:=3) JP.nd rfl (by first | exact Or.inl rfl | exact Or.inr rfl) (Aj Ef (hr.mono (by decide)) Ai (Bu (Ay Cu (Ay Eo (Aj JH (hr.mono (by decide)) Ai (Ad (pv 2) (BJ Ac Ab))) Ac) Ac) (BJ Ac Ab)))) (Al (Aw (i:=4) JP.nd rfl (Or.inl rfl) (Aj Ef (hr.mono (by decide)) Ai (Bu (Ay Cu (Ay Eo (Aj JH (hr.mono (by decide)) Ai (Ad (pv 2) (BJ Ac Ab))) Ac) Ac) (BJ Ac Ab)))) (Ao (Az (BK (BX (Aj FZ (hr.mono (by decide)) Ai (Ar (Ag Am (pv 1) Ac (λ _ _=>rfl)) (BX (Aj Fw (hr.mono (by decide)) Ai (Ad (pv 3) (Bb (BK (LR (Jv Ju Ac) (BJ Ac Ab))) Ab))) Ab))) (BX (Aj FZ (hr.mono (by decide)) Ai (Ar (Ag Am (pv 1) Ac (λ _ _=>rfl)) (BX (Aj Fw (hr.mono (by decide)) Ai (Ad (pv 4) (Bb (BK (LR (Jv Ju Ac) (BJ Ac Ab))) Ab))) Ab))) Ab))))))) Bj) (Al (Aw (i:=5) JP.nd rfl (Or.inl rfl) (Ag CV (pv 0) (Ay Cu (Ay Eo (pv 2) Ac) (CP Ea rfl T.len Dq (Ad (pv 0) Ab))) (λ _ _=>rfl))) (Al (Aw (i:=6) JP.nd rfl (Or.inl rfl) (Ag CV (pv 0) (Ay Cu (Ay Eo (pv 2) Ac) (CP Ea rfl T.len Dq (Ad (pv 0) Ab))) (λ _ _=>rfl))) (Al (Aw (i:=3) JP.nd rfl (by first | exact Or.inl rfl | exact Or.inr rfl) (Aj Ef (hr.mono (by decide)) Ai (Bu (Ay Ec (Ay Cu (Ay Eo (Aj JH (hr.mono (by decide)) Ai (Ad (pv 2) (BJ Ac Ab))) Ac) Ac) Ac) (BJ Ac Ab)))) (Al (Aw (i:=7) JP.nd rfl (by first | exact Or.inl rfl | exact Or.inr rfl) (Aj Fw (hr.mono (by decide)) Ai (Bb (BK (BJ Ac (BJ Ac Ab))) (BX (Aj Q8 (hr.mono (by decide)) Ai (Ad (pv 3) Ab)) Ab)))) (Ao (Az (Rq wD rfl T.tuple Ox (Dn (lZ ["_law_a","_law_b","_law_share","_law_rest"] [none,none,some 3,some 7] rfl (gb rfl T.zip (Ad (pv 5) (Ad (pv 6) Ab))) (λ _ _ _ _ _ _=>(Li (K:=K) (n:=2) rfl (Ci (Bq (i:=0) (show List.Nodup [("_law_a":Str),("_law_b":Str),("_law_share":Str),("_law_rest":Str)] by decide) rfl (by first | exact Or.inl rfl | exact Or.inr rfl)) (Ci (Bq (i:=1) (show List.Nodup [("_law_a":Str),("_law_b":Str),("_law_share":Str),("_law_rest":Str)] by decide) rfl (by first | exact Or.inl rfl | exact Or.inr rfl)) Eu)))) (λ _ _ _ _ _ _=>Gy) (λ _ _ _ _ _ _=>(Aj Fw (hr.mono (by decide)) Ai (BX (Aj FZ (hr.mono (by decide)) Ai (Ad (pv 2) (Ad (pv 0) Ab))) (BX (Aj FZ (hr.mono (by decide)) Ai (Ad (pv 3) (Ad (pv 1) Ab))) Ab)))) (JX (hcell:=by decide) (hf:=(show ∀y:Str×NameKind,y∈_->y.2=NameKind.free->(defScope Mp).names.lookup y.1=some NameKind.cell by decide))) (by decide) rfl (by decide) rfl (λ i j h=>by
   rcases i with _ | _ | _ | _ | i
   ·simp at h
   ·simp at h
   ·simp at h;subst h;exact ⟨_,rfl,rfl,rfl,rfl⟩
   ·simp at h;subst h;exact ⟨_,rfl,rfl,rfl,rfl⟩
   ·simp at h)) Ab))))))))),?_⟩
 refine ⟨_,rfl,(by show 0<=sizeLine;decide),λ p0 hp0=>?_⟩
 have t:=Ah hp0 (.lst []);refine j8 (hc.keep t) (.lst (SqL.of Aq) .nil) (Ni (U4 Ia cs)) ⟨_,rfl,?_⟩;generalize upd H p0 (.lst [])=G at t ⊢;cases cs with
 | nil=>
  refine iteT (iteT ?_);refine ⟨_,rfl,z,31541,rfl,by decide,by decide,λ y1 y10 y11=>⟨_,_,rfl,rfl,⟨by decide,by decide⟩,_,_,rfl,rfl,(by show (0:Int) < 9;decide),?_⟩⟩
  have m1:0<=y1 / 64 % 9/\y1 / 64 % 9 < 9:=by omega
  dsimp only
  generalize y1 / 64 % 9=w1 at m1 ⊢;refine ⟨_,_,rfl,by decide,lim7 8 (by decide),λ p1 hp1=>?_⟩
  have u1:=Ah hp1 (.tup [.int (Fr.lt w1 8),.int (Fr.lb w1 8)]);have d1:DV K (upd G p1 (.tup [.int (Fr.lt w1 8),.int (Fr.lb w1 8)])) (.ref p1) (Af (Rat.divInt w1 8)):=Do (H:=G) (by decide)
  have b1:Bd 7 (Rat.divInt w1 8):=Bd.of (by decide) (by omega) (by decide)
  generalize Rat.divInt w1 8=s1 at d1 b1;generalize upd G p1 (.tup [.int (Fr.lt w1 8),.int (Fr.lb w1 8)])=G1 at u1 d1 ⊢;refine ⟨_,rfl,z,44621,rfl,by decide,by decide,λ y2 y20 y21=>⟨_,_,rfl,rfl,⟨by decide,by decide⟩,_,_,rfl,rfl,(by show (0:Int) < 9;decide),?_⟩⟩
  have m2:0<=y2 / 64 % 9/\y2 / 64 % 9 < 9:=by omega
  dsimp only
  generalize y2 / 64 % 9=w2 at m2 ⊢;refine ⟨_,_,rfl,by decide,lim7 8 (by decide),λ p2 hp2=>?_⟩
  have u2:=Ah hp2 (.tup [.int (Fr.lt w2 8),.int (Fr.lb w2 8)]);have d2:DV K (upd G1 p2 (.tup [.int (Fr.lt w2 8),.int (Fr.lb w2 8)])) (.ref p2) (Af (Rat.divInt w2 8)):=Do (H:=G1) (by decide)
  have b2:Bd 7 (Rat.divInt w2 8):=Bd.of (by decide) (by omega) (by decide)
  generalize Rat.divInt w2 8=s2 at d2 b2;generalize upd G1 p2 (.tup [.int (Fr.lt w2 8),.int (Fr.lb w2 8)])=G2 at u2 d2 ⊢;have t2:=t.trans (u1.trans u2);have bh:Bd 2 (-1 / 2:Rat):=⟨by decide+kernel,by decide+kernel⟩
  refine ⟨_,rfl,xa,_,_,_,rfl,rfl,hxa.keep t2,rfl,_,rfl,_,rfl,(by show 2<=sizeLine;decide),λ p3 hp3=>?_⟩
  have u3:=Ah hp3 (.tup [.int (-1),.int 2]);have d3:DV K (upd G2 p3 (.tup [.int (-1),.int 2])) (.ref p3) (Af (-1 / 2)):=Cj (by decide+kernel) (by decide+kernel)
  generalize upd G2 p3 (.tup [.int (-1),.int 2])=G3 at u3 d3 ⊢;refine ⟨_,_,.cons (d1.keep (u2.trans u3)) (.cons d3 .nil),⟨_,_,rfl,b1.sm (by decide),bh.sm (by decide),rfl⟩,λ v4 G4 s4 hv4=>?_⟩
  have c1:=b1.add bh;refine ⟨_,_,.cons (h2.keep (t2.trans (u3.trans s4))) (.cons hv4 .nil),⟨_,_,rfl,xb.b.sm (by decide),c1.sm (by decide),rfl⟩,λ v5 G5 s5 hv5=>?_⟩
  have t5:=t2.trans (u3.trans (s4.trans s5));refine ⟨_,rfl,xa,_,_,_,rfl,rfl,hxa.keep t5,rfl,_,rfl,_,rfl,(by show 2<=sizeLine;decide),λ p6 hp6=>?_⟩
  have u6:=Ah hp6 (.tup [.int (-1),.int 2]);have d6:DV K (upd G5 p6 (.tup [.int (-1),.int 2])) (.ref p6) (Af (-1 / 2)):=Cj (by decide+kernel) (by decide+kernel)
  generalize upd G5 p6 (.tup [.int (-1),.int 2])=G6 at u6 d6 ⊢;refine ⟨_,_,.cons (d2.keep (u3.trans (s4.trans (s5.trans u6)))) (.cons d6 .nil),⟨_,_,rfl,b2.sm (by decide),bh.sm (by decide),rfl⟩,λ v7 G7 s7 hv7=>?_⟩
  have c2:=b2.add bh;refine ⟨_,_,.cons (h4.keep (t5.trans (u6.trans s7))) (.cons hv7 .nil),⟨_,_,rfl,xb.d.sm (by decide),c2.sm (by decide),rfl⟩,λ v8 G8 s8 hv8=>?_⟩
  refine ⟨(by show 2<=sizeLine;decide),λ pr hpr=>?_⟩
  have ur:=Ah hpr (.tup [v5,v8]);have t8:=u6.trans (s7.trans s8);refine q _ _ (x.b * (s1+-1 / 2),x.d * (s2+-1 / 2)) (t5.trans (t8.trans ur)) (DV.upd2 hpr (hv5.keep t8) hv8) (Rb.mono (Rb.of (n:=100) ((xb.b.mul c1).mono (by decide)) ((xb.d.mul c2).mono (by decide))) (by decide))
 | cons c0 cs=>
 refine iteF ?_;refine ⟨_,rfl,_,_,rfl,rfl,(by show (0:Int) < 4;decide),rfl,_,rfl,?_⟩
 refine ite2 (λ _=>?_) (λ _=>?_)
 ·skip
  refine ⟨_,rfl,z,31541,rfl,by decide,by decide,λ y1 y10 y11=>⟨_,_,rfl,rfl,⟨by decide,by decide⟩,_,_,rfl,rfl,(by show (0:Int) < 9;decide),?_⟩⟩
  have m1:0<=y1 / 64 % 9/\y1 / 64 % 9 < 9:=by omega
  dsimp only
  generalize y1 / 64 % 9=w1 at m1 ⊢;refine ⟨_,_,rfl,by decide,lim7 8 (by decide),λ p1 hp1=>?_⟩
  have u1:=Ah hp1 (.tup [.int (Fr.lt w1 8),.int (Fr.lb w1 8)]);have d1:DV K (upd G p1 (.tup [.int (Fr.lt w1 8),.int (Fr.lb w1 8)])) (.ref p1) (Af (Rat.divInt w1 8)):=Do (H:=G) (by decide)
  have b1:Bd 7 (Rat.divInt w1 8):=Bd.of (by decide) (by omega) (by decide)
  generalize Rat.divInt w1 8=s1 at d1 b1;generalize upd G p1 (.tup [.int (Fr.lt w1 8),.int (Fr.lb w1 8)])=G1 at u1 d1 ⊢;refine ⟨_,rfl,z,44621,rfl,by decide,by decide,λ y2 y20 y21=>⟨_,_,rfl,rfl,⟨by decide,by decide⟩,_,_,rfl,rfl,(by show (0:Int) < 9;decide),?_⟩⟩
  have m2:0<=y2 / 64 % 9/\y2 / 64 % 9 < 9:=by omega
  dsimp only
  generalize y2 / 64 % 9=w2 at m2 ⊢;refine ⟨_,_,rfl,by decide,lim7 8 (by decide),λ p2 hp2=>?_⟩
  have u2:=Ah hp2 (.tup [.int (Fr.lt w2 8),.int (Fr.lb w2 8)]);have d2:DV K (upd G1 p2 (.tup [.int (Fr.lt w2 8),.int (Fr.lb w2 8)])) (.ref p2) (Af (Rat.divInt w2 8)):=Do (H:=G1) (by decide)
  have b2:Bd 7 (Rat.divInt w2 8):=Bd.of (by decide) (by omega) (by decide)
  generalize Rat.divInt w2 8=s2 at d2 b2;generalize upd G1 p2 (.tup [.int (Fr.lt w2 8),.int (Fr.lb w2 8)])=G2 at u2 d2 ⊢;have t2:=t.trans (u1.trans u2);have bh:Bd 2 (-1 / 2:Rat):=⟨by decide+kernel,by decide+kernel⟩
  refine ⟨_,rfl,xa,_,_,_,rfl,rfl,hxa.keep t2,rfl,_,rfl,_,rfl,(by show 2<=sizeLine;decide),λ p3 hp3=>?_⟩
  have u3:=Ah hp3 (.tup [.int (-1),.int 2]);have d3:DV K (upd G2 p3 (.tup [.int (-1),.int 2])) (.ref p3) (Af (-1 / 2)):=Cj (by decide+kernel) (by decide+kernel)
  generalize upd G2 p3 (.tup [.int (-1),.int 2])=G3 at u3 d3 ⊢;refine ⟨_,_,.cons (d1.keep (u2.trans u3)) (.cons d3 .nil),⟨_,_,rfl,b1.sm (by decide),bh.sm (by decide),rfl⟩,λ v4 G4 s4 hv4=>?_⟩
  have c1:=b1.add bh;refine ⟨_,_,.cons (h2.keep (t2.trans (u3.trans s4))) (.cons hv4 .nil),⟨_,_,rfl,xb.b.sm (by decide),c1.sm (by decide),rfl⟩,λ v5 G5 s5 hv5=>?_⟩
  have t5:=t2.trans (u3.trans (s4.trans s5));refine ⟨_,rfl,xa,_,_,_,rfl,rfl,hxa.keep t5,rfl,_,rfl,_,rfl,(by show 2<=sizeLine;decide),λ p6 hp6=>?_⟩
  have u6:=Ah hp6 (.tup [.int (-1),.int 2]);have d6:DV K (upd G5 p6 (.tup [.int (-1),.int 2])) (.ref p6) (Af (-1 / 2)):=Cj (by decide+kernel) (by decide+kernel)
  generalize upd G5 p6 (.tup [.int (-1),.int 2])=G6 at u6 d6 ⊢;refine ⟨_,_,.cons (d2.keep (u3.trans (s4.trans (s5.trans u6)))) (.cons d6 .nil),⟨_,_,rfl,b2.sm (by decide),bh.sm (by decide),rfl⟩,λ v7 G7 s7 hv7=>?_⟩
  have c2:=b2.add bh;refine ⟨_,_,.cons (h4.keep (t5.trans (u6.trans s7))) (.cons hv7 .nil),⟨_,_,rfl,xb.d.sm (by decide),c2.sm (by decide),rfl⟩,λ v8 G8 s8 hv8=>?_⟩
  refine ⟨(by show 2<=sizeLine;decide),λ pr hpr=>?_⟩
  have ur:=Ah hpr (.tup [v5,v8]);have t8:=u6.trans (s7.trans s8);refine q _ _ (x.b * (s1+-1 / 2),x.d * (s2+-1 / 2)) (t5.trans (t8.trans ur)) (DV.upd2 hpr (hv5.keep t8) hv8) (Rb.mono (Rb.of (n:=100) ((xb.b.mul c1).mono (by decide)) ((xb.d.mul c2).mono (by decide))) (by decide))
 have npos:(0:Int) < ((rs.length:Nat):Int):=by rw [hrl,List.length_cons];omega
 have pick:∀k:Int,∃v,atI rs (k % ((rs.length:Nat):Int))=some v/\∃cc∈c0::cs,DV K H v (Ax cc):=λ k=>by
  obtain ⟨v,hv,hm⟩:=Uw (xs:=rs) (r:=k % ((rs.length:Nat):Int)) (Int.emod_nonneg _ (by omega)) (Int.emod_lt_of_pos _ npos)
  obtain ⟨i,hi⟩:=List.mem_iff_getElem?.mp hm;obtain ⟨d,hd,hvd⟩:=hrs.get hi;obtain ⟨cc,hcc,rfl⟩:=Io hd;exact ⟨v,hv,cc,List.mem_of_getElem? hcc,hvd⟩
 obtain ⟨v1,hv1,k1,hk1,dk1⟩:=pick (z / 4);obtain ⟨v2,hv2,k2,hk2,dk2⟩:=pick (z / 40);have bk1:=cb k1 hk1;have bk2:=cb k2 hk2;have hlcG:=hlc.keep t;refine ⟨_,rfl,_,rfl,_,_,rfl,rfl,⟨by decide,by decide⟩,_,rfl,lc,rs,rfl,.inl hlcG,_,_,rfl,rfl,npos,lc,_,_,v1,rfl,rfl,hlcG,hv1,?_⟩
 refine ⟨_,rfl,_,rfl,_,_,rfl,rfl,⟨by decide,by decide⟩,_,rfl,lc,rs,rfl,.inl hlcG,_,_,rfl,rfl,npos,lc,_,_,v2,rfl,rfl,hlcG,hv2,?_⟩
 refine ⟨_,rfl,z,52501,rfl,by decide,by decide,λ y1 y10 y11=>⟨_,_,rfl,rfl,⟨by decide,by decide⟩,_,_,rfl,rfl,(by show (0:Int) < 13;decide),_,_,rfl,rfl,?_⟩⟩
 have m1:-2<=y1 / 64 % 13 - 2/\y1 / 64 % 13 - 2 < 11:=by omega
 dsimp only
 generalize y1 / 64 % 13 - 2=w1 at m1 ⊢;refine ⟨_,_,rfl,by decide,lim7 9 (by decide),λ p1 hp1=>?_⟩
 have u1:=Ah hp1 (.tup [.int (Fr.lt w1 9),.int (Fr.lb w1 9)]);have d1:DV K (upd G p1 (.tup [.int (Fr.lt w1 9),.int (Fr.lb w1 9)])) (.ref p1) (Af (Rat.divInt w1 9)):=Do (H:=G) (by decide)
 have b1:Bd 7 (Rat.divInt w1 9):=Bd.of (by decide) (by omega) (by decide)
 generalize Rat.divInt w1 9=s1 at d1 b1;generalize upd G p1 (.tup [.int (Fr.lt w1 9),.int (Fr.lb w1 9)])=G1 at u1 d1 ⊢;refine ⟨(by show 2<=sizeLine;decide),λ p2 hp2=>?_⟩
 have u2:=Ah hp2 (.tup [.int 1,.int 1]);have d2:DV K (upd G1 p2 (.tup [.int 1,.int 1])) (.ref p2) (Af 1):=Cj (by decide+kernel) (by decide+kernel)
 generalize upd G1 p2 (.tup [.int 1,.int 1])=G2 at u2 d2 ⊢;refine ⟨_,rfl,_,_,.cons (d1.keep u2) .nil,⟨_,rfl,rfl⟩,λ v3 G3 s3 hv3=>?_⟩
 refine ⟨_,_,.cons (d2.keep s3) (.cons hv3 .nil),⟨_,_,rfl,bd_p1.sm (by decide),(M4 b1).sm (by decide),rfl⟩,λ v4 G4 s4 hv4=>?_⟩
 have b4:Bd 10 (1+-s1):=(bd_p1.add (M4 b1)).mono (by decide)
 have hv4:DV K G4 v4 (Af (1+-s1)):=hv4;generalize 1+-s1=s4' at hv4 b4;have t4:=t.trans (u1.trans (u2.trans (s3.trans s4)));have ds:=d1.keep (u2.trans (s3.trans s4));obtain ⟨a1,y1',u1',rfl,ha1,hy1,hu1⟩:=DV.t2 (show DV K G4 v1 (.tuple [Af k1.1,Af k1.2]) from dk1.keep t4)
 obtain ⟨a2,y2',u2',rfl,ha2,hy2,hu2⟩:=DV.t2 (show DV K G4 v2 (.tuple [Af k2.1,Af k2.2]) from dk2.keep t4)
 refine ⟨_,rfl,_,rfl,a1,a2,rfl,⟨_,ha1⟩,⟨_,ha2⟩,?_⟩;refine iR (K:=K) (a:=a1) (b:=a2) (xs:=[y1',u1']) (zs:=[y2',u2']) (λ i σ ys H'=>∃(e0 e1:Option V),σ=[e0,e1,some (.ref p1),some v4]/\Same G4 H'/\DVs K H' ys (([s1 * k1.1+s4' * k2.1,s1 * k1.2+s4' * k2.2].take i).map Af)) (Nat.le_refl _) ⟨_,_,rfl,Same.refl _,.nil⟩ ?_ ?_ ?_
 ·rintro i σ ys H' hi ⟨e0,e1,rfl,s',hys⟩
  refine ⟨?_,ha1.keep s',ha2.keep s'⟩;have:=hys.len;rw [List.length_map,List.length_take] at this;exact Nat.le_of_lt (small1000 (by simp only [List.length_cons,List.length_nil] at this;omega))
 ·rintro i xx yy σ ys H' pz hi hj ⟨e0,e1,rfl,s',hys⟩ hpz
  obtain ⟨q1,q2,dq1,dq2,bq1,bq2,et⟩:∃q1 q2:Rat,DV K G4 xx (Af q1)/\DV K G4 yy (Af q2)/\Bd 21 q1/\Bd 21 q2/\([s1 * k1.1+s4' * k2.1,s1 * k1.2+s4' * k2.2].take (i+1))=([s1 * k1.1+s4' * k2.1,s1 * k1.2+s4' * k2.2].take i)++[s1 * q1+s4' * q2]:=by
   match i,hi,hj with
   | 0,hi,hj=>cases hi;cases hj;exact ⟨_,_,hy1,hy2,bk1.1,bk2.1,rfl⟩
   | 1,hi,hj=>cases hi;cases hj;exact ⟨_,_,hu1,hu2,bk1.2,bk2.2,rfl⟩
   | i+2,hi,hj=>cases hi
  have up:=Ah hpz (.tup [xx,yy]);have t1:=s'.trans up;have hys:=hys.keep up;refine ⟨pz,_,rfl,SqT.of Aq,rfl,_,_,rfl,_,_,rfl,rfl,?_⟩;generalize upd H' pz (.tup [xx,yy])=H2 at up t1 hys ⊢;refine ⟨_,rfl,_,rfl,_,_,.cons (ds.keep t1) (.cons (dq1.keep t1) .nil),⟨_,_,rfl,b1.sm (by decide),bq1.sm (by decide),rfl⟩,λ v5 H5 s5 hv5=>?_⟩
  refine ⟨_,rfl,_,rfl,_,_,.cons (hv4.keep (t1.trans s5)) (.cons (dq2.keep (t1.trans s5)) .nil),⟨_,_,rfl,b4.sm (by decide),bq2.sm (by decide),rfl⟩,λ v6 H6 s6 hv6=>?_⟩
  refine ⟨_,_,.cons (hv5.keep s6) (.cons hv6 .nil),⟨_,_,rfl,(b1.mul bq1).sm (by decide),(b4.mul bq2).sm (by decide),rfl⟩,λ v7 H7 s7 hv7=>?_⟩
  refine nx (Cq hi) ⟨_,_,rfl,t1.trans (s5.trans (s6.trans s7)),?_⟩;rw [et,List.map_append];exact (hys.keep (s5.trans (s6.trans s7))).append (.cons hv7 .nil)
 rintro σ ys H' lz ⟨e0,e1,rfl,s',hys⟩ hlz
 obtain ⟨z1,z2,rfl,hz1,hz2⟩:=DVs.two (show DVs K H' ys [Af (s1 * k1.1+s4' * k2.1),Af (s1 * k1.2+s4' * k2.2)] from hys)
 have uz:=Ah hlz (.lst [z1,z2]);refine ⟨lz,_,rfl,.inl ⟨SqL.of Aq,λ pr hpr=>?_⟩⟩
 have ur:=Ah hpr (.tup [z1,z2]);exact q _ _ (s1 * k1.1+s4' * k2.1,s1 * k1.2+s4' * k2.2) (t4.trans (s'.trans (uz.trans ur))) (.tup (SqT.of Aq) (.cons (hz1.keep (uz.trans ur)) (.cons (hz2.keep (uz.trans ur)) .nil))) (Rb.mono (Rb.of (n:=100) (((b1.mul bk1.1).add (b4.mul bk2.1)).mono (by decide)) (((b1.mul bk1.2).add (b4.mul bk2.2)).mono (by decide))) (by decide))
end
end K84
namespace K84
open PySem L2 Lib Fr Op Tx
seal PE PT PW PA PS PSs PG PGs PI PO CZ
section
variable {P:Program}{w:World}{K:FrG}{mg:Str->Option Value}{base:Heap}{ad:Adr}{c:Bool}
theorem lF (T:Txt K mg ad):CalB P w K mg base true 8 "_law_lamp_good" ["_law_bench_here","_law_lamp","_law_cell"] (oJ K):=by
 have Wr:=rP (P:=P) (w:=w) (base:=base) T;have Ef:=KN (P:=P) (w:=w) (base:=base) T;have JH:=Qu (P:=P) (w:=w) (base:=base) T;have Fw:=R7 (P:=P) (w:=w) (base:=base) T;have FZ:=Tv (P:=P) (w:=w) (base:=base) T;have Kq:=Tr (P:=P) (w:=w) (base:=base) T;have N8:=Yt (P:=P) (w:=w) (base:=base) T;have Tz:=bN (P:=P) (w:=w) (base:=base) T;have gZ:=vA (P:=P) (w:=w) (base:=base) T;have Cv:=Gq (P:=P) (w:=w) (base:=base) T;refine T.Wm.calN Fy (λ _ _ _ _ _ _=>Ij λ _ _ _=>rfl) (λ vs H Q E h=>?_) (λ f cdv A outer s H vs Q E hr h=>?_)
 ·obtain ⟨_,_,_,_,_,_,_,_,rfl,_⟩:=h;rfl
 obtain ⟨bv,lv,z,g,p,S,h,sl,rfl,hb,hlv,b84,bh,bs,q⟩:=h;have gd:=b84.good;have hl:=b84.len;have lim7:∀b:Int,b.natAbs < 2 ^ 7->b.natAbs < lim:=λ b h=>Nat.lt_of_lt_of_le h (by unfold lim;exact EY (by decide))
 have p7:(2:Nat) ^ 7=128:=by decide
 have bm2:Bd 40 (-2:Rat):=⟨by decide+kernel,by decide+kernel⟩
 have b2:Bd 40 (2:Rat):=⟨by decide+kernel,by decide+kernel⟩
 obtain ⟨la,l1,l2,rfl,hla,hh0,hs0⟩:=DV.t2 (show DV K H lv (.tuple [Af h,Af sl]) from hlv)
 obtain ⟨lb,xs,rfl,hlb,hxs⟩:=DV.lst_of hb;have xl:xs.length=(BZ g p S).length:=by have:=hxs.len;rw [List.length_map] at this;exact this
 refine ⟨_,(Al (Aw (i:=3) Fy.nd rfl (Or.inl rfl) (Aj Wr (hr.mono (by decide)) Ai (Ad (pv 0) (Ad (pv 1) (Bb (BK (LR (Jv Ju Ac) (BJ Ac Ab))) (Bb (BK (BJ Ac (BJ Ac Ab))) Ab)))))) (Al (DW PassesOwn.never rfl (cN rfl T.range (BJ Ac Ab)) (Bq (i:=4) Fy.nd rfl (by first | exact Or.inl rfl | exact Or.inr rfl)) (Al (Aw (i:=5) Fy.nd rfl (Or.inl rfl) (Aj Ef (hr.mono (by decide)) Ai (Bu (Ay Ec (Ay Cu (Ay Eo (Aj JH (hr.mono (by decide)) Ai (Bu (Ay Gi (pv 2) (pv 4)) (BJ Ac Ab))) Ac) Ac) Ac) (BJ Ac Ab)))) (Al (Be (PW.pt (pw_and (Bo Xx (pv 3) Ff (nomark _)) (pw_and1 (Bo JM (pv 4) Ac (nomark _))))) (Ao (Aw (i:=5) Fy.nd rfl (Or.inl rfl) (Ag Am (pv 3) (pv 4) (λ _ _=>rfl)))) Bj) (Al (Aw (i:=6) Fy.nd rfl (Or.inl rfl) (BK (BX (Aj Fw (hr.mono (by decide)) Ai (Ar (Ag Am (pv 1) Ac (λ _ _=>rfl)) (BX (Aj FZ (hr.mono (by decide)) Ai (Ar (Ag Am (pv 1) Ac (λ _ _=>rfl)) (Ad (pv 5) Ab))) Ab))) (Ad (pv 5) Ab)))) (Ao (Be (Bo Hb (Aj Kq (hr.mono (by decide)) Ai (Ad (pv 0) (Ad (pv 6) Ab))) (Ed (Eg Xx (pv 3) Ff (nomark _)) (Em (Aj N8 (hr.mono (by decide)) Ai (Ar (Ag Am (pv 3) Ac (λ _ _=>rfl)) (Ad (pv 5) (Ar (Ag Am (pv 3) Ac (λ _ _=>rfl)) Ab)))))) (nomark _)) (Ao (Az DN)) Bj)))))) (Al (Be (Bo La (pv 3) Ff (nomark _)) (Ao (Az DN)) Bj) (Al (Aw (i:=7) Fy.nd rfl (Or.inl rfl) (Aj Tz (hr.mono (by decide)) Ai (Bu (Ay JD (Kl ["_law_piece"] [none] rfl (Dw (pv 0)) (λ _ _ _ _ _=>(Bq (i:=0) (show List.Nodup [("_law_piece":Str)] by decide) rfl (by first | exact Or.inl rfl | exact Or.inr rfl))) (λ _ _ _ _ _=>(qP (Bo Hb (Ag (Ih (K:=K)) (pv 0) Ac (λ _ _=>rfl)) Dk (nomark _)))) (λ _ _ _ _ _=>(pv 0)) (Oo (by decide) (by decide)) (by decide) rfl (by decide) rfl (Mz rfl)) (Cg (Bb (BK (BJ Dk (Bb (BK (BJ Ac (BJ Ac Ab))) Ab))) (Bb (BK (BJ Dk Ab)) Ab)))) Ab))) (Al (N5 (Ag CV (pv 7) Ac (λ _ _=>rfl)) (HY (n:=2) rfl (Ci (Bq (i:=8) Fy.nd rfl (by first | exact Or.inl rfl | exact Or.inr rfl)) (Ci (Bq (i:=9) Fy.nd rfl (by first | exact Or.inl rfl | exact Or.inr rfl)) Eu)))) (Al (Lp (i:=10) Fy.nd rfl (by first | exact Or.inl rfl | exact Or.inr rfl) ["_law_u","_law_a","_law_b","_law_lamp"] [none,some 8,some 9,some 1] rfl (Ro (pv 3)) (λ _ _ _ _ _ _=>(Bq (i:=0) (show List.Nodup [("_law_u":Str),("_law_a":Str),("_law_b":Str),("_law_lamp":Str)] by decide) rfl (by first | exact Or.inl rfl | exact Or.inr rfl))) (λ _ _ _ _ _ _=>Gy) (λ _ _ _ _ _ _=>(Aj Fw (hr.mono (by decide)) Ai (BX (Aj FZ (hr.mono (by decide)) Ai (Ad (pv 1) (BX (Aj Fw (hr.mono (by decide)) Ai (Ar (Ag (Ih (K:=K)) (pv 3) Ac (λ _ _=>rfl)) (BX (Aj FZ (hr.mono (by decide)) Ai (Ar (Ag (Ih (K:=K)) (pv 3) Ac (λ _ _=>rfl)) (Ad (pv 0) Ab))) Ab))) Ab))) (BX (Aj FZ (hr.mono (by decide)) Ai (Ad (pv 2) (Ad (pv 0) Ab))) Ab)))) (JX (hcell:=by decide) (hf:=(show ∀y:Str×NameKind,y∈_->y.2=NameKind.free->(defScope Ml).names.lookup y.1=some NameKind.cell by decide))) (by decide) rfl (by decide) rfl (λ i j h=>by
   rcases i with _ | _ | _ | _ | i
   ·simp at h
   ·simp at h;subst h;exact ⟨_,rfl,rfl,rfl,rfl⟩
   ·simp at h;subst h;exact ⟨_,rfl,rfl,rfl,rfl⟩
   ·simp at h;subst h;exact ⟨_,rfl,rfl,rfl,rfl⟩
   ·simp at h)) (Al (Aw (i:=11) Fy.nd rfl (Or.inl rfl) (Aj gZ (hr.mono (by decide)) Ai (Ad (pv 0) (Ad (pv 1) (Ad (pv 3) (Bb (BK (BJ Ac (BJ Ac Ab))) Ab)))))) (Ao (Az (Ed (Eg (dB hr.units) (pv 11) (Cg (Bb (BK (Ar (Ag CV (pv 10) Ac (λ _ _=>rfl)) (Ar (Ag CV (pv 10) Ac (λ _ _=>rfl)) Ab))) (Bb (BK (Ar (Ag CV (pv 10) Ac (λ _ _=>rfl)) (Ar (Ag CV (pv 10) Ac (λ _ _=>rfl)) Ab))) Ab))) (by rfl)) (Em (GQ (Aj Cv (hr.mono (by decide)) Ai (Ar (Ag Am (pv 11) Ac (λ _ _=>rfl)) (Ar (Ag Am (pv 11) Ac (λ _ _=>rfl)) Ab))))))))))))))),?_⟩
 refine ⟨_,rfl,_,rfl,_,rfl,(by show 2<=sizeLine;decide),λ p1 hp1=>?_⟩
 have u1:=Ah hp1 (.tup [.int (-2),.int 1]);have d1:DV K (upd H p1 (.tup [.int (-2),.int 1])) (.ref p1) (Af (-2)):=Cj (by decide+kernel) (by decide+kernel)
 generalize upd H p1 (.tup [.int (-2),.int 1])=F1 at u1 d1 ⊢;refine ⟨(by show 2<=sizeLine;decide),λ p2 hp2=>?_⟩
 have u2:=Ah hp2 (.tup [.int 2,.int 1]);have d2:DV K (upd F1 p2 (.tup [.int 2,.int 1])) (.ref p2) (Af 2):=Cj (by decide+kernel) (by decide+kernel)
 generalize upd F1 p2 (.tup [.int 2,.int 1])=F2 at u2 d2 ⊢;have t12:=u1.trans u2;have ord:¬ (2:Rat) < -2:=by decide+kernel
 refine ⟨_,_,.cons (hb.keep t12) (.cons (hlv.keep t12) (.cons (d1.keep u2) (.cons d2 .nil))),⟨_,h,sl,-2,2,6,6,1800,rfl,gd,bh,bs,bm2.mono (by decide),b2.mono (by decide),ord,by omega,by decide,rfl⟩,λ tv H1 s1 htv=>?_⟩
 have t1:=t12.trans s1;clear u1 u2 d1 d2;have ob:=b84.sl bh bs bm2 b2;have slin:=λ f' g' e=>gY gd.ok h sl (f:=-2) (g:=2) (f':=f') (g':=g') ord e
 cases ho:Dr (Ba (BZ g p S)) h sl (-2) 2 with
 | none=>
  rw [ho] at htv;obtain rfl:=DV.non_of htv;refine ⟨5,rfl,by decide,by decide,?_⟩
  refine QW (lo:=0) (n:=Int.toNat 5) (λ i σ H'=>∃c4 c5 c6,σ=[some (.ref lb),some (.ref la),some (.int z),some .non,c4,c5,c6,none,none,none,none,none]/\Same H1 H') ⟨_,_,_,rfl,Same.refl _⟩ ?_ ?_
  ·rintro i σ H' hi ⟨c4,c5,c6,rfl,s'⟩
   refine ⟨_,rfl,_,rfl,_,_,rfl,rfl,_,55051,rfl,by decide,by decide,λ y y0 y1=>⟨_,_,rfl,rfl,⟨by decide,by decide⟩,_,_,rfl,rfl,(by show (0:Int) < 33;decide),_,_,rfl,rfl,?_⟩⟩
   have m1:-16<=y / 64 % 33 - 16/\y / 64 % 33 - 16<=16:=by omega
   dsimp only
   generalize y / 64 % 33 - 16=w1 at m1 ⊢;refine ⟨_,_,rfl,by decide,lim7 8 (by decide),λ p5 hp5=>?_⟩
   have u5:=Ah hp5 (.tup [.int (Fr.lt w1 8),.int (Fr.lb w1 8)]);have d5:DV K (upd H' p5 (.tup [.int (Fr.lt w1 8),.int (Fr.lb w1 8)])) (.ref p5) (Af (Rat.divInt w1 8)):=Do (H:=H') (by decide)
   have b5':Bd 7 (Rat.divInt w1 8):=Bd.of (by decide) (by omega) (by decide)
   have b5:Bd 40 (Rat.divInt w1 8):=b5'.mono (by decide)
   clear b5';obtain ⟨o1,o2⟩:=ZF m1.1 m1.2;generalize Rat.divInt w1 8=u0 at d5 b5 o1 o2;generalize upd H' p5 (.tup [.int (Fr.lt w1 8),.int (Fr.lb w1 8)])=G5 at u5 d5 ⊢;refine ⟨_,rfl,rfl,_,rfl,Bf (by decide) (iteF ?_)⟩
   have t:=s'.trans u5;generalize V.ref p5=v5 at d5 ⊢;obtain ⟨u,hv5,bu,u1,u2⟩:∃u:Rat,DV K G5 v5 (Af u)/\Bd 40 u/\¬ u < -2/\¬ 2 < u:=⟨u0,d5,b5,o1,o2⟩;refine ⟨_,rfl,la,_,_,_,rfl,rfl,hla.keep (t1.trans t),rfl,_,rfl,la,_,_,_,rfl,rfl,hla.keep (t1.trans t),rfl,_,rfl,_,_,.cons (hs0.keep (t1.trans t)) (.cons hv5 .nil),⟨_,_,rfl,bs.sm (by decide),bu.sm (by decide),rfl⟩,λ v6 G6 s6 hv6=>?_⟩
   refine ⟨_,_,.cons (hh0.keep (t1.trans (t.trans s6))) (.cons hv6 .nil),⟨_,_,rfl,bh.sm (by decide),(bs.mul bu).sm (by decide),rfl⟩,λ v7 G7 s7 hv7=>?_⟩
   refine ⟨_,rfl,(by show 2<=sizeLine;decide),λ p8 hp8=>?_⟩
   have u8:=Ah hp8 (.tup [v7,v5]);have d8:DV K (upd G7 p8 (.tup [v7,v5])) (.ref p8) (Ax (Ce h sl u)):=DV.upd2 hp8 hv7 (hv5.keep (s6.trans s7));have hv8:=hv5.keep (s6.trans (s7.trans u8));have t8:=t.trans (s6.trans (s7.trans u8));generalize upd G7 p8 (.tup [v7,v5])=G8 at d8 t8 hv8 ⊢;have rb:RB 140 (Ce h sl u):=Rb.mono (Rb.of (n:=70) ((bh.add (bs.mul bu)).mono (by decide)) (bu.mono (by decide))) (by decide)
   refine ⟨_,rfl,_,rfl,_,_,.cons (hb.keep (t1.trans t8)) (.cons d8 .nil),⟨_,_,140,6,rfl,gd,rb,by omega,rfl⟩,λ gv G9 s9 hgv=>?_⟩
   obtain rfl:=hgv.bl_of;have t9:=t8.trans s9;rw [<- S9 gd.ok h sl u1 u2];rw [ho];refine ⟨_,rfl,rfl,_,rfl,Bf (by decide) ⟨rfl,_,rfl,Bf rfl ?_⟩⟩
   exact ⟨_,_,_,rfl,t9⟩
  ·rintro σ H' ⟨c4,c5,c6,rfl,s'⟩
   exact ⟨_,rfl,rfl,_,rfl,Bt (by decide) (q _ (t1.trans s'))⟩
 | some fg=>
  obtain ⟨f',g'⟩:=fg;obtain ⟨bf',bg'⟩:=ob f' g' ho;obtain ⟨i1,i2,i3⟩:=slin f' g' ho;have j1:¬ f' < -2/\¬ 2 < f':=by
   have:=(Lr _ _).mp i1;rw [Fv] at this;exact this
  have j2:¬ g' < -2/\¬ 2 < g':=by
   have:=(Lr _ _).mp i2;rw [Fv] at this;exact this
  rw [ho] at htv;obtain ⟨ta,k0,k1,rfl,hta,hw0,hw1⟩:=DV.t2 (show DV K H1 tv (.tuple [Af f',Af g']) from htv)
  refine ⟨5,rfl,by decide,by decide,?_⟩
  refine QW (lo:=0) (n:=Int.toNat 5) (λ i σ H'=>∃c4 c5 c6,σ=[some (.ref lb),some (.ref la),some (.int z),some (.ref ta),c4,c5,c6,none,none,none,none,none]/\Same H1 H') ⟨_,_,_,rfl,Same.refl _⟩ ?_ ?_
  ·rintro i σ H' hi ⟨c4,c5,c6,rfl,s'⟩
   refine ⟨_,rfl,_,rfl,_,_,rfl,rfl,_,55051,rfl,by decide,by decide,λ y y0 y1=>⟨_,_,rfl,rfl,⟨by decide,by decide⟩,_,_,rfl,rfl,(by show (0:Int) < 33;decide),_,_,rfl,rfl,?_⟩⟩
   have m1:-16<=y / 64 % 33 - 16/\y / 64 % 33 - 16<=16:=by omega
   dsimp only
   generalize y / 64 % 33 - 16=w1 at m1 ⊢;refine ⟨_,_,rfl,by decide,lim7 8 (by decide),λ p5 hp5=>?_⟩
   have u5:=Ah hp5 (.tup [.int (Fr.lt w1 8),.int (Fr.lb w1 8)]);have d5:DV K (upd H' p5 (.tup [.int (Fr.lt w1 8),.int (Fr.lb w1 8)])) (.ref p5) (Af (Rat.divInt w1 8)):=Do (H:=H') (by decide)
   have b5':Bd 7 (Rat.divInt w1 8):=Bd.of (by decide) (by omega) (by decide)
   have b5:Bd 40 (Rat.divInt w1 8):=b5'.mono (by decide)
   clear b5';obtain ⟨o1,o2⟩:=ZF m1.1 m1.2;generalize Rat.divInt w1 8=u0 at d5 b5 o1 o2;generalize upd H' p5 (.tup [.int (Fr.lt w1 8),.int (Fr.lb w1 8)])=G5 at u5 d5 ⊢;refine ⟨_,rfl,rfl,_,rfl,Bt rfl ⟨_,rfl,_,_,rfl,rfl,_,rfl,?_⟩⟩;have t:=s'.trans u5;refine ite2 (λ hc=>?_) (λ _=>?_)
   ·have hc:(0:Int)+(i:Int) < 2:=of_decide_eq_true hc;have i2':i=0\/i=1:=by omega
    obtain ⟨v5,hat,u,hv5,bu,u1,u2⟩:∃v5,atI [k0,k1] (0+(i:Int))=some v5/\∃u:Rat,DV K G5 v5 (Af u)/\Bd 40 u/\¬ u < -2/\¬ 2 < u:=by
     rcases i2' with rfl | rfl
     ·exact ⟨k0,rfl,f',hw0.keep t,bf',j1⟩
     ·exact ⟨k1,rfl,g',hw1.keep t,bg',j2⟩
    refine ⟨_,rfl,_,rfl,ta,_,_,v5,rfl,rfl,hta.keep t,hat,?_⟩;refine ⟨_,rfl,la,_,_,_,rfl,rfl,hla.keep (t1.trans t),rfl,_,rfl,la,_,_,_,rfl,rfl,hla.keep (t1.trans t),rfl,_,rfl,_,_,.cons (hs0.keep (t1.trans t)) (.cons hv5 .nil),⟨_,_,rfl,bs.sm (by decide),bu.sm (by decide),rfl⟩,λ v6 G6 s6 hv6=>?_⟩
    refine ⟨_,_,.cons (hh0.keep (t1.trans (t.trans s6))) (.cons hv6 .nil),⟨_,_,rfl,bh.sm (by decide),(bs.mul bu).sm (by decide),rfl⟩,λ v7 G7 s7 hv7=>?_⟩
    refine ⟨_,rfl,(by show 2<=sizeLine;decide),λ p8 hp8=>?_⟩
    have u8:=Ah hp8 (.tup [v7,v5]);have d8:DV K (upd G7 p8 (.tup [v7,v5])) (.ref p8) (Ax (Ce h sl u)):=DV.upd2 hp8 hv7 (hv5.keep (s6.trans s7));have hv8:=hv5.keep (s6.trans (s7.trans u8));have t8:=t.trans (s6.trans (s7.trans u8));generalize upd G7 p8 (.tup [v7,v5])=G8 at d8 t8 hv8 ⊢;have rb:RB 140 (Ce h sl u):=Rb.mono (Rb.of (n:=70) ((bh.add (bs.mul bu)).mono (by decide)) (bu.mono (by decide))) (by decide)
    refine ⟨_,rfl,_,rfl,_,_,.cons (hb.keep (t1.trans t8)) (.cons d8 .nil),⟨_,_,140,6,rfl,gd,rb,by omega,rfl⟩,λ gv G9 s9 hgv=>?_⟩
    obtain rfl:=hgv.bl_of;have t9:=t8.trans s9;rw [<- S9 gd.ok h sl u1 u2];rw [ho];refine ⟨_,rfl,rfl,_,rfl,Bt rfl ?_⟩;refine ⟨_,rfl,ta,_,_,_,rfl,rfl,hta.keep t9,rfl,_,rfl,_,rfl,ta,_,_,_,rfl,rfl,hta.keep t9,rfl,_,_,.cons (hw0.keep t9) (.cons (hv8.keep s9) (.cons (hw1.keep t9) .nil)),⟨_,_,_,rfl,bf'.sm (by decide),bu.sm (by decide),bg'.sm (by decide),rfl⟩,λ bv2 Ga sa hbv=>?_⟩
    obtain rfl:=hbv.bl_of;rw [dF];refine ⟨rfl,_,rfl,Bf (by rw [decide_eq_true rfl];rfl) ?_⟩
    exact ⟨_,_,_,rfl,t9.trans sa⟩
   ·generalize V.ref p5=v5 at d5 ⊢;obtain ⟨u,hv5,bu,u1,u2⟩:∃u:Rat,DV K G5 v5 (Af u)/\Bd 40 u/\¬ u < -2/\¬ 2 < u:=⟨u0,d5,b5,o1,o2⟩;refine ⟨_,rfl,la,_,_,_,rfl,rfl,hla.keep (t1.trans t),rfl,_,rfl,la,_,_,_,rfl,rfl,hla.keep (t1.trans t),rfl,_,rfl,_,_,.cons (hs0.keep (t1.trans t)) (.cons hv5 .nil),⟨_,_,rfl,bs.sm (by decide),bu.sm (by decide),rfl⟩,λ v6 G6 s6 hv6=>?_⟩
    refine ⟨_,_,.cons (hh0.keep (t1.trans (t.trans s6))) (.cons hv6 .nil),⟨_,_,rfl,bh.sm (by decide),(bs.mul bu).sm (by decide),rfl⟩,λ v7 G7 s7 hv7=>?_⟩
    refine ⟨_,rfl,(by show 2<=sizeLine;decide),λ p8 hp8=>?_⟩
    have u8:=Ah hp8 (.tup [v7,v5]);have d8:DV K (upd G7 p8 (.tup [v7,v5])) (.ref p8) (Ax (Ce h sl u)):=DV.upd2 hp8 hv7 (hv5.keep (s6.trans s7));have hv8:=hv5.keep (s6.trans (s7.trans u8));have t8:=t.trans (s6.trans (s7.trans u8));generalize upd G7 p8 (.tup [v7,v5])=G8 at d8 t8 hv8 ⊢;have rb:RB 140 (Ce h sl u):=Rb.mono (Rb.of (n:=70) ((bh.add (bs.mul bu)).mono (by decide)) (bu.mono (by decide))) (by decide)
    refine ⟨_,rfl,_,rfl,_,_,.cons (hb.keep (t1.trans t8)) (.cons d8 .nil),⟨_,_,140,6,rfl,gd,rb,by omega,rfl⟩,λ gv G9 s9 hgv=>?_⟩
    obtain rfl:=hgv.bl_of;have t9:=t8.trans s9;rw [<- S9 gd.ok h sl u1 u2];rw [ho];refine ⟨_,rfl,rfl,_,rfl,Bt rfl ?_⟩;refine ⟨_,rfl,ta,_,_,_,rfl,rfl,hta.keep t9,rfl,_,rfl,_,rfl,ta,_,_,_,rfl,rfl,hta.keep t9,rfl,_,_,.cons (hw0.keep t9) (.cons (hv8.keep s9) (.cons (hw1.keep t9) .nil)),⟨_,_,_,rfl,bf'.sm (by decide),bu.sm (by decide),bg'.sm (by decide),rfl⟩,λ bv2 Ga sa hbv=>?_⟩
    obtain rfl:=hbv.bl_of;rw [dF];refine ⟨rfl,_,rfl,Bf (by rw [decide_eq_true rfl];rfl) ?_⟩
    exact ⟨_,_,_,rfl,t9.trans sa⟩
  ·rintro σ H' ⟨c4,c5,c6,rfl,s'⟩
   refine ⟨_,rfl,rfl,_,rfl,Bf rfl ?_⟩;have t2:=t1.trans s';have hlb2:=hlb.keep t2;have hxs2:=hxs.keep t2;refine ⟨_,rfl,lb,rfl,⟨_,hlb2⟩,?_⟩;refine Yx (K:=K) (a:=lb) (xs:=xs) (λ j σ ys H2=>∃c0,σ=[c0]/\H2=H'/\DVs K H' ys ((Cm ((BZ g p S).take j)).map Bp)) ⟨_,rfl,rfl,.nil⟩ ?_ ?_ ?_
   ·rintro j σ ys H2 hj ⟨c0,rfl,rfl,hys⟩
    have h1:=hys.len;rw [List.length_map] at h1;have h2:=V1 ((BZ g p S).take j);have h3:=List.length_take_le j (BZ g p S);exact ⟨Nat.le_of_lt (small1000 (by omega)),hlb2⟩
   ·rintro j y σ ys H2 hj ⟨c0,rfl,rfl,hys⟩
    obtain ⟨d,hd,hx'⟩:=hxs2.get hj;obtain ⟨pc,hpc,rfl⟩:=Hr hd;obtain ⟨pa,w,ws,rfl,hpa,hw'⟩:=jF hx';have tk:=rT hpc;refine ⟨_,rfl,pa,_,_,_,rfl,rfl,hpa,CQ,rfl,_,rfl,?_⟩;cases hb':Jm pc with
    | true=>
     refine Bf (by show (!decide (V.str w=V.str "stop"))=false;rw [hw',hb'];rfl) (nx (Cq hj) ⟨_,rfl,rfl,?_⟩)
     rw [tk,<- Vt,hb'];exact hys
    | false=>
     refine Bt (by show (!decide (V.str w=V.str "stop"))=true;rw [hw',hb'];rfl) ⟨_,rfl,nx (Cq hj) ⟨_,rfl,rfl,?_⟩⟩
     rw [tk,<- Vt,hb'];show DVs K H2 _ ((Cm ((BZ g p S).take j)++[pc]).map Bp);rw [List.map_append];exact hys.append (.cons hx' .nil)
   rintro σ ys H2 lp ⟨c0,rfl,rfl,hys⟩ hlp
   rw [xl,List.take_length] at hys;have pl:=V1 (BZ g p S);have hyl:ys.length=(Cm (BZ g p S)).length:=by have:=hys.len;rw [List.length_map] at this;exact this
   have v0:=Ah hlp (.lst ys);have lp0:upd H2 lp (.lst ys) lp=some (.lst ys):=Aq;have hys:=hys.keep v0;generalize upd H2 lp (.lst ys)=G0 at v0 lp0 hys ⊢;refine ⟨(by show 2<=sizeLine;decide),λ q1 hq1=>?_⟩
   have v1:=Ah hq1 (.tup [.int 1,.int 2]);have d1:DV K (upd G0 q1 (.tup [.int 1,.int 2])) (.ref q1) (Af (1 / 2)):=Cj (by decide+kernel) (by decide+kernel)
   generalize upd G0 q1 (.tup [.int 1,.int 2])=G1 at v1 d1 ⊢;refine ⟨(by show 2<=sizeLine;decide),λ q2 hq2=>?_⟩
   have v2:=Ah hq2 (.tup [.str "gap",.ref q1]);have d2:DV K (upd G1 q2 (.tup [.str "gap",.ref q1])) (.ref q2) (Bp (.gap (1 / 2))):=.tup (SqT.of Aq) (.cons (.str _) (.cons (d1.keep v2) .nil));generalize upd G1 q2 (.tup [.str "gap",.ref q1])=G2 at v2 d2 ⊢;refine ⟨(by show 1<=sizeLine;decide),λ q3 hq3=>?_⟩
   have v3:=Ah hq3 (.tup [.str "stop"]);have d3:DV K (upd G2 q3 (.tup [.str "stop"])) (.ref q3) (.tuple [.str "stop"]):=.tup (SqT.of Aq) (.cons (.str _) .nil);generalize upd G2 q3 (.tup [.str "stop"])=G3 at v3 d3 ⊢;refine ⟨(by show 2<=sizeLine;decide),λ q4 hq4=>?_⟩
   have v4:=Ah hq4 (.lst [.ref q2,.ref q3]);have l4:upd G3 q4 (.lst [.ref q2,.ref q3]) q4=some (.lst [.ref q2,.ref q3]):=Aq;generalize upd G3 q4 (.lst [.ref q2,.ref q3])=G4 at v4 l4 ⊢;have v14:=v1.trans (v2.trans (v3.trans v4));refine ⟨lp,q4,_,_,rfl,rfl,v14 _ _ lp0,l4,Nat.le_of_lt (small1000 (by simp only [List.length_cons,List.length_nil];omega)),λ q5 hq5=>?_⟩
   have v5:=Ah hq5 (.lst (ys++[.ref q2,.ref q3]));have d5:DV K (upd G4 q5 (.lst (ys++[.ref q2,.ref q3]))) (.ref q5) (.list ((Ht (BZ g p S) (1 / 2)).map Jk)):=.lst (SqL.of Aq) (by
    rw [dq];exact (hys.keep (v14.trans v5)).append (.cons (d2.keep (v3.trans (v4.trans v5))) (.cons (d3.keep (v4.trans v5)) .nil)))
   have t5:=t2.trans (v0.trans (v14.trans v5));have s15:=s'.trans (v0.trans (v14.trans v5));generalize upd G4 q5 (.lst (ys++[.ref q2,.ref q3]))=G5 at d5 t5 s15 ⊢;have el:=uC (BZ g p S) (1 / 2);have ebd:∀c,some c∈Ht (BZ g p S) (1 / 2)->c.bd 6:=λ c hc=>by
    rcases List.mem_append.mp hc with hc | hc
    ·obtain ⟨c',hc',e⟩:=List.mem_map.mp hc;cases e
     rcases List.mem_append.mp hc' with h | h
     ·exact gd.bd c (List.mem_filter.mp h).1
     ·rw [List.mem_singleton.mp h];exact ⟨by decide+kernel,by decide+kernel⟩
    ·exact absurd (List.mem_singleton.mp hc) (by simp)
   refine ⟨.ref q5,_,rfl,d5,by omega,ebd,λ lh G6 yh s6 nh hlh hyh=>?_⟩
   rw [qG] at hyh;obtain ⟨hp0,rfl,hpd⟩:=DVs.one (show DVs K G6 yh [pairD _ _] from hyh)
   have ends:=λ u=>nW (BZ g p S) h sl u (1 / 2)
   have rbA:∀r:Aa,RB 2 r->RB 440 (BP (Cm (BZ g p S)++[.gap (1 / 2)]) r):=λ r hr=>Rb.mono (W8 (n:=0) (m:=6) _ 2 r (λ c hc=>by
     rcases List.mem_append.mp hc with h | h
     ·exact gd.bd c (List.mem_filter.mp h).1
     ·rw [List.mem_singleton.mp h];exact ⟨by decide+kernel,by decide+kernel⟩) hr) (by
    rw [List.length_append,List.length_singleton];omega)
   have rA:=rbA e1 ⟨1,0,1,by decide,by decide,by decide,by decide,by decide+kernel,by decide+kernel⟩
   have rB:=rbA e2 ⟨0,1,1,by decide,by decide,by decide,by decide,by decide+kernel,by decide+kernel⟩
   have bA:=rA.y;have bB:=rB.y;generalize (BP (Cm (BZ g p S)++[.gap (1 / 2)]) e1).1=AA at bA hpd ends;generalize (BP (Cm (BZ g p S)++[.gap (1 / 2)]) e2).1=BB at bB hpd ends;obtain ⟨ra,av,bv',rfl,hra,hav,hbv'⟩:=DV.t2 (show DV K G6 hp0 (.tuple [Af AA,Af BB]) from hpd)
   refine ⟨_,rfl,lh,_,_,_,rfl,rfl,SqL.of hlh,CQ,ra,_,rfl,hra,rfl,av,_,rfl,bv',_,rfl,rfl,?_⟩;have s16:=s15.trans s6;have t6:=t5.trans s6;have bE:∀u:Rat,Bd 40 u->Bd 1100 (hgt (tabOf (BZ g p S)) h sl u (1 / 2)):=λ u hu=>by
    rw [<- ends];exact ((bA.mul (bh.add (bs.mul hu))).add (bB.mul hu)).mono (by decide)
   refine ⟨_,rfl,ta,rfl,⟨_,hta.keep s16⟩,?_⟩;refine Wn (K:=K) (a:=ta) (xs:=[k0,k1]) (λ i σ ys H'=>∃c0,σ=[c0,some av,some bv',some (.ref la)]/\Same G6 H'/\DVs K H' ys (([f',g'].take i).map λ u=>Af (hgt (tabOf (BZ g p S)) h sl u (1 / 2)))) ⟨_,rfl,Same.refl _,.nil⟩ ?_ ?_ ?_
   ·rintro i σ ys H' hi ⟨c0,rfl,s7,hys⟩
    refine ⟨?_,hta.keep (s16.trans s7)⟩;have:=hys.len;rw [List.length_map,List.length_take] at this;simp only [List.length_cons,List.length_nil] at this;exact Nat.le_of_lt (small1000 (by omega))
   ·rintro i uv σ ys H' hi ⟨c0,rfl,s7,hys⟩
    obtain ⟨u,hu,bu,et⟩:∃u:Rat,DV K H' uv (Af u)/\Bd 40 u/\[f',g'].take (i+1)=[f',g'].take i++[u]:=by
     match i,hi with
     | 0,hi=>cases hi;exact ⟨f',hw0.keep (s16.trans s7),bf',rfl⟩
     | 1,hi=>cases hi;exact ⟨g',hw1.keep (s16.trans s7),bg',rfl⟩
     | i+2,hi=>cases hi
    have t7:=t6.trans s7;refine ⟨_,rfl,_,rfl,la,_,_,_,rfl,rfl,hla.keep t7,rfl,_,rfl,la,_,_,_,rfl,rfl,hla.keep t7,rfl,_,rfl,_,_,.cons (hs0.keep t7) (.cons hu .nil),⟨_,_,rfl,bs.sm (by decide),bu.sm (by decide),rfl⟩,λ z1 K1 w1 hz1=>?_⟩
    refine ⟨_,_,.cons (hh0.keep (t7.trans w1)) (.cons hz1 .nil),⟨_,_,rfl,bh.sm (by decide),(bs.mul bu).sm (by decide),rfl⟩,λ z2 K2 w2 hz2=>?_⟩
    have b2':=bh.add (bs.mul bu);refine ⟨_,_,.cons (hav.keep (s7.trans (w1.trans w2))) (.cons hz2 .nil),⟨_,_,rfl,bA.sm (by decide),b2'.sm (by decide),rfl⟩,λ z3 K3 w3 hz3=>?_⟩
    have w13:=w1.trans (w2.trans w3);refine ⟨_,rfl,_,rfl,_,_,.cons (hbv'.keep (s7.trans w13)) (.cons (hu.keep w13) .nil),⟨_,_,rfl,bB.sm (by decide),bu.sm (by decide),rfl⟩,λ z4 K4 w4 hz4=>?_⟩
    refine ⟨_,_,.cons (hz3.keep w4) (.cons hz4 .nil),⟨_,_,rfl,(bA.mul b2').sm (by decide),(bB.mul bu).sm (by decide),rfl⟩,λ z5 K5 w5 hz5=>?_⟩
    have hz5:DV K K5 z5 (Af (AA * (h+sl * u)+BB * u)):=hz5;rw [ends] at hz5;have w15:=w13.trans (w4.trans w5);refine nx (Cq hi) ⟨_,rfl,s7.trans w15,?_⟩;rw [et,List.map_append];exact (hys.keep w15).append (.cons hz5 .nil)
   rintro σ ys G7 le ⟨c0,rfl,s7,hys⟩ hle
   obtain ⟨m0,m1,rfl,hm0,hm1⟩:=DVs.two (show DVs K G7 ys [Af (hgt (tabOf (BZ g p S)) h sl f' (1 / 2)),Af (hgt (tabOf (BZ g p S)) h sl g' (1 / 2))] from hys)
   have v8:=Ah hle (.lst [m0,m1]);have l8:upd G7 le (.lst [m0,m1]) le=some (.lst [m0,m1]):=Aq;have hm0:=hm0.keep v8;have hm1:=hm1.keep v8;have t8:=t6.trans (s7.trans v8);have s18:=s16.trans (s7.trans v8);generalize upd G7 le (.lst [m0,m1])=G8 at l8 hm0 hm1 t8 s18 ⊢;refine ⟨_,rfl,_,rfl,_,rfl,(by show 2<=sizeLine;decide),λ q8 hq8=>?_⟩
   have v9:=Ah hq8 (.tup [.int 1,.int 2]);have d9:DV K (upd G8 q8 (.tup [.int 1,.int 2])) (.ref q8) (Af (1 / 2)):=Cj (by decide+kernel) (by decide+kernel)
   generalize upd G8 q8 (.tup [.int 1,.int 2])=G9 at v9 d9 ⊢;have t9:=t8.trans v9;refine ⟨_,_,.cons (hb.keep t9) (.cons (hlv.keep t9) (.cons (htv.keep (s18.trans v9)) (.cons d9 .nil))),⟨_,h,sl,f',g',1 / 2,6,40,2,rfl,gd,bh.mono (by decide),bs.mono (by decide),bf',bg',⟨by decide+kernel,by decide+kernel⟩,by omega,rfl⟩,λ sv Ga sa hsv=>?_⟩
   have b0:=bE f' bf';have b1:=bE g' bg';generalize hgt (tabOf (BZ g p S)) h sl f' (1 / 2)=E0 at hsv hm0 b0;generalize hgt (tabOf (BZ g p S)) h sl g' (1 / 2)=E1 at hsv hm1 b1;have va:=v9.trans sa;have lea:=va _ _ l8;have ta':=t8.trans va;refine ⟨_,rfl,_,rfl,le,_,_,_,rfl,rfl,SqL.of lea,CQ,_,rfl,le,_,_,_,rfl,rfl,SqL.of lea,rfl,(by show 2<=sizeLine;decide),λ n1 hn1=>?_⟩
   have x1:=Ah hn1 (.tup [m0,m1]);have dx1:DV K (upd Ga n1 (.tup [m0,m1])) (.ref n1) (pairD E0 E1):=DV.upd2 hn1 (hm0.keep va) (hm1.keep va);generalize upd Ga n1 (.tup [m0,m1])=Gb at x1 dx1 ⊢;have leb:=x1 _ _ lea;refine ⟨_,rfl,le,_,_,_,rfl,rfl,SqL.of leb,rfl,_,rfl,le,_,_,_,rfl,rfl,SqL.of leb,CQ,(by show 2<=sizeLine;decide),λ n2 hn2=>?_⟩
   have x2:=Ah hn2 (.tup [m1,m0]);have dx2:DV K (upd Gb n2 (.tup [m1,m0])) (.ref n2) (pairD E1 E0):=DV.upd2 hn2 (hm1.keep (va.trans x1)) (hm0.keep (va.trans x1));generalize upd Gb n2 (.tup [m1,m0])=Gc at x2 dx2 ⊢;refine ⟨(by show 2<=sizeLine;decide),λ n3 hn3=>?_⟩
   have x3:=Ah hn3 (.lst [.ref n1,.ref n2]);have l3:upd Gc n3 (.lst [.ref n1,.ref n2]) n3=some (.lst [.ref n1,.ref n2]):=Aq;generalize upd Gc n3 (.lst [.ref n1,.ref n2])=Gd at x3 l3 ⊢;have x13:=x1.trans (x2.trans x3);have hsv:=hsv.keep x13;have tz:=ta'.trans x13;unfold Jj at hsv;by_cases cc:E1 < E0
   ·rw [if_pos cc] at hsv;refine ⟨n3,_,pairD E1 E0,[pairD E0 E1,pairD E1 E0],rfl,SqL.of l3,hsv,.cons (dx1.keep (x2.trans x3)) (.cons (dx2.keep x3) .nil),rfl,(by show (Ax (E1,E0)).depth<=60;exact Nat.le_trans (Ia (E1,E0)).d (by decide)),rfl,_,rfl,?_⟩
    refine Bt (by simp [Wy]) ?_
    obtain ⟨fa,g0,g1,rfl,hfa,hg0,hg1⟩:=DV.t2 hsv;refine ⟨_,rfl,fa,_,_,_,rfl,rfl,hfa,rfl,_,rfl,fa,_,_,_,rfl,rfl,hfa,CQ,_,_,.cons hg1 (.cons hg0 .nil),⟨_,_,rfl,b0.sm (by decide),b1.sm (by decide),rfl⟩,λ zz Gz sz hzz=>?_⟩
    obtain rfl:=hzz.bl_of;refine ⟨_,rfl,?_⟩;rw [decide_eq_false (show ¬ E0 < E1 by grind)]
    exact q _ (tz.trans sz)
   ·rw [if_neg cc] at hsv;refine ⟨n3,_,pairD E0 E1,[pairD E0 E1,pairD E1 E0],rfl,SqL.of l3,hsv,.cons (dx1.keep (x2.trans x3)) (.cons (dx2.keep x3) .nil),rfl,(by show (Ax (E0,E1)).depth<=60;exact Nat.le_trans (Ia (E0,E1)).d (by decide)),rfl,_,rfl,?_⟩
    refine Bt (by simp [Wy]) ?_
    obtain ⟨fa,g0,g1,rfl,hfa,hg0,hg1⟩:=DV.t2 hsv;refine ⟨_,rfl,fa,_,_,_,rfl,rfl,hfa,rfl,_,rfl,fa,_,_,_,rfl,rfl,hfa,CQ,_,_,.cons hg1 (.cons hg0 .nil),⟨_,_,rfl,b1.sm (by decide),b0.sm (by decide),rfl⟩,λ zz Gz sz hzz=>?_⟩
    obtain rfl:=hzz.bl_of;refine ⟨_,rfl,?_⟩;rw [decide_eq_false cc];exact q _ (tz.trans sz)
end
end K84
namespace K84
open PySem L2 Lib Fr Op Tx
seal PE PT PW PA PS PSs PG PGs PI PO CZ
section
variable {P:Program}{w:World}{K:FrG}{mg:Str->Option Value}{base:Heap}{ad:Adr}{c:Bool}
theorem vq (T:Txt K mg ad):XMk P w K mg base 1 "NoBench" ad.NoBench:=by
 refine T.ex.j_NoBench.xmk iH (λ _ _ _ _ _ _=>Bs λ _ _=>rfl) (λ fI O f cdv A outer s H vs Q E hr h=>?_)
 obtain ⟨e,v,rfl,he,q⟩:=h;refine ⟨_,(Al (fZ O T.ex.m_BenchError (Ad (pv 0) (Ad (pv 1) Ab))) (Ao (rK O (pv 0) (pv 1)))),?_⟩;exact ⟨_,rfl,_,rfl,e,v,none,rfl,he,_,rfl,_,rfl,e,rfl,he,λ dx n1 n2=>q dx n1 n2⟩
theorem vM (T:Txt K mg ad):CalB P w K mg base true 4 "look_at" ["bench"] (dW K ad.NoBench):=by
 have vh:=vq (P:=P) (w:=w) (base:=base) T;refine T.Ms.calB Nu (λ _ _ _ _ _ _=>by1 λ _=>rfl) (λ vs H Q E h=>?_) (λ f cdv A outer s H vs Q E hr h=>?_)
 ·obtain ⟨_,_,rfl,_⟩:=h;rfl
 obtain ⟨v,ds,rfl,hv,hl,q⟩:=h;refine ⟨_,(Al (Be (PW.pt (pw_or (Cd (By (CP Gj rfl T.isinstance GF (Ad (pv 0) (Ad (GD (v:=.ty "list") rfl T.list ZR rfl) Ab))))) (pw_or1 (Bo JQ (CP Ea rfl T.len Dq (Ad (pv 0) Ab)) (CJ (v:=.int 60) rfl T.ex.m_MOST_PIECES ⟨_,rfl⟩) (nomark _))))) (Ao (wH OJ rfl vh (hr.mono (by decide)) (BJ Ff Ab))) Bj) Om),?_⟩
 refine ⟨_,rfl,_,_,_,_,rfl,hv,Yi _,_,rfl,?_⟩;obtain ⟨a,xs,rfl,ha,hxs⟩:=DV.lst_of hv;have hlen:=hxs.len;refine iteF ?_;refine ⟨_,rfl,a,_,rfl,.inl ha,_,_,rfl,rfl,_,rfl,Bt (decide_eq_true (by omega)) ?_⟩
 exact ⟨_,rfl,λ dx hn=>q _ dx (Ah hn _) Aq⟩
theorem Zq (T:Txt K mg ad):CalB P w K mg base true 5 "limits_of" ["bench"] (dW K ad.NoBench):=by
 have Gw:=vM (P:=P) (w:=w) (base:=base) T;refine T.Nm.calB GR (λ _ _ _ _ _ _=>by1 λ _=>rfl) (λ vs H Q E h=>?_) (λ f cdv A outer s H vs Q E hr h=>?_)
 ·obtain ⟨_,_,rfl,_⟩:=h;rfl
 obtain ⟨v,ds,rfl,hv,hl,q⟩:=h;exact ⟨_,(Al (DR (Aj Gw (hr.mono (by decide)) (UJ OJ) (Ad (pv 0) Ab))) Om),⟨_,rfl,v,ds,rfl,hv,hl,q⟩⟩
theorem vX (T:Txt K mg ad):CalB P w K mg base true 6 "field_of" ["bench","box"] (qd K ad.NoBench):=by
 have Ha:=Zq (P:=P) (w:=w) (base:=base) T;refine T.Nb.calB Hk (λ _ _ _ _ _ _=>Bs λ _ _=>rfl) (λ vs H Q E h=>?_) (λ f cdv A outer s H vs Q E hr h=>?_)
 ·obtain ⟨_,_,_,rfl,_⟩:=h;rfl
 obtain ⟨v,y,ds,rfl,hv,hl,q⟩:=h;exact ⟨_,(Al (Aw (i:=2) Hk.nd rfl (Or.inl rfl) (Aj Ha (hr.mono (by decide)) (UJ OJ) (Ad (pv 0) Ab))) Om),⟨_,rfl,v,ds,rfl,hv,hl,q⟩⟩
theorem rZ (T:Txt K mg ad):CalB P w K mg base true 6 "slants_of" ["bench","lamp","first","last"] (pI K ad.NoBench):=by
 have Ha:=Zq (P:=P) (w:=w) (base:=base) T;refine T.Mx.calB JW (λ _ _ _ _ _ _=>by4 λ _ _ _ _=>rfl) (λ vs H Q E h=>?_) (λ f cdv A outer s H vs Q E hr h=>?_)
 ·obtain ⟨_,_,_,_,_,rfl,_⟩:=h;rfl
 obtain ⟨v,y,y2,y3,ds,rfl,hv,hl,q⟩:=h;exact ⟨_,(Al (Aw (i:=4) JW.nd rfl (Or.inl rfl) (Aj Ha (hr.mono (by decide)) (UJ OJ) (Ad (pv 0) Ab))) Om),⟨_,rfl,v,ds,rfl,hv,hl,q⟩⟩
theorem qW (T:Txt K mg ad):CalB P w K mg base true 8 "_law_too_long" ["_law_bench_here","_law_box","_law_lamp"] (jy K):=by
 have Uy:=vX (P:=P) (w:=w) (base:=base) T;have Wr:=rZ (P:=P) (w:=w) (base:=base) T;refine T.Ww.calN PQ (λ _ _ _ _ _ _=>Ij λ _ _ _=>rfl) (λ vs H Q E h=>?_) (λ f cdv A outer s H vs Q E hr h=>?_)
 ·obtain ⟨_,_,_,_,_,_,_,_,rfl,_⟩:=h;rfl
 obtain ⟨l,xv,lv,xs,ps,x,h,sl,rfl,hl,hxs,h60,hx,hlv,q⟩:=h;have X:=T.ex;have ek:=X.e_NoBench;obtain ⟨fI,fdI,Fn,O⟩:=X.j_NoBench.ex;have hxl:xs.length=60:=by have:=hxs.len;rw [List.length_map] at this;omega
 refine ⟨_,(Al (Aw (i:=3) PQ.nd rfl (Or.inl rfl) (Cg (BJ DN (BJ DN Ab)))) (Al (Zg (i:=4) (bQ Uy (hr.mono (by decide)) (Bu (Ay JD (pv 0) (Cg (Bb (BK (BJ Dk (Bb (BK (BJ Ac (BJ Ac Ab))) Ab))) Ab))) (Ad (pv 1) Ab))) rfl rfl T.ex.m_NoBench (λ _=>(Ao (N5 (Eg La (aR (K:=K) (pv 4)) Ff (nomark _)) (aH (pv 3) Ac ZL)))) PQ.nd rfl rfl) (Al (Zg (i:=4) (bQ Wr (hr.mono (by decide)) (Bu (Ay JD (Cg (Bb (BK (BJ Dk (Bb (BK (BJ Ac (BJ Ac Ab))) Ab))) Ab)) (pv 0)) (Ad (pv 2) (Bb (BK (BJ Ac (BJ Ac Ab))) (Bb (BK (BJ Ac (BJ Ac Ab))) Ab))))) rfl rfl T.ex.m_NoBench (λ _=>(Ao (N5 (Eg La (aR (K:=K) (pv 4)) Ff (nomark _)) (aH (pv 3) Ac ZL)))) PQ.nd rfl rfl) (Ao (Az (Eg (Uk hr.units) (pv 3) (Cg (BJ DN (BJ DN Ab))) (nomark _))))))),?_⟩
 refine ⟨(by show 2<=sizeLine;decide),λ lr hlr=>?_⟩
 have u0:=Ah hlr (.lst [.bl false,.bl false]);have l0:upd H lr (.lst [.bl false,.bl false]) lr=some (.lst [.bl false,.bl false]):=Aq;have nl:l≠lr:=Bm hl hlr;generalize upd H lr (.lst [.bl false,.bl false])=H0 at u0 l0 ⊢;refine ⟨_,rfl,(by show 2<=sizeLine;decide),λ a1 ha1=>?_⟩
 have u1:=Ah ha1 (.tup [.int 0,.int 1]);have d1:DV K (upd H0 a1 (.tup [.int 0,.int 1])) (.ref a1) (Af 0):=Cj (by decide+kernel) (by decide+kernel)
 generalize upd H0 a1 (.tup [.int 0,.int 1])=H1 at u1 d1 ⊢;refine ⟨(by show 2<=sizeLine;decide),λ a2 ha2=>?_⟩
 have u2:=Ah ha2 (.tup [.str "gap",.ref a1]);have d2:DV K (upd H1 a2 (.tup [.str "gap",.ref a1])) (.ref a2) (Bp (.gap 0)):=.tup (SqT.of Aq) (.cons (.str _) (.cons (d1.keep u2) .nil));generalize upd H1 a2 (.tup [.str "gap",.ref a1])=H2 at u2 d2 ⊢;refine ⟨(by show 1<=sizeLine;decide),λ a3 ha3=>?_⟩
 have u3:=Ah ha3 (.lst [.ref a2]);have l3:upd H2 a3 (.lst [.ref a2]) a3=some (.lst [.ref a2]):=Aq;have t3:=u1.trans (u2.trans u3);generalize upd H2 a3 (.lst [.ref a2])=H3 at u3 l3 t3 ⊢;refine ⟨l,a3,_,_,rfl,rfl,t3 _ _ (u0 _ _ hl),l3,Nat.le_of_lt (small1000 (by simp only [List.length_cons,List.length_nil];omega)),λ a4 ha4=>?_⟩
 have u4:=Ah ha4 (.lst (xs++[.ref a2]));have t4:=u0.trans (t3.trans u4);have d4:DV K (upd H3 a4 (.lst (xs++[.ref a2]))) (.ref a4) (.list (ps.map Bp++[Bp (.gap 0)])):=.lst (SqL.of Aq) ((hxs.keep t4).append (.cons (d2.keep (u3.trans u4)) .nil));have l4:=(t3.trans u4) _ _ l0;generalize upd H3 a4 (.lst (xs++[.ref a2]))=H4 at d4 l4 t4 ⊢;refine ⟨_,rfl,.ref a4,xv,_,rfl,d4,by rw [List.length_append,List.length_map,h60];decide,λ H5 dx s5 hdx=>⟨ad.NoBench,rfl,X.x_NoBench_NoBench,λ ea hea=>?_⟩⟩
 have w5:=Ah hea (xC ea ad.NoBench (some dx));refine ⟨_,rfl,ea,_,dx,_,.non,rfl,Aq,w5 _ _ hdx,ek,O.hd,O.na,rfl,rfl,_,rfl,lr,_,0,0,rfl,rfl,w5 _ _ (s5 _ _ l4),rfl,?_⟩;have l5:=w5 _ _ (s5 _ _ l4);have t5:=t4.trans (s5.trans w5);have x5:Same H (upd (upd H5 ea (xC ea ad.NoBench (some dx))) lr (.lst [.bl true,.bl false])):=λ b o e=>by rw [Av (Bm e hlr)];exact t5 _ _ e
 have l6:upd (upd H5 ea (xC ea ad.NoBench (some dx))) lr (.lst [.bl true,.bl false]) lr=some (.lst [.bl true,.bl false]):=Aq;have e5:upd (upd H5 ea (xC ea ad.NoBench (some dx))) lr (.lst ([V.bl false,V.bl false].set 0 (V.bl (decide (V.non=V.non)))))=upd (upd H5 ea (xC ea ad.NoBench (some dx))) lr (.lst [.bl true,.bl false]):=rfl;rw [e5];generalize upd (upd H5 ea (xC ea ad.NoBench (some dx))) lr (.lst [.bl true,.bl false])=G0 at x5 l6 ⊢;clear t4 t3 u0 u1 u2 u3 u4 d1 d2 d4 l0 l3 l4 l5 t5 w5 s5;refine ⟨(by show 2<=sizeLine;decide),λ b1 hb1=>?_⟩
 have u1:=Ah hb1 (.tup [.int 0,.int 1]);have d1:DV K (upd G0 b1 (.tup [.int 0,.int 1])) (.ref b1) (Af 0):=Cj (by decide+kernel) (by decide+kernel)
 generalize upd G0 b1 (.tup [.int 0,.int 1])=G1 at u1 d1 ⊢;refine ⟨(by show 2<=sizeLine;decide),λ b2 hb2=>?_⟩
 have u2:=Ah hb2 (.tup [.str "gap",.ref b1]);have d2:DV K (upd G1 b2 (.tup [.str "gap",.ref b1])) (.ref b2) (Bp (.gap 0)):=.tup (SqT.of Aq) (.cons (.str _) (.cons (d1.keep u2) .nil));generalize upd G1 b2 (.tup [.str "gap",.ref b1])=G2 at u2 d2 ⊢;refine ⟨(by show 1<=sizeLine;decide),λ b3 hb3=>?_⟩
 have u3:=Ah hb3 (.lst [.ref b2]);have l3:upd G2 b3 (.lst [.ref b2]) b3=some (.lst [.ref b2]):=Aq;have t3:=u1.trans (u2.trans u3);generalize upd G2 b3 (.lst [.ref b2])=G3 at u3 l3 t3 ⊢;refine ⟨_,rfl,b3,l,_,_,rfl,rfl,l3,t3 _ _ (x5 _ _ hl),Nat.le_of_lt (small1000 (by simp only [List.length_cons,List.length_nil];omega)),λ b4 hb4=>?_⟩
 have u4:=Ah hb4 (.lst ([.ref b2]++xs));have t4:=x5.trans (t3.trans u4);have d4:DV K (upd G3 b4 (.lst ([.ref b2]++xs))) (.ref b4) (.list ([Bp (.gap 0)]++ps.map Bp)):=.lst (SqL.of Aq) ((DVs.cons (d2.keep (u3.trans u4)) .nil).append (hxs.keep t4));have l4:=(t3.trans u4) _ _ l6;generalize upd G3 b4 (.lst ([.ref b2]++xs))=G4 at d4 l4 t4 ⊢;refine ⟨_,rfl,(by show 2<=sizeLine;decide),λ b5 hb5=>⟨(by show 2<=sizeLine;decide),λ b6 hb6=>?_⟩⟩
 have v5:=(Ah hb5 (.tup [.int 0,.int 1])).trans (Ah hb6 (.tup [.int 1,.int 1]));generalize upd (upd G4 b5 (.tup [.int 0,.int 1])) b6 (.tup [.int 1,.int 1])=G5 at v5 ⊢;refine ⟨.ref b4,lv,_,_,_,rfl,d4.keep v5,by rw [List.length_append,List.length_map,h60];decide,λ G6 dy s6 hdy=>⟨ad.NoBench,rfl,X.x_NoBench_NoBench,λ eb heb=>?_⟩⟩
 have w6:=Ah heb (xC eb ad.NoBench (some dy));have s46:=v5.trans (s6.trans w6);refine ⟨_,rfl,eb,_,dy,_,.non,rfl,Aq,w6 _ _ hdy,ek,O.hd,O.na,rfl,rfl,_,rfl,lr,_,1,1,rfl,rfl,s46 _ _ l4,rfl,?_⟩;have l7:=s46 _ _ l4;have t7:=t4.trans s46;have x7:Same H (upd (upd G6 eb (xC eb ad.NoBench (some dy))) lr (.lst [.bl true,.bl true])):=λ b o e=>by rw [Av (Bm e hlr)];exact t7 _ _ e
 have l8:upd (upd G6 eb (xC eb ad.NoBench (some dy))) lr (.lst [.bl true,.bl true]) lr=some (.lst [.bl true,.bl true]):=Aq;have e7:upd (upd G6 eb (xC eb ad.NoBench (some dy))) lr (.lst ([V.bl true,V.bl false].set 1 (V.bl (decide (V.non=V.non)))))=upd (upd G6 eb (xC eb ad.NoBench (some dy))) lr (.lst [.bl true,.bl true]):=rfl;rw [e7];generalize upd (upd G6 eb (xC eb ad.NoBench (some dy))) lr (.lst [.bl true,.bl true])=G7 at x7 l8 ⊢;refine ⟨_,rfl,(by show 2<=sizeLine;decide),λ z hz=>?_⟩
 have uz:=Ah hz (.lst [.bl true,.bl true]);exact ⟨.list [.bool true,.bool true],.list [.bool true,.bool true],.lst (SqL.of (uz _ _ l8)) (.cons (.bl _) (.cons (.bl _) .nil)),.lst (SqL.of Aq) (.cons (.bl _) (.cons (.bl _) .nil)),rfl,rfl,q _ (x7.trans uz)⟩
end
end K84
namespace K84
open PySem L2 Lib Fr Op Tx
seal PE PT PW PA PS PSs PG PGs PI PO CZ
section
variable {P:Program}{w:World}{K:FrG}{mg:Str->Option Value}{base:Heap}{ad:Adr}{c:Bool}
theorem pF (T:Txt K mg ad){fa:Addr}{fd:FuncData}(F:Fun K "law" "law" Jb fa fd):FnB P w K mg base true 26 fa fd ["_law_script"] (spLaw K):=by
 have Hh:=YG (P:=P) (w:=w) (base:=base) T;have qU:=yP (P:=P) (w:=w) (base:=base) T;have Ha:=SQ (P:=P) (w:=w) (base:=base) T;have Tz:=bN (P:=P) (w:=w) (base:=base) T;have Uy:=yX (P:=P) (w:=w) (base:=base) T;have YT:=qL (P:=P) (w:=w) (base:=base) T;have Kq:=Tr (P:=P) (w:=w) (base:=base) T;have eN:=jM (P:=P) (w:=w) (base:=base) T;have Ef:=KN (P:=P) (w:=w) (base:=base) T;have eQ:=lF (P:=P) (w:=w) (base:=base) T;have jE:=qW (P:=P) (w:=w) (base:=base) T;have ux:=jR (P:=P) (w:=w) (base:=base) T;have vg:=jY (P:=P) (w:=w) (base:=base) T;refine F.okB Fl (λ vs H Q E h=>?_) (λ cdv A outer s H vs Q E hr h=>?_)
 ·obtain ⟨a,ns,rfl,_⟩:=h;rfl
 obtain ⟨a,ns,rfl,hS,h63,q⟩:=h;have lim7:∀b:Int,b.natAbs < 2 ^ 7->b.natAbs < lim:=λ b h=>Nat.lt_of_lt_of_le h (by unfold lim;exact EY (by decide))
 have p6:(2:Nat) ^ 6=64:=by decide
 refine ⟨_,(Al (Aw (i:=1) Fl.nd rfl (by first | exact Or.inl rfl | exact Or.inr rfl) (Aj qU (hr.mono (by decide)) Ai (Ad (pv 0) Ab))) (Al (Aw (i:=2) Fl.nd rfl (Or.inl rfl) (Ay Gi Ac (Ay Cu (Ay Eo (Aj Hh (hr.mono (by decide)) Ai (Ad (pv 0) (BJ Ac Ab))) Ac) Ac))) (Al (Aw (i:=3) Fl.nd rfl (Or.inl rfl) (Ay Gi Ac (Ay Cu (Ay Eo (Aj Hh (hr.mono (by decide)) Ai (Ad (pv 0) (BJ Ac Ab))) Ac) Ac))) (Al (Aw (i:=4) Fl.nd rfl (Or.inl rfl) (BK (Bb (BK (Bu (Ay Ec Ac (pv 2)) (BJ Ac Ab))) (Bb (BK (Ad (pv 2) (BJ Ac Ab))) (Bb (BK (Bu (Ay Ec Ac (pv 3)) (BJ Ac Ab))) (Bb (BK (Ad (pv 3) (BJ Ac Ab))) Ab)))))) (Al (Aw (i:=5) Fl.nd rfl (Or.inl rfl) (Aj Ha (hr.mono (by decide)) Ai (Ad (pv 1) Ab))) (Al (Lp (i:=6) Fl.nd rfl (by first | exact Or.inl rfl | exact Or.inr rfl) ["_law_k","_law_a","_law_b","_law_bench_here"] [none,none,none,some 1] rfl (Ig rfl T.enumerate (BX (Aj Tz (hr.mono (by decide)) Ai (Ad (pv 1) Ab)) Ab)) (λ _ _ _ _ _ _=>(Li (K:=K) (n:=2) rfl (Ci (Bq (i:=0) (show List.Nodup [("_law_k":Str),("_law_a":Str),("_law_b":Str),("_law_bench_here":Str)] by decide) rfl (by first | exact Or.inl rfl | exact Or.inr rfl)) (Ci (Li (K:=K) (n:=2) rfl (Ci (Bq (i:=1) (show List.Nodup [("_law_k":Str),("_law_a":Str),("_law_b":Str),("_law_bench_here":Str)] by decide) rfl (by first | exact Or.inl rfl | exact Or.inr rfl)) (Ci (Bq (i:=2) (show List.Nodup [("_law_k":Str),("_law_a":Str),("_law_b":Str),("_law_bench_here":Str)] by decide) rfl (by first | exact Or.inl rfl | exact Or.inr rfl)) Eu))) Eu)))) (λ _ _ _ _ _ _=>Gy) (λ _ _ _ _ _ _=>(BK (Bu (Ay K7 Ac (pv 0)) (Ad (pv 1) (Ad (pv 2) (Ar (Ag (Ih (K:=K)) (Ag (Zo (K:=K)) (pv 3) (Ay K7 Ac (pv 0)) (λ _ _=>rfl)) Ac (λ _ _=>rfl)) (Ar (Ag (Ih (K:=K)) (Ag (Zo (K:=K)) (pv 3) (Ay K7 Ac (pv 0)) (λ _ _=>rfl)) Ac (λ _ _=>rfl)) Ab))))))) (JX (hcell:=by decide) (hf:=(show ∀y:Str×NameKind,y∈_->y.2=NameKind.free->(defScope Jb).names.lookup y.1=some NameKind.cell by decide))) (by decide) rfl (by decide) rfl (λ i j h=>by
   rcases i with _ | _ | _ | _ | i
   ·simp at h
   ·simp at h
   ·simp at h
   ·simp at h;subst h;exact ⟨_,rfl,rfl,rfl,rfl⟩
   ·simp at h)) (Al (Aw (i:=7) Fl.nd rfl (Or.inl rfl) (Aj Uy (hr.mono (by decide)) Ai (Ad (pv 1) (Ad (pv 4) Ab)))) (Al (Be (PW.pt (pw_or (Bo (RK hr.units) (pv 5) (pv 6) (nomark _)) (pw_or1 (Bo (RK hr.units) (Aj vg (hr.mono (by decide)) Ai (BX (Aj ux (hr.mono (by decide)) Ai (Ad (pv 1) Ab)) Ab)) (pv 1) (nomark _))))) (Ao (Az DN)) Bj) (Al (DW PassesOwn.never rfl (Dw (pv 7)) (Bq (i:=8) Fl.nd rfl (by first | exact Or.inl rfl | exact Or.inr rfl)) (Ao (Be (PW.pt (pw_or (Cd (By (Aj YT (hr.mono (by decide)) Ai (Ad (pv 1) (Ad (pv 4) (Ad (pv 7) (Ad (pv 8) Ab))))))) (pw_or1 (Cd (By (Aj Kq (hr.mono (by decide)) Ai (Ad (pv 1) (Ad (pv 8) Ab)))))))) (Ao (Az DN)) Bj))) (Al (DW PassesOwn.never rfl (Dw (Ay JD (JS QR (pv 0) (Ho Ac) (Ho Ac)) (Cg (BX (CP Ea rfl T.len Dq (Ad (pv 0) Ab)) Ab)))) (Bq (i:=9) Fl.nd rfl (by first | exact Or.inl rfl | exact Or.inr rfl)) (Ao (Be (Cd (By (Aj YT (hr.mono (by decide)) Ai (Ad (pv 1) (Ad (pv 4) (Ad (pv 7) (BX (Aj eN (hr.mono (by decide)) Ai (Ad (pv 7) (Ad (pv 4) (Ad (pv 9) Ab)))) Ab))))))) (Ao (Az DN)) Bj))) (Al (Aw (i:=10) Fl.nd rfl (by first | exact Or.inl rfl | exact Or.inr rfl) (BK (BX (Aj Ef (hr.mono (by decide)) Ai (Bu (Ay Ec (Ay Cu (Aj Hh (hr.mono (by decide)) Ai (Ad (pv 0) (BJ Ac Ab))) Ac) Ac) (BJ Ac Ab))) (BX (Aj Ef (hr.mono (by decide)) Ai (Bu (Ay Ec (Ay Cu (Aj Hh (hr.mono (by decide)) Ai (Ad (pv 0) (BJ Ac Ab))) Ac) Ac) (BJ Ac Ab))) Ab)))) (Ao (Az (Ed (Aj eQ (hr.mono (by decide)) Ai (Ad (pv 1) (Ad (pv 10) (BX (Aj Hh (hr.mono (by decide)) Ai (Ad (pv 0) (BJ Ac Ab))) Ab)))) (Em (Aj jE (hr.mono (by decide)) Ai (Ad (pv 1) (Ad (pv 4) (Ad (pv 10) Ab))))))))))))))))))),?_⟩
 refine ⟨_,rfl,a,ns,rfl,hS,λ lb H1 xs g p S s1 nlb hlb hxs b84 hSl=>?_⟩
 have gd:=b84.good;have hbl:(BZ g p S).length=60:=by rw [O3,hSl]
 have hxl:xs.length=60:=by have:=hxs.len;rw [List.length_map,hbl] at this;exact this
 have short:=b84.short;have ll:=(SJ b84.gp b84.bg S 0 e1 e2 (Z4 g p));refine ⟨_,rfl,a,ns,0,rfl,hS.keep s1,by decide,λ z0=>⟨_,_,rfl,rfl,⟨by decide,by decide⟩,_,_,rfl,rfl,(by show (0:Int) < 30;decide),_,_,rfl,rfl,?_⟩⟩
 refine ⟨_,rfl,a,ns,0,rfl,hS.keep s1,by decide,λ z0'=>⟨_,_,rfl,rfl,⟨by decide,by decide⟩,_,_,rfl,rfl,(by show (0:Int) < 30;decide),_,_,rfl,rfl,?_⟩⟩
 have m1:0<=1+z0 / 6 % 30/\1+z0 / 6 % 30<=40:=by omega
 have m2:0<=1+z0' / 180 % 30/\1+z0' / 180 % 30<=40:=by omega
 dsimp only
 generalize 1+z0 / 6 % 30=wi at m1 ⊢;generalize 1+z0' / 180 % 30=st at m2 ⊢;refine ⟨_,rfl,_,_,rfl,rfl,(by show 2<=sizeLine;decide),λ x1 hx1=>?_⟩
 have u1:=Ah hx1 (.tup [.int (0 - wi),.int 1]);have d1:DV K (upd H1 x1 (.tup [.int (0 - wi),.int 1])) (.ref x1) (Af ((0 - wi:Int):Rat)):=O6;generalize upd H1 x1 (.tup [.int (0 - wi),.int 1])=H2 at u1 d1 ⊢;refine ⟨_,rfl,(by show 2<=sizeLine;decide),λ x2 hx2=>?_⟩
 have u2:=Ah hx2 (.tup [.int wi,.int 1]);have d2:DV K (upd H2 x2 (.tup [.int wi,.int 1])) (.ref x2) (Af (wi:Rat)):=O6;generalize upd H2 x2 (.tup [.int wi,.int 1])=H3 at u2 d2 ⊢;refine ⟨_,rfl,_,_,rfl,rfl,(by show 2<=sizeLine;decide),λ x3 hx3=>?_⟩
 have u3:=Ah hx3 (.tup [.int (0 - st),.int 1]);have d3:DV K (upd H3 x3 (.tup [.int (0 - st),.int 1])) (.ref x3) (Af ((0 - st:Int):Rat)):=O6;generalize upd H3 x3 (.tup [.int (0 - st),.int 1])=H4 at u3 d3 ⊢;refine ⟨_,rfl,(by show 2<=sizeLine;decide),λ x4 hx4=>?_⟩
 have u4:=Ah hx4 (.tup [.int st,.int 1]);have d4:DV K (upd H4 x4 (.tup [.int st,.int 1])) (.ref x4) (Af (st:Rat)):=O6;generalize upd H4 x4 (.tup [.int st,.int 1])=H5 at u4 d4 ⊢;refine ⟨(by show 4<=sizeLine;decide),λ xp hxp=>?_⟩
 have u5:=Ah hxp (.tup [.ref x1,.ref x2,.ref x3,.ref x4]);have dx:DV K (upd H5 xp (.tup [.ref x1,.ref x2,.ref x3,.ref x4])) (.ref xp) (HQ (Pq wi st)):=DV.upd4 hxp (d1.keep (u2.trans (u3.trans u4))) (d2.keep (u3.trans u4)) (d3.keep u4) d4;have t5:=u1.trans (u2.trans (u3.trans (u4.trans u5)));generalize upd H5 xp (.tup [.ref x1,.ref x2,.ref x3,.ref x4])=H6 at dx t5 ⊢;clear u1 u2 u3 u4 u5 d1 d2 d3 d4;have xo:=oh m1.1 m2.1;have xb:=yq m1.1 m2.1 m1.2 m2.2;generalize Pq wi st=x at dx xo xb;have fo:=b84.fo xo xb;have hb6:DV K H6 (.ref lb) (Dz (BZ g p S)):=.lst (SqL.of (t5 _ _ hlb)) (hxs.keep t5);have hlb6:=t5 _ _ hlb;have hxs6:=hxs.keep t5;have hS6:=hS.keep (s1.trans t5);refine ⟨_,rfl,.ref lb,_,6,rfl,hb6,gd,by omega,λ lm rm H7 s7 nm hlm hrm=>?_⟩
 have dm:DV K H7 (.ref lm) (Vv (Ba (BZ g p S))):=.lst (SqL.of hlm) hrm;have hd7:DV K H7 (.ref lb) (.list (((BZ g p S).map some).map Jk)):=by
  rw [List.map_map];exact hb6.keep s7
 refine ⟨_,rfl,.ref lb,_,rfl,hd7,by rw [List.length_map];omega,(λ c hc=>by
  obtain ⟨c',hc',e⟩:=List.mem_map.mp hc;cases e
  exact gd.bd _ hc'),λ lh H8 yh s8 nh hlh hyh=>⟨lh,rfl,⟨_,SqL.of hlh⟩,?_⟩⟩
 rw [Ua _ 0] at hyh;have hyl:yh.length=(Ba (BZ g p S)).length:=by have:=hyh.len;rw [List.length_map,List.length_map] at this;exact this
 have llen:(Ba (BZ g p S)).length=20:=by rw [<- hSl];exact ll.1
 have hb8:=hb6.keep (s7.trans s8);have hlb8:=(s7.trans s8) _ _ hlb6;have hxs8:=hxs6.keep (s7.trans s8);have cm:∀j:Int,CMul 3 j:=λ j=>.inl ⟨by decide,by decide⟩
 refine pJ (K:=K) (a:=lh) (xs:=yh) (λ i σ ys H'=>∃c0 c1 c2,σ=[c0,c1,c2,some (.ref lb)]/\Same H8 H'/\DVs K H' ys (((Ba (BZ g p S)).take i).map Dj)) ⟨_,_,_,rfl,Same.refl _,.nil⟩ ?_ ?_ ?_
 ·rintro i σ ys H' hi ⟨c0,c1,c2,rfl,s',hys⟩
  refine ⟨?_,SqL.of (s' _ _ hlh)⟩;have:=hys.len;rw [List.length_map,List.length_take] at this;exact Nat.le_of_lt (small1000 (by omega))
 ·rintro i hv σ ys H' pp hi ⟨c0,c1,c2,rfl,s',hys⟩ hpp
  obtain ⟨d,hd,hdv⟩:=hyh.get hi;rw [List.map_map,List.getElem?_map] at hd;cases el:(Ba (BZ g p S))[i]? with
  | none=>
   have el':(CW 0 (BZ g p S) e1 e2)[i]?=none:=el;rw [el'] at hd;cases hd
  | some l=>
  have el':(CW 0 (BZ g p S) e1 e2)[i]?=some l:=el;rw [el'] at hd;cases hd
  obtain ⟨lk,lS,_⟩:=ll.2 i l el;have bg:=aP (g:=g) (p:=p) lS;have up:=Ah hpp (.tup [.int (i:Int),hv]);have t':=s'.trans up;have et:(Ba (BZ g p S)).take (i+1)=(Ba (BZ g p S)).take i++[l]:=by rw [List.take_add_one,el];rfl
  obtain ⟨ra,av,bv,rfl,hra,hav,hbv⟩:=DV.t2 (show DV K H8 hv (.tuple [Af l.a,Af l.b]) from hdv)
  refine ⟨pp,_,rfl,SqT.of Aq,rfl,_,_,rfl,_,_,rfl,ra,_,rfl,hra.keep t',rfl,_,_,rfl,_,_,rfl,rfl,rfl,?_⟩;have hys:=hys.keep up;generalize upd H' pp (.tup [.int (i:Int),.ref ra])=G at t' hys ⊢;obtain ⟨v3,hv3,dv3⟩:∃v3,xs[3 * i]?=some v3/\DV K G v3 (Bp (.stop l.lo l.hi)):=by
   have h3:3 * i < xs.length:=by rw [hxl,<- hbl];exact Cq bg
   refine ⟨xs[3 * i],List.getElem?_eq_getElem h3,?_⟩;obtain ⟨d,hd,h⟩:=hxs8.get (List.getElem?_eq_getElem h3);rw [List.getElem?_map,bg] at hd;cases hd
   exact h.keep t'
  have at3:atI xs (3 * (i:Int))=some v3:=by
   rw [show 3 * (i:Int)=((3 * i:Nat):Int) by omega]
   exact Eh hv3
  obtain ⟨pa,w0,w1,w2,rfl,hpa,hw0,hw1,hw2⟩:=DV.t3 (show DV K G v3 (.tuple [.str "stop",Af l.lo,Af l.hi]) from dv3)
  refine ⟨_,rfl,_,_,rfl,rfl,cm _,_,rfl,_,rfl,_,rfl,_,rfl,_,_,rfl,rfl,cm _,lb,_,_,_,rfl,rfl,SqL.of (t' _ _ hlb8),at3,pa,_,_,_,rfl,rfl,hpa,rfl,?_⟩;refine ⟨_,rfl,_,rfl,_,_,rfl,rfl,cm _,lb,_,_,_,rfl,rfl,SqL.of (t' _ _ hlb8),at3,pa,_,_,_,rfl,rfl,hpa,rfl,(by show 5<=sizeLine;decide),λ pz hpz=>?_⟩
  have uz:=Ah hpz (.tup [.int (3 * (i:Int)),av,bv,w1,w2]);refine nx (Cq hi) ⟨_,_,_,rfl,t'.trans uz,?_⟩;rw [et,List.map_append];refine (hys.keep uz).append (.cons ?_ .nil);unfold Dj;rw [lk,show ((0+3 * i:Nat):Int)=3 * (i:Int) by omega]
  exact .tup (SqT.of Aq) (.cons (.int _) (.cons (hav.keep (t'.trans uz)) (.cons (hbv.keep (t'.trans uz)) (.cons (hw1.keep uz) (.cons (hw2.keep uz) .nil)))))
 rintro σ ys H9 ld ⟨c0,c1,c2,rfl,s9,hys⟩ hld
 rw [hyl,List.take_length] at hys;have u9:=Ah hld (.lst ys);have dd:DV K (upd H9 ld (.lst ys)) (.ref ld) (Vv (Ba (BZ g p S))):=.lst (SqL.of Aq) (hys.keep u9);have t9:=s7.trans (s8.trans (s9.trans u9));have dmA:=dm.keep (s8.trans (s9.trans u9));generalize upd H9 ld (.lst ys)=HA at dd t9 dmA ⊢;refine ⟨_,rfl,_,rfl,.ref lb,.ref xp,_,x,6,2,6,rfl,hb6.keep t9,dx.keep t9,gd,by omega,fo,by decide,λ lc rs HB sB nc hlc hrs=>?_⟩
 have tB:=t9.trans sB;have dc:DV K HB (.ref lc) (Ge (Fo (Ba (BZ g p S)) x)):=.lst (SqL.of hlc) hrs;refine ⟨_,rfl,_,rfl,Xn (dmA.keep sB) (dd.keep sB) (yc _) ⟨_,rfl,iteF ?_⟩⟩;refine ⟨_,rfl,.ref lb,_,rfl,hb6.keep tB,by omega,short,λ HC sC=>⟨_,rfl,by omega,short,λ lr xr HD sD nr hlr hxr=>?_⟩⟩
 have tD:=tB.trans (sC.trans sD);refine ⟨_,rfl,Xn (.lst (SqL.of hlr) hxr) (hb6.keep tD) (mK _) ⟨_,rfl,iteF ?_⟩⟩;have dcD:=dc.keep (sC.trans sD);have hlcD:=(sC.trans sD) _ _ hlc;have hrsD:=hrs.keep (sC.trans sD);have hbD:=hb6.keep tD;have dxD:=dx.keep tD;have hSD:=hS6.keep tD;have hlbD:=tD _ _ hlb6;have hxsD:=hxs6.keep tD;clear dmA dd t9 dm hyh hys hb8 hlb8 hxs8 hd7;have hself:∀c∈Fo (Ba (BZ g p S)) x,(walk (BZ g p S) c).2.isNone=true:=λ c hc=>by
  have h1:=(ZX fo.poly.es (Za _) c).mpr (vD fo.poly.es hc);rw [O2 fo c] at h1;exact (Bool.and_eq_true_iff.mp h1).2
 have hfl:=cY fo;refine ⟨_,rfl,lc,rfl,⟨_,SqL.of hlcD⟩,?_⟩;refine Fg (K:=K) (a:=lc) (xs:=rs) (λ i σ H'=>∃c8 c9 c10,σ=[some (.ref a),some (.ref lb),some (.int wi),some (.int st),some (.ref xp),some (.ref lm),some (.ref ld),some (.ref lc),c8,c9,c10]/\Same HD H') ⟨_,_,_,rfl,Same.refl _⟩ ?_ ?_ ?_
 ·rintro i σ H' hi ⟨c8,c9,c10,rfl,s'⟩
  exact SqL.of (s' _ _ hlcD)
 ·rintro i y σ H' hi ⟨c8,c9,c10,rfl,s'⟩
  obtain ⟨d,hd,hy⟩:=hrsD.get hi;obtain ⟨cr,hcr,rfl⟩:=Io hd;have hm:=List.mem_of_getElem? hcr;have rb:=fo.poly.rb cr hm;refine ⟨_,rfl,_,rfl,_,rfl,_,rfl,.ref lb,.ref xp,.ref lc,y,g,p,S,x,cr,rfl,hbD.keep s',dxD.keep s',dcD.keep s',hy.keep s',b84,xo,xb,Rb.mono rb (by decide),λ G1 w1=>⟨_,rfl,iteF ?_⟩⟩
  refine ⟨_,rfl,_,rfl,_,_,.cons (hbD.keep (s'.trans w1)) (.cons (hy.keep (s'.trans w1)) .nil),⟨_,cr,21,6,rfl,gd,rb,by omega,rfl⟩,λ gv G2 w2 hgv=>?_⟩
  obtain rfl:=hgv.bl_of;rw [hself cr hm];exact ⟨_,rfl,iteF ⟨_,_,_,rfl,s'.trans (w1.trans w2)⟩⟩
 rintro σ HE ⟨c8,c9,c10,rfl,sE⟩
 refine ⟨_,rfl,_,rfl,_,rfl,a,_,rfl,hSD.keep sE,λ p1 hp1=>?_⟩
 have v1:=Ah hp1 (.lst (cutV (ns.map V.int) (some 21) (some 31)));have z1:=dw (ns.map V.int) 21 31
 change (cutV (ns.map V.int) (some 21) (some 31)).length<=_ at z1
 have i1:=gj ns (some 21) (some 31);generalize cutV (ns.map V.int) (some 21) (some 31)=L1 at v1 z1 i1 ⊢;refine ⟨_,rfl,a,_,rfl,.inl (hSD.keep (sE.trans v1)),(by show 1<=sizeLine;decide),λ p2 hp2=>?_⟩
 generalize hn:(((ns.map V.int).length:Nat):Int)=nn;have v2:=Ah hp2 (.lst [.int nn]);refine ⟨p1,p2,_,_,rfl,rfl,v2 _ _ Aq,Aq,Nat.le_of_lt (small1000 (by simp only [List.length_cons,List.length_nil];omega)),λ p3 hp3=>⟨p3,rfl,⟨_,SqL.of Aq⟩,?_⟩⟩
 have v3:=Ah hp3 (.lst (L1++[.int nn]));have tv:=sE.trans (v1.trans (v2.trans v3));have hL:∀x∈L1++[V.int nn],∃z:Int,x=.int z:=λ x hx=>by
  rcases List.mem_append.mp hx with h | h
  ·exact i1 x h
  ·exact ⟨nn,List.mem_singleton.mp h⟩
 have hp30:upd (upd (upd HE p1 (.lst L1)) p2 (.lst [.int nn])) p3 (.lst (L1++[.int nn])) p3=some (.lst (L1++[.int nn])):=Aq;generalize upd (upd (upd HE p1 (.lst L1)) p2 (.lst [.int nn])) p3 (.lst (L1++[.int nn]))=HF at hp30 tv ⊢;generalize L1++[V.int nn]=LL at hL hp30 ⊢;refine Fg (K:=K) (a:=p3) (xs:=LL) (λ i σ H'=>∃c8 c9 c10,σ=[some (.ref a),some (.ref lb),some (.int wi),some (.int st),some (.ref xp),some (.ref lm),some (.ref ld),some (.ref lc),c8,c9,c10]/\Same HD H'/\H' p3=some (.lst LL)) ⟨_,_,_,rfl,tv,hp30⟩ ?_ ?_ ?_
 ·rintro i σ H' hi ⟨c8,c9,c10,rfl,s',h3⟩
  exact SqL.of h3
 ·rintro i y σ H' hi ⟨c8,c9,c10,rfl,s',h3⟩
  obtain ⟨z,rfl⟩:=hL y (List.mem_of_getElem? hi);refine ⟨_,rfl,_,rfl,_,rfl,_,rfl,_,rfl,_,rfl,.ref lc,.ref xp,z,_,x,rfl,dcD.keep s',dxD.keep s',fo.poly.rn,by omega,xb,λ rv G1 r w1 hrv rb=>?_⟩
  have s1':=s'.trans w1;refine ⟨.ref lb,.ref xp,.ref lc,rv,g,p,S,x,r,rfl,hbD.keep s1',dxD.keep s1',dcD.keep s1',hrv,b84,xo,xb,rb,λ G2 w2=>⟨_,rfl,iteF ?_⟩⟩
  exact ⟨_,_,_,rfl,s1'.trans w2,w2 _ _ (w1 _ _ h3)⟩
 rintro σ HG ⟨c8',c9',c10',rfl,sG,_⟩
 have hSG:=hSD.keep sG;refine ⟨_,rfl,a,ns,1,rfl,hSG,by decide,λ y1=>⟨_,_,rfl,rfl,(by show (0:Int) < 9;decide),_,_,rfl,rfl,?_⟩⟩
 have n1:-4<=y1 % 9 - 4/\y1 % 9 - 4<=4:=by omega
 dsimp only
 generalize y1 % 9 - 4=w1 at n1 ⊢;refine ⟨_,_,rfl,by decide,lim7 3 (by decide),λ q1 hq1=>?_⟩
 have e1':=Ah hq1 (.tup [.int (Fr.lt w1 3),.int (Fr.lb w1 3)]);have f1:DV K (upd HG q1 (.tup [.int (Fr.lt w1 3),.int (Fr.lb w1 3)])) (.ref q1) (Af (Rat.divInt w1 3)):=Do (H:=HG) (by decide)
 have b1:Bd 6 (Rat.divInt w1 3):=Bd.of (by decide) (by omega) (by decide)
 generalize Rat.divInt w1 3=lh0 at f1 b1;generalize upd HG q1 (.tup [.int (Fr.lt w1 3),.int (Fr.lb w1 3)])=HH at e1' f1 ⊢;refine ⟨_,rfl,a,ns,2,rfl,hSG.keep e1',by decide,λ y2=>⟨_,_,rfl,rfl,(by show (0:Int) < 9;decide),_,_,rfl,rfl,?_⟩⟩
 have n2:-4<=y2 % 9 - 4/\y2 % 9 - 4<=4:=by omega
 dsimp only
 generalize y2 % 9 - 4=w2 at n2 ⊢;refine ⟨_,_,rfl,by decide,lim7 2 (by decide),λ q2 hq2=>?_⟩
 have e2':=Ah hq2 (.tup [.int (Fr.lt w2 2),.int (Fr.lb w2 2)]);have f2:DV K (upd HH q2 (.tup [.int (Fr.lt w2 2),.int (Fr.lb w2 2)])) (.ref q2) (Af (Rat.divInt w2 2)):=Do (H:=HH) (by decide)
 have b2:Bd 6 (Rat.divInt w2 2):=Bd.of (by decide) (by omega) (by decide)
 generalize Rat.divInt w2 2=ls0 at f2 b2;generalize upd HH q2 (.tup [.int (Fr.lt w2 2),.int (Fr.lb w2 2)])=HI at e2' f2 ⊢;refine ⟨(by show 2<=sizeLine;decide),λ lp hlp=>?_⟩
 have e3':=Ah hlp (.tup [.ref q1,.ref q2]);have f3:DV K (upd HI lp (.tup [.ref q1,.ref q2])) (.ref lp) (pairD lh0 ls0):=DV.upd2 hlp (f1.keep e2') f2;have sI:=sG.trans (e1'.trans (e2'.trans e3'));generalize upd HI lp (.tup [.ref q1,.ref q2])=HJ at f3 sI ⊢;refine ⟨_,rfl,_,rfl,_,rfl,a,ns,3,rfl,hSD.keep sI,by decide,λ y3=>?_⟩
 refine ⟨.ref lb,.ref lp,y3,g,p,S,lh0,ls0,rfl,hbD.keep sI,f3,b84,b1,b2,λ HK sK=>⟨_,rfl,iteT ?_⟩⟩
 have sIK:=sI.trans sK;refine ⟨_,rfl,_,rfl,_,rfl,lb,.ref xp,.ref lp,xs,_,x,lh0,ls0,rfl,sIK _ _ hlbD,hxsD.keep sIK,hbl,dxD.keep sIK,f3.keep sK,λ HL sL=>?_⟩
 exact q _
theorem vI {fa:Addr}(F:TopFn K mg "law" Jb)(hmg:mg "law"=some (.ref fa)):∃fd,Fun K "law" "law" Jb fa fd/\∀(s:Shared) (u:Value),BindsTo s fd ⟨[u],[]⟩ [("_law_script",u)]:=by
 obtain ⟨f,fd,F,hm⟩:=F.ex;cases hmg.symm.trans hm
 obtain ⟨oc,od,kV,doc,pm,an,cdv,ct,osl,rfl,l,c⟩:=id F.ex;exact ⟨_,F,λ s u=>.of_eq rfl⟩
end
end K84
namespace K84
open PySem L2 Lib
theorem walk {l:PySem.W.OpenLaw}{q:Program}{loose:List Str}{XP:(Str->Option Value)->Heap->Prop}{YP:World->Heap->Prop}{d:DefRec}{K:Params->FrG}(hn:l.most=some 63)(hdf:d.params.defaults=[])
  (hY:∀(w:World) (h:Heap),YP w h->(K w.params).In h)
  (F:∀(w:World) (mg:Str->Option Value) (fa:Addr) (h:Heap),(K w.params).In h->h.Ns mainGlobals mg->mg d.name=some (.ref fa)->
   ∃fd:FuncData,(∀(s:Shared) (u:Value),BindsTo s fd ⟨[u],[]⟩ [("_law_script",u)])/\∀base:Heap,(K w.params).In base->base.Ns mainGlobals mg->FnOk l.prog w (K w.params) mg base (FQ l.prog w) 26 fa fd ["_law_script"] (spLaw (K w.params))):
  PySem.W.WalkO q loose XP YP l.row.toRowW d [] (λ f vs=>PySem.call f vs):=
 L2.walk_of (n:=63) (k:=26) (x:="_law_script") (CX:=λ w=>FQ l.prog w) (sp:=λ w=>spLaw (K w.params)) hn (by decide) hdf ⟨rfl,by decide,by decide⟩ hY F (λ _ _ a ns hl _ hS=>⟨a,ns,rfl,hS,hl,λ _=>rfl⟩) λ _ _ _ _ _ z=>by
  obtain ⟨_,_,_,_,_,_,_,_,_,_,_,_,q⟩:=z;exact q
end K84
end
namespace PySem.W.Fast
def tw10044662005836426334:Unit:=()
def tw10219541379042603528:Unit:=()
def tw10225043478715950068:Unit:=()
def tw10346977257907203417:Unit:=()
def tw1046315316851798877:Unit:=()
def tw10481843104407731403:Unit:=()
def tw10549087829828950384:Unit:=()
def tw1060003179500836019:Unit:=()
def tw10707639375549435533:Unit:=()
def tw10896337951666232458:Unit:=()
def tw1094069962416134779:Unit:=()
def tw11211772255814670038:Unit:=()
def tw11312424653539978382:Unit:=()
def tw11428505259550263308:Unit:=()
def tw1152989403816814323:Unit:=()
def tw11666687261479295993:Unit:=()
def tw1176622231726333848:Unit:=()
def tw11849665284875820663:Unit:=()
def tw1197837845371442906:Unit:=()
def tw12050966081852483544:Unit:=()
def tw1214080044835913777:Unit:=()
def tw12307818639869367124:Unit:=()
def tw12466861058636143040:Unit:=()
def tw12548920819868260023:Unit:=()
def tw12568276897097704890:Unit:=()
def tw1258970124555392977:Unit:=()
def tw12678139396230931562:Unit:=()
def tw12714770740724144029:Unit:=()
def tw12772616868945207756:Unit:=()
def tw12940243094329116280:Unit:=()
def tw12976815941827951518:Unit:=()
def tw13024742476674138950:Unit:=()
def tw13029370936065463056:Unit:=()
def tw13085939065054748809:Unit:=()
def tw1309123758823044064:Unit:=()
def tw13419767146472573211:Unit:=()
def tw13424798351696307227:Unit:=()
def tw13514369549552399082:Unit:=()
def tw13618222406103893886:Unit:=()
def tw13624905322775627627:Unit:=()
def tw13661539587257460290:Unit:=()
def tw13672448724270208223:Unit:=()
def tw13696322591882143549:Unit:=()
def tw13776520912535753958:Unit:=()
def tw13789232755123820152:Unit:=()
def tw13867987506547165103:Unit:=()
def tw1402999008174056945:Unit:=()
def tw14054205211407067559:Unit:=()
def tw14109677543686019255:Unit:=()
def tw14227267825288316251:Unit:=()
def tw14243393181187172990:Unit:=()
def tw14333581398617611828:Unit:=()
def tw14359740713402127117:Unit:=()
def tw14424127869046890185:Unit:=()
def tw14453783605009519812:Unit:=()
def tw14703045611257859582:Unit:=()
def tw14810020745382586672:Unit:=()
def tw14900958664020809976:Unit:=()
def tw1492011096175936877:Unit:=()
def tw1494332242267334143:Unit:=()
def tw15049212988502093964:Unit:=()
def tw15223500298003296784:Unit:=()
def tw15325976929706449359:Unit:=()
def tw1545311890426887361:Unit:=()
def tw15465722307306656664:Unit:=()
def tw15489145158693584931:Unit:=()
def tw15666927042988139440:Unit:=()
def tw15728874194126544396:Unit:=()
def tw15729660042553906227:Unit:=()
def tw15806884695386328662:Unit:=()
def tw15818330134085741504:Unit:=()
def tw15834621371398354712:Unit:=()
def tw16018776596214645844:Unit:=()
def tw16139535450669954012:Unit:=()
def tw16148965609595720073:Unit:=()
def tw16413070363195270894:Unit:=()
def tw16445348663710734367:Unit:=()
def tw16499012911615266096:Unit:=()
def tw16514214924906288804:Unit:=()
def tw16554954722047288214:Unit:=()
def tw16637022269067504073:Unit:=()
def tw16637190307199723609:Unit:=()
def tw16699527720469400882:Unit:=()
def tw16721234814310857971:Unit:=()
def tw16749284926453025625:Unit:=()
def tw16868123808737028396:Unit:=()
def tw16955047998653665675:Unit:=()
def tw16987216610683260315:Unit:=()
def tw17103833069606670047:Unit:=()
def tw17226601978201327523:Unit:=()
def tw17346758100819525469:Unit:=()
def tw17380221518686942619:Unit:=()
def tw17592001176087498893:Unit:=()
def tw17644312721360863542:Unit:=()
def tw17673854712990155904:Unit:=()
def tw17696321282052617399:Unit:=()
def tw17699741171651262614:Unit:=()
def tw17719352938421882842:Unit:=()
def tw17800577004224312047:Unit:=()
def tw17865370997038537604:Unit:=()
def tw17871955611692834531:Unit:=()
def tw1787422968571177026:Unit:=()
def tw1800558233385772591:Unit:=()
def tw18131644434858042300:Unit:=()
def tw18368051721620907768:Unit:=()
def tw18415506204438094030:Unit:=()
def tw187755662115345943:Unit:=()
def tw1877565072343025695:Unit:=()
def tw2218171167965800221:Unit:=()
def tw229604525326254358:Unit:=()
def tw2334597282501789809:Unit:=()
def tw2472325387577129743:Unit:=()
def tw2519980782118241958:Unit:=()
def tw2581662412015932585:Unit:=()
def tw267425736217457140:Unit:=()
def tw3017210408774150668:Unit:=()
def tw3019425282304407021:Unit:=()
def tw3302456452287978082:Unit:=()
def tw3345303000220699500:Unit:=()
def tw3351359546347518305:Unit:=()
def tw3520420029504172889:Unit:=()
def tw3637907238163885894:Unit:=()
def tw3672951598990889485:Unit:=()
def tw3778154044416720754:Unit:=()
def tw3882142005341641112:Unit:=()
def tw3910566275262750715:Unit:=()
def tw3916366615012957447:Unit:=()
def tw4006025723224809240:Unit:=()
def tw4063492256072732679:Unit:=()
def tw4078203278246310724:Unit:=()
def tw4129365129932311187:Unit:=()
def tw4130565578183378682:Unit:=()
def tw4199729596010765521:Unit:=()
def tw4302953206493728766:Unit:=()
def tw4316443912366419677:Unit:=()
def tw4378650735564677037:Unit:=()
def tw4594520578012048357:Unit:=()
def tw4639181910355327643:Unit:=()
def tw4718607600592936548:Unit:=()
def tw4721834109744884344:Unit:=()
def tw4920623585629449321:Unit:=()
def tw495497483434122039:Unit:=()
def tw4956160655721766014:Unit:=()
def tw4983200868548515965:Unit:=()
def tw5499636630866108242:Unit:=()
def tw5594220087009536599:Unit:=()
def tw5609832297439437494:Unit:=()
def tw5619122569273232720:Unit:=()
def tw5675857061227644155:Unit:=()
def tw5751267845884626890:Unit:=()
def tw5756114480494530298:Unit:=()
def tw606400265849942170:Unit:=()
def tw6140037282255707964:Unit:=()
def tw6458853340761926078:Unit:=()
def tw6475677462022928449:Unit:=()
def tw6659992818078573473:Unit:=()
def tw683650503774074356:Unit:=()
def tw697637341699208537:Unit:=()
def tw7120979290363077479:Unit:=()
def tw7154210140492405401:Unit:=()
def tw7214870062539523877:Unit:=()
def tw7261254460324249358:Unit:=()
def tw7309224488408546783:Unit:=()
def tw7483073717987525400:Unit:=()
def tw754251914178344140:Unit:=()
def tw7660049941752419708:Unit:=()
def tw7734507675908313444:Unit:=()
def tw7741837590467837263:Unit:=()
def tw7917966681662832546:Unit:=()
def tw8163954050935033016:Unit:=()
def tw8239514392052719483:Unit:=()
def tw8248635439467895043:Unit:=()
def tw8261045685786733445:Unit:=()
def tw8266933150003987869:Unit:=()
def tw8425576029707491270:Unit:=()
def tw8426558383466790132:Unit:=()
def tw8453142244369966471:Unit:=()
def tw8507475663149934665:Unit:=()
def tw8807829120104256790:Unit:=()
def tw8812779472638564790:Unit:=()
def tw8948382101846797864:Unit:=()
def tw9027967302402359219:Unit:=()
def tw9110515534040065228:Unit:=()
def tw9132607878608824574:Unit:=()
def tw9278335788931873322:Unit:=()
def tw9303848635313499347:Unit:=()
def tw9487151579724076989:Unit:=()
def tw9615748391262257615:Unit:=()
def tw9624753095591370031:Unit:=()
def tw971422488158301779:Unit:=()
def tw9901128861117159079:Unit:=()
def tw9907046093320216229:Unit:=()
def tw993533897716799973:Unit:=()
def tw9976635398329017169:Unit:=()
end PySem.W.Fast
open PySem PySem.W PyProof.Rows
set_option maxRecDepth 100000 in
set_option maxHeartbeats 0 in
theorem PySem.Challenge.cw_grindbench_k84_whole_sixty_pieces_holds : PySem.Challenge.rw_grindbench_k84_whole_sixty_pieces.Holds := by
 w_on;o_law;k_head;(case hw=>w_witness2)
 k_fill
 refine K84.walk (l:=PySem.Challenge.rw_grindbench_k84_whole_sixty_pieces) rfl rfl (λ w h Y=>PySem.W.kIn_of Y) ?F
 case F=>
  intro w mg fa h KX G hmg;have Ql:L2.TopFn (L2.KOf KX) mg "is_whole" K84.QT:=by
   dsimp only [L2.KOf]
   refine' L2.BV KX G ?a ?l ?c ?k
   (case a=>k_is);(case l=>k_is);(case c=>k_is);(case k=>k_is)
  have Ut:L2.TopFn (L2.KOf KX) mg "common_divisor" K84.Qn:=by
   dsimp only [L2.KOf]
   refine' L2.BV KX G ?a ?l ?c ?k
   (case a=>k_is);(case l=>k_is);(case c=>k_is);(case k=>k_is)
  have RN:L2.TopFn (L2.KOf KX) mg "is_ratio" K84.Vr:=by
   dsimp only [L2.KOf]
   refine' L2.BV KX G ?a ?l ?c ?k
   (case a=>k_is);(case l=>k_is);(case c=>k_is);(case k=>k_is)
  have Wg:L2.TopFn (L2.KOf KX) mg "ratio_of" K84.Ug:=by
   dsimp only [L2.KOf]
   refine' L2.BV KX G ?a ?l ?c ?k
   (case a=>k_is);(case l=>k_is);(case c=>k_is);(case k=>k_is)
  have Wu:L2.TopFn (L2.KOf KX) mg "sum_of" K84.Qk:=by
   dsimp only [L2.KOf]
   refine' L2.BV KX G ?a ?l ?c ?k
   (case a=>k_is);(case l=>k_is);(case c=>k_is);(case k=>k_is)
  have Vu:L2.TopFn (L2.KOf KX) mg "less_by" K84.U3:=by
   dsimp only [L2.KOf]
   refine' L2.BV KX G ?a ?l ?c ?k
   (case a=>k_is);(case l=>k_is);(case c=>k_is);(case k=>k_is)
  have Um:L2.TopFn (L2.KOf KX) mg "product_of" K84.Qd:=by
   dsimp only [L2.KOf]
   refine' L2.BV KX G ?a ?l ?c ?k
   (case a=>k_is);(case l=>k_is);(case c=>k_is);(case k=>k_is)
  have Rv:L2.TopFn (L2.KOf KX) mg "quotient_of" K84.Uv:=by
   dsimp only [L2.KOf]
   refine' L2.BV KX G ?a ?l ?c ?k
   (case a=>k_is);(case l=>k_is);(case c=>k_is);(case k=>k_is)
  have WN:L2.TopFn (L2.KOf KX) mg "is_less" K84.Qf:=by
   dsimp only [L2.KOf]
   refine' L2.BV KX G ?a ?l ?c ?k
   (case a=>k_is);(case l=>k_is);(case c=>k_is);(case k=>k_is)
  have Sw:L2.TopFn (L2.KOf KX) mg "is_stretch" K84.U7:=by
   dsimp only [L2.KOf]
   refine' L2.BV KX G ?a ?l ?c ?k
   (case a=>k_is);(case l=>k_is);(case c=>k_is);(case k=>k_is)
  have V0:L2.TopFn (L2.KOf KX) mg "look_at_stretch" K84.Rw:=by
   dsimp only [L2.KOf]
   refine' L2.BV KX G ?a ?l ?c ?k
   (case a=>k_is);(case l=>k_is);(case c=>k_is);(case k=>k_is)
  have Su:L2.TopFn (L2.KOf KX) mg "is_box" K84.Qj:=by
   dsimp only [L2.KOf]
   refine' L2.BV KX G ?a ?l ?c ?k
   (case a=>k_is);(case l=>k_is);(case c=>k_is);(case k=>k_is)
  have Ue:L2.TopFn (L2.KOf KX) mg "look_at_box" K84.Ws:=by
   dsimp only [L2.KOf]
   refine' L2.BV KX G ?a ?l ?c ?k
   (case a=>k_is);(case l=>k_is);(case c=>k_is);(case k=>k_is)
  have SN:L2.TopFn (L2.KOf KX) mg "is_piece" K84.Ln:=by
   dsimp only [L2.KOf]
   refine' L2.BV KX G ?a ?l ?c ?k
   (case a=>k_is);(case l=>k_is);(case c=>k_is);(case k=>k_is)
  have Wd:L2.TopFn (L2.KOf KX) mg "piece_of" K84.Wc:=by
   dsimp only [L2.KOf]
   refine' L2.BV KX G ?a ?l ?c ?k
   (case a=>k_is);(case l=>k_is);(case c=>k_is);(case k=>k_is)
  have Ms:L2.TopFn (L2.KOf KX) mg "look_at" K84.U0:=by
   dsimp only [L2.KOf]
   refine' L2.BV KX G ?a ?l ?c ?k
   (case a=>k_is);(case l=>k_is);(case c=>k_is);(case k=>k_is)
  have UG:L2.TopFn (L2.KOf KX) mg "table_of_rays" K84.Tf:=by
   dsimp only [L2.KOf]
   refine' L2.BV KX G ?a ?l ?c ?k
   (case a=>k_is);(case l=>k_is);(case c=>k_is);(case k=>k_is)
  have VG:L2.TopFn (L2.KOf KX) mg "table_of" K84.W2:=by
   dsimp only [L2.KOf]
   refine' L2.BV KX G ?a ?l ?c ?k
   (case a=>k_is);(case l=>k_is);(case c=>k_is);(case k=>k_is)
  have Qq:L2.TopFn (L2.KOf KX) mg "made_by" K84.Vb:=by
   dsimp only [L2.KOf]
   refine' L2.BV KX G ?a ?l ?c ?k
   (case a=>k_is);(case l=>k_is);(case c=>k_is);(case k=>k_is)
  have Nm:L2.TopFn (L2.KOf KX) mg "limits_of" K84.T4:=by
   dsimp only [L2.KOf]
   refine' L2.BV KX G ?a ?l ?c ?k
   (case a=>k_is);(case l=>k_is);(case c=>k_is);(case k=>k_is)
  have U5:L2.TopFn (L2.KOf KX) mg "is_before" K84.QC:=by
   dsimp only [L2.KOf]
   refine' L2.BV KX G ?a ?l ?c ?k
   (case a=>k_is);(case l=>k_is);(case c=>k_is);(case k=>k_is)
  have Vy:L2.TopFn (L2.KOf KX) mg "turn_of" K84.QG:=by
   dsimp only [L2.KOf]
   refine' L2.BV KX G ?a ?l ?c ?k
   (case a=>k_is);(case l=>k_is);(case c=>k_is);(case k=>k_is)
  have Uc:L2.TopFn (L2.KOf KX) mg "corners_of" K84.RC:=by
   dsimp only [L2.KOf]
   refine' L2.BV KX G ?a ?l ?c ?k
   (case a=>k_is);(case l=>k_is);(case c=>k_is);(case k=>k_is)
  have R3:L2.TopFn (L2.KOf KX) mg "edges_of" K84.Rh:=by
   dsimp only [L2.KOf]
   refine' L2.BV KX G ?a ?l ?c ?k
   (case a=>k_is);(case l=>k_is);(case c=>k_is);(case k=>k_is)
  have VH:L2.TopFn (L2.KOf KX) mg "room_at" K84.V3:=by
   dsimp only [L2.KOf]
   refine' L2.BV KX G ?a ?l ?c ?k
   (case a=>k_is);(case l=>k_is);(case c=>k_is);(case k=>k_is)
  have Sd:L2.TopFn (L2.KOf KX) mg "crossing_of" K84.VP:=by
   dsimp only [L2.KOf]
   refine' L2.BV KX G ?a ?l ?c ?k
   (case a=>k_is);(case l=>k_is);(case c=>k_is);(case k=>k_is)
  have Qy:L2.TopFn (L2.KOf KX) mg "cut_by" K84.O9:=by
   dsimp only [L2.KOf]
   refine' L2.BV KX G ?a ?l ?c ?k
   (case a=>k_is);(case l=>k_is);(case c=>k_is);(case k=>k_is)
  have QL:L2.TopFn (L2.KOf KX) mg "from_the_least" K84.Rm:=by
   dsimp only [L2.KOf]
   refine' L2.BV KX G ?a ?l ?c ?k
   (case a=>k_is);(case l=>k_is);(case c=>k_is);(case k=>k_is)
  have Nb:L2.TopFn (L2.KOf KX) mg "field_of" K84.Sv:=by
   dsimp only [L2.KOf]
   refine' L2.BV KX G ?a ?l ?c ?k
   (case a=>k_is);(case l=>k_is);(case c=>k_is);(case k=>k_is)
  have Qz:L2.TopFn (L2.KOf KX) mg "is_within" K84.Sx:=by
   dsimp only [L2.KOf]
   refine' L2.BV KX G ?a ?l ?c ?k
   (case a=>k_is);(case l=>k_is);(case c=>k_is);(case k=>k_is)
  have Ri:L2.TopFn (L2.KOf KX) mg "in_order" K84.RL:=by
   dsimp only [L2.KOf]
   refine' L2.BV KX G ?a ?l ?c ?k
   (case a=>k_is);(case l=>k_is);(case c=>k_is);(case k=>k_is)
  have VR:L2.TopFn (L2.KOf KX) mg "lesser_of" K84.WM:=by
   dsimp only [L2.KOf]
   refine' L2.BV KX G ?a ?l ?c ?k
   (case a=>k_is);(case l=>k_is);(case c=>k_is);(case k=>k_is)
  have S6:L2.TopFn (L2.KOf KX) mg "greater_of" K84.Q6:=by
   dsimp only [L2.KOf]
   refine' L2.BV KX G ?a ?l ?c ?k
   (case a=>k_is);(case l=>k_is);(case c=>k_is);(case k=>k_is)
  have Qw:L2.TopFn (L2.KOf KX) mg "slants_by" K84.V6:=by
   dsimp only [L2.KOf]
   refine' L2.BV KX G ?a ?l ?c ?k
   (case a=>k_is);(case l=>k_is);(case c=>k_is);(case k=>k_is)
  have Mx:L2.TopFn (L2.KOf KX) mg "slants_of" K84.S7:=by
   dsimp only [L2.KOf]
   refine' L2.BV KX G ?a ?l ?c ?k
   (case a=>k_is);(case l=>k_is);(case c=>k_is);(case k=>k_is)
  have U9:L2.TopFn (L2.KOf KX) mg "height_at" K84.RJ:=by
   dsimp only [L2.KOf]
   refine' L2.BV KX G ?a ?l ?c ?k
   (case a=>k_is);(case l=>k_is);(case c=>k_is);(case k=>k_is)
  have Vm:L2.TopFn (L2.KOf KX) mg "spots_of" K84.Uz:=by
   dsimp only [L2.KOf]
   refine' L2.BV KX G ?a ?l ?c ?k
   (case a=>k_is);(case l=>k_is);(case c=>k_is);(case k=>k_is)
  have Vw:L2.TopFn (L2.KOf KX) mg "show_ratio" K84.Sq:=by
   dsimp only [L2.KOf]
   refine' L2.BV KX G ?a ?l ?c ?k
   (case a=>k_is);(case l=>k_is);(case c=>k_is);(case k=>k_is)
  have RW:L2.TopFnA (L2.KOf KX) mg "read_part_figures" "read_part" K84.TV:=by
   dsimp only [L2.KOf]
   refine' L2.bV KX G ?a ?l ?c ?k
   (case a=>k_is);(case l=>k_is);(case c=>k_is);(case k=>k_is)
  have Qt:L2.TopFn (L2.KOf KX) mg "read_ratio" K84.Kh:=by
   dsimp only [L2.KOf]
   refine' L2.BV KX G ?a ?l ?c ?k
   (case a=>k_is);(case l=>k_is);(case c=>k_is);(case k=>k_is)
  have Wv:L2.TopFn (L2.KOf KX) mg "words_of" K84.W6:=by
   dsimp only [L2.KOf]
   refine' L2.BV KX G ?a ?l ?c ?k
   (case a=>k_is);(case l=>k_is);(case c=>k_is);(case k=>k_is)
  have Vl:L2.TopFn (L2.KOf KX) mg "read_number" K84.Q5:=by
   dsimp only [L2.KOf]
   refine' L2.BV KX G ?a ?l ?c ?k
   (case a=>k_is);(case l=>k_is);(case c=>k_is);(case k=>k_is)
  have cj:L2.TopFn (L2.KOf KX) mg "read_times" K84.XS:=by
   dsimp only [L2.KOf]
   refine' L2.BV KX G ?a ?l ?c ?k
   (case a=>k_is);(case l=>k_is);(case c=>k_is);(case k=>k_is)
  have Qg:L2.TopFn (L2.KOf KX) mg "read_round" K84.RT:=by
   dsimp only [L2.KOf]
   refine' L2.BV KX G ?a ?l ?c ?k
   (case a=>k_is);(case l=>k_is);(case c=>k_is);(case k=>k_is)
  have S5:L2.TopFnA (L2.KOf KX) mg "read_part_texts" "read_part" K84.Vk:=by
   dsimp only [L2.KOf]
   refine' L2.bV KX G ?a ?l ?c ?k
   (case a=>k_is);(case l=>k_is);(case c=>k_is);(case k=>k_is)
  have Tn:L2.TopFn (L2.KOf KX) mg "read_parts" K84.Ul:=by
   dsimp only [L2.KOf]
   refine' L2.BV KX G ?a ?l ?c ?k
   (case a=>k_is);(case l=>k_is);(case c=>k_is);(case k=>k_is)
  have Oq:L2.TopFn (L2.KOf KX) mg "count_of" K84.VJ:=by
   dsimp only [L2.KOf]
   refine' L2.BV KX G ?a ?l ?c ?k
   (case a=>k_is);(case l=>k_is);(case c=>k_is);(case k=>k_is)
  have Oi:L2.TopFn (L2.KOf KX) mg "told_out" K84.RQ:=by
   dsimp only [L2.KOf]
   refine' L2.BV KX G ?a ?l ?c ?k
   (case a=>k_is);(case l=>k_is);(case c=>k_is);(case k=>k_is)
  have Us:L2.TopFn (L2.KOf KX) mg "read_bench" K84.U8:=by
   dsimp only [L2.KOf]
   refine' L2.BV KX G ?a ?l ?c ?k
   (case a=>k_is);(case l=>k_is);(case c=>k_is);(case k=>k_is)
  have Uh:L2.TopFn (L2.KOf KX) mg "show_piece" K84.Tj:=by
   dsimp only [L2.KOf]
   refine' L2.BV KX G ?a ?l ?c ?k
   (case a=>k_is);(case l=>k_is);(case c=>k_is);(case k=>k_is)
  have R5:L2.TopFn (L2.KOf KX) mg "show_bench" K84.TX:=by
   dsimp only [L2.KOf]
   refine' L2.BV KX G ?a ?l ?c ?k
   (case a=>k_is);(case l=>k_is);(case c=>k_is);(case k=>k_is)
  have W9:L2.TopFn (L2.KOf KX) mg "walk_of" K84.WK:=by
   dsimp only [L2.KOf]
   refine' L2.BV KX G ?a ?l ?c ?k
   (case a=>k_is);(case l=>k_is);(case c=>k_is);(case k=>k_is)
  have Uo:L2.TopFn (L2.KOf KX) mg "goes_by" K84.Vh:=by
   dsimp only [L2.KOf]
   refine' L2.BV KX G ?a ?l ?c ?k
   (case a=>k_is);(case l=>k_is);(case c=>k_is);(case k=>k_is)
  have S8:L2.TopFn (L2.KOf KX) mg "_law_cell_at" K84.Ti:=by
   dsimp only [L2.KOf]
   refine' L2.BV KX G ?a ?l ?c ?k
   (case a=>k_is);(case l=>k_is);(case c=>k_is);(case k=>k_is)
  have Uq:L2.TopFn (L2.KOf KX) mg "_law_mix" K84.QZ:=by
   dsimp only [L2.KOf]
   refine' L2.BV KX G ?a ?l ?c ?k
   (case a=>k_is);(case l=>k_is);(case c=>k_is);(case k=>k_is)
  have R6:L2.TopFn (L2.KOf KX) mg "_law_lowest" K84.Q4:=by
   dsimp only [L2.KOf]
   refine' L2.BV KX G ?a ?l ?c ?k
   (case a=>k_is);(case l=>k_is);(case c=>k_is);(case k=>k_is)
  have Tu:L2.TopFn (L2.KOf KX) mg "_law_sum" K84.TQ:=by
   dsimp only [L2.KOf]
   refine' L2.BV KX G ?a ?l ?c ?k
   (case a=>k_is);(case l=>k_is);(case c=>k_is);(case k=>k_is)
  have Rp:L2.TopFn (L2.KOf KX) mg "_law_product" K84.T7:=by
   dsimp only [L2.KOf]
   refine' L2.BV KX G ?a ?l ?c ?k
   (case a=>k_is);(case l=>k_is);(case c=>k_is);(case k=>k_is)
  have Rz:L2.TopFn (L2.KOf KX) mg "_law_less" K84.V9:=by
   dsimp only [L2.KOf]
   refine' L2.BV KX G ?a ?l ?c ?k
   (case a=>k_is);(case l=>k_is);(case c=>k_is);(case k=>k_is)
  have Vp:L2.TopFn (L2.KOf KX) mg "_law_between" K84.WF:=by
   dsimp only [L2.KOf]
   refine' L2.BV KX G ?a ?l ?c ?k
   (case a=>k_is);(case l=>k_is);(case c=>k_is);(case k=>k_is)
  have QV:L2.TopFn (L2.KOf KX) mg "_law_bench" K84.TF:=by
   dsimp only [L2.KOf]
   refine' L2.BV KX G ?a ?l ?c ?k
   (case a=>k_is);(case l=>k_is);(case c=>k_is);(case k=>k_is)
  have Qe:L2.TopFn (L2.KOf KX) mg "_law_heights" K84.Lq:=by
   dsimp only [L2.KOf]
   refine' L2.BV KX G ?a ?l ?c ?k
   (case a=>k_is);(case l=>k_is);(case c=>k_is);(case k=>k_is)
  have Ur:L2.TopFn (L2.KOf KX) mg "_law_good" K84.T6:=by
   dsimp only [L2.KOf]
   refine' L2.BV KX G ?a ?l ?c ?k
   (case a=>k_is);(case l=>k_is);(case c=>k_is);(case k=>k_is)
  have RD:L2.TopFn (L2.KOf KX) mg "_law_ray" K84.Mp:=by
   dsimp only [L2.KOf]
   refine' L2.BV KX G ?a ?l ?c ?k
   (case a=>k_is);(case l=>k_is);(case c=>k_is);(case k=>k_is)
  have Wm:L2.TopFn (L2.KOf KX) mg "_law_lamp_good" K84.Ml:=by
   dsimp only [L2.KOf]
   refine' L2.BV KX G ?a ?l ?c ?k
   (case a=>k_is);(case l=>k_is);(case c=>k_is);(case k=>k_is)
  have Ww:L2.TopFn (L2.KOf KX) mg "_law_too_long" K84.QS:=by
   dsimp only [L2.KOf]
   refine' L2.BV KX G ?a ?l ?c ?k
   (case a=>k_is);(case l=>k_is);(case c=>k_is);(case k=>k_is)
  have lq:L2.TopFn (L2.KOf KX) mg "law" K84.Jb:=by
   dsimp only [L2.KOf]
   refine' L2.BV KX G ?a ?l ?c ?k
   (case a=>k_is);(case l=>k_is);(case c=>k_is);(case k=>k_is)
  have gr:mg "abs"=none:=by
   refine' PySem.W.mg_none_of KX G ?a
   (case a=>k_is)
  have wQ:mg "all"=none:=by
   refine' PySem.W.mg_none_of KX G ?a
   (case a=>k_is)
  have nu:mg "bool"=none:=by
   refine' PySem.W.mg_none_of KX G ?a
   (case a=>k_is)
  have nZ:mg "enumerate"=none:=by
   refine' PySem.W.mg_none_of KX G ?a
   (case a=>k_is)
  have wJ:mg "int"=none:=by
   refine' PySem.W.mg_none_of KX G ?a
   (case a=>k_is)
  have pL:mg "isinstance"=none:=by
   refine' PySem.W.mg_none_of KX G ?a
   (case a=>k_is)
  have sy:mg "len"=none:=by
   refine' PySem.W.mg_none_of KX G ?a
   (case a=>k_is)
  have m5:mg "list"=none:=by
   refine' PySem.W.mg_none_of KX G ?a
   (case a=>k_is)
  have mC:mg "range"=none:=by
   refine' PySem.W.mg_none_of KX G ?a
   (case a=>k_is)
  have wW:mg "str"=none:=by
   refine' PySem.W.mg_none_of KX G ?a
   (case a=>k_is)
  have gD:mg "tuple"=none:=by
   refine' PySem.W.mg_none_of KX G ?a
   (case a=>k_is)
  have yp:mg "zip"=none:=by
   refine' PySem.W.mg_none_of KX G ?a
   (case a=>k_is)
  have X0:∃ad,K84.Exc (L2.KOf KX) mg ad:=by
   dsimp only [L2.KOf]
   refine' ⟨_,K84.oR KX G ?m_BenchError ?Py ?M3 ?Pg ?m_NoBench ?Nk ?MN ?Kg ?Ko ?Kd ?m_GAP ?m_GLASS ?m_STOP ?m_MOST_PIECES ?m_FIGURES ?m_MOST_FIGURES ?m_PARTED ?m_TIMES ?Mg ?NQ ?Np ?Pn ?WR ?x_NoText_NoText ?x_NoBench_NoBench ?ecl_NoBench ?ega_NoBench ?egt_NoBench ?eha_NoBench ?ehn_NoBench ?eht_NoBench ?ehm_NoBench ?ehb_NoBench ?pg_Gap ?hd_Gap ?po_Gap ?sa_Gap ?mk_Gap_init ?a_Gap_init ?fn_Gap_init ?kc_Gap_init ?l_Gap_init ?Qa ?kp_Gap_init ?a_Gap_lets ?fn_Gap_lets ?kp_Gap_lets ?l_Gap_lets ?QH ?a_Gap_bent ?fn_Gap_bent ?kp_Gap_bent ?l_Gap_bent ?VD ?n_Gap_length ?pg_Glass ?hd_Glass ?po_Glass ?sa_Glass ?mk_Glass_init ?a_Glass_init ?fn_Glass_init ?kc_Glass_init ?l_Glass_init ?VL ?kp_Glass_init ?a_Glass_lets ?fn_Glass_lets ?kp_Glass_lets ?l_Glass_lets ?R9 ?a_Glass_bent ?fn_Glass_bent ?kp_Glass_bent ?l_Glass_bent ?Wj ?n_Glass_strength ?pg_Stop ?hd_Stop ?po_Stop ?sa_Stop ?mk_Stop_init ?a_Stop_init ?fn_Stop_init ?kc_Stop_init ?l_Stop_init ?Rc ?kp_Stop_init ?a_Stop_lets ?fn_Stop_lets ?kp_Stop_lets ?l_Stop_lets ?Sg ?a_Stop_bent ?fn_Stop_bent ?kp_Stop_bent ?l_Stop_bent ?Vn ?n_Stop_low ?n_Stop_high ?pg_Reader ?hd_Reader ?po_Reader ?sa_Reader ?mk_Reader_init ?a_Reader_init ?fn_Reader_init ?kc_Reader_init ?l_Reader_init ?Vg ?kp_Reader_init ?a_Reader_is_done ?fn_Reader_is_done ?kp_Reader_is_done ?l_Reader_is_done ?Th ?a_Reader_take ?fn_Reader_take ?kp_Reader_take ?l_Reader_take ?Tg ?a_Reader_take_if ?fn_Reader_take_if ?kp_Reader_take_if ?l_Reader_take_if ?Ry ?n_Reader_words ?n_Reader_place ?ob_NoBench_init ?Rg ?it_NoBench_init ?kp0_NoBench_init ?hm_NoBench_init ?hd_NoBench_init ?fn_NoBench_init ?sa_NoBench_init ?na_NoBench_init ?rd_NoBench_init ?fc_NoBench_init ?sg_NoBench_init ?l_NoBench_init ?WW ?kp_NoBench_init ?m_NOUGHT ?lk_NOUGHT ?m_ONE ?lk_ONE⟩
   (case m_BenchError=>k_is);(case Py=>k_is);(case M3=>k_is);(case Pg=>k_is);(case m_NoBench=>k_is);(case Nk=>k_is);(case MN=>k_is);(case Kg=>k_is);(case Ko=>k_is);(case Kd=>k_is);(case m_GAP=>k_is);(case m_GLASS=>k_is);(case m_STOP=>k_is);(case m_MOST_PIECES=>k_is);(case m_FIGURES=>k_is);(case m_MOST_FIGURES=>k_is);(case m_PARTED=>k_is);(case m_TIMES=>k_is);(case Mg=>k_is);(case NQ=>k_is);(case Np=>k_is);(case Pn=>k_is);(case WR=>k_exc);(case x_NoText_NoText=>kts_exm);(case x_NoBench_NoBench=>kts_exm);(case ecl_NoBench=>k_is);(case ega_NoBench=>k_is);(case egt_NoBench=>k_is);(case eha_NoBench=>k_is);(case ehn_NoBench=>k_is);(case eht_NoBench=>k_is);(case ehm_NoBench=>k_is);(case ehb_NoBench=>k_is);(case pg_Gap=>k_is);(case hd_Gap=>k_is);(case po_Gap=>k_is);(case sa_Gap=>k_is);(case mk_Gap_init=>k_is);(case a_Gap_init=>k_is);(case fn_Gap_init=>k_is);(case kc_Gap_init=>k_is);(case l_Gap_init=>k_is);(case Qa=>k_is);(case kp_Gap_init=>k_is);(case a_Gap_lets=>k_is);(case fn_Gap_lets=>k_is);(case kp_Gap_lets=>k_is);(case l_Gap_lets=>k_is);(case QH=>k_is);(case a_Gap_bent=>k_is);(case fn_Gap_bent=>k_is);(case kp_Gap_bent=>k_is);(case l_Gap_bent=>k_is);(case VD=>k_is);(case n_Gap_length=>k_is);(case pg_Glass=>k_is);(case hd_Glass=>k_is);(case po_Glass=>k_is);(case sa_Glass=>k_is);(case mk_Glass_init=>k_is);(case a_Glass_init=>k_is);(case fn_Glass_init=>k_is);(case kc_Glass_init=>k_is);(case l_Glass_init=>k_is);(case VL=>k_is);(case kp_Glass_init=>k_is);(case a_Glass_lets=>k_is);(case fn_Glass_lets=>k_is);(case kp_Glass_lets=>k_is);(case l_Glass_lets=>k_is);(case R9=>k_is);(case a_Glass_bent=>k_is);(case fn_Glass_bent=>k_is);(case kp_Glass_bent=>k_is);(case l_Glass_bent=>k_is);(case Wj=>k_is);(case n_Glass_strength=>k_is);(case pg_Stop=>k_is);(case hd_Stop=>k_is);(case po_Stop=>k_is);(case sa_Stop=>k_is);(case mk_Stop_init=>k_is);(case a_Stop_init=>k_is);(case fn_Stop_init=>k_is);(case kc_Stop_init=>k_is);(case l_Stop_init=>k_is);(case Rc=>k_is);(case kp_Stop_init=>k_is);(case a_Stop_lets=>k_is);(case fn_Stop_lets=>k_is);(case kp_Stop_lets=>k_is);(case l_Stop_lets=>k_is);(case Sg=>k_is);(case a_Stop_bent=>k_is);(case fn_Stop_bent=>k_is);(case kp_Stop_bent=>k_is);(case l_Stop_bent=>k_is);(case Vn=>k_is);(case n_Stop_low=>k_is);(case n_Stop_high=>k_is);(case pg_Reader=>k_is);(case hd_Reader=>k_is);(case po_Reader=>k_is);(case sa_Reader=>k_is);(case mk_Reader_init=>k_is);(case a_Reader_init=>k_is);(case fn_Reader_init=>k_is);(case kc_Reader_init=>k_is);(case l_Reader_init=>k_is);(case Vg=>k_is);(case kp_Reader_init=>k_is);(case a_Reader_is_done=>k_is);(case fn_Reader_is_done=>k_is);(case kp_Reader_is_done=>k_is);(case l_Reader_is_done=>k_is);(case Th=>k_is);(case a_Reader_take=>k_is);(case fn_Reader_take=>k_is);(case kp_Reader_take=>k_is);(case l_Reader_take=>k_is);(case Tg=>k_is);(case a_Reader_take_if=>k_is);(case fn_Reader_take_if=>k_is);(case kp_Reader_take_if=>k_is);(case l_Reader_take_if=>k_is);(case Ry=>k_is);(case n_Reader_words=>k_is);(case n_Reader_place=>k_is);(case ob_NoBench_init=>k_is);(case Rg=>k_exc);(case it_NoBench_init=>k_is);(case kp0_NoBench_init=>k_is);(case hm_NoBench_init=>k_is);(case hd_NoBench_init=>k_is);(case fn_NoBench_init=>k_is);(case sa_NoBench_init=>k_is);(case na_NoBench_init=>k_is);(case rd_NoBench_init=>k_is);(case fc_NoBench_init=>k_is);(case sg_NoBench_init=>k_is);(case l_NoBench_init=>k_is);(case WW=>k_is);(case kp_NoBench_init=>k_is);(case m_NOUGHT=>k_is);(case lk_NOUGHT=>k_is);(case m_ONE=>k_is);(case lk_ONE=>k_is)
  obtain ⟨ad,X0⟩:=X0;obtain ⟨fd,FL,bL⟩:=K84.vI lq hmg;exact ⟨fd,bL,λ base _ _=>L2.FnB.ok (K84.pF ⟨X0,gr,wQ,nu,nZ,wJ,pL,sy,m5,mC,wW,gD,yp,Ql,Ut,RN,Wg,Wu,Vu,Um,Rv,WN,Sw,V0,Su,Ue,SN,Wd,Ms,UG,VG,Qq,Nm,U5,Vy,Uc,R3,VH,Sd,Qy,QL,Nb,Qz,Ri,VR,S6,Qw,Mx,U9,Vm,Vw,RW,Qt,Wv,Vl,cj,Qg,S5,Tn,Oq,Oi,Us,Uh,R5,W9,Uo,S8,Uq,R6,Tu,Rp,Rz,Vp,QV,Qe,Ur,RD,Wm,Ww⟩ FL)⟩
#print axioms PySem.Challenge.cw_grindbench_k84_whole_sixty_pieces_holds
