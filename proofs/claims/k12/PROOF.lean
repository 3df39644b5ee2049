import PyProof.Rows.All
import Wide.All
import OpenK.AllK
import Wide.FinOn
import Lean
import PyProof.EqAt
import PyProof.EqKinds
import PyProof.TupleCall
import PySem.Challenge.RW_grindbench_k12_texts_of_no_bench
set_option Elab.async false
set_option linter.all false
set_option maxRecDepth 100000
set_option maxHeartbeats 1000000
namespace L2
open PySem PySem.Spec PyProof.Rows
abbrev Key := Sum Int Str
def keyIs : Key → Value → Bool
  | .inl k, v => Value.isInt k v
  | .inr x, v => Value.isStrOf x v
def keyH (w : World) : Key → Int
  | .inl k => hashInt k
  | .inr x => hashStr w x
theorem keyIs_shape : ∀ {k : Key} {v : Value}, keyIs k v = true → (∃ i t, k = Sum.inl i ∧ v = Value.int i t) ∨ (∃ x t, k = Sum.inr x ∧ v = Value.str x t)
  | .inl i, v, h => by
    obtain ⟨t, e⟩ := Value.isInt_shape (k := i) (v := v) h
    exact .inl ⟨i, t, rfl, e⟩
  | .inr x, v, h => by
    obtain ⟨t, e⟩ := Value.isStrOf_shape (x := x) (v := v) h
    exact .inr ⟨x, t, rfl, e⟩
theorem keyIs_str (x : Str) (t : Tok) : keyIs (.inr x) (.str x t) = true := by simp [keyIs, Value.isStrOf]
theorem key_ll (a b : Int) : decide ((Sum.inl a : Key) = Sum.inl b) = (a == b) := by
  by_cases e : a = b
  · subst e; simp
  · have h : ¬ (Sum.inl a : Key) = Sum.inl b := fun q => e (Sum.inl.inj q)
    rw [decide_eq_false h]
    exact (beq_eq_false_iff_ne.mpr e).symm
theorem key_rr (a b : Str) : decide ((Sum.inr a : Key) = Sum.inr b) = decide (a = b) := by
  by_cases e : a = b
  · subst e; simp
  · have h : ¬ (Sum.inr a : Key) = Sum.inr b := fun q => e (Sum.inr.inj q)
    rw [decide_eq_false h, decide_eq_false e]
theorem key_lr (a : Int) (b : Str) : decide ((Sum.inl a : Key) = Sum.inr b) = false := decide_eq_false (fun q => nomatch q)
theorem key_rl (a : Str) (b : Int) : decide ((Sum.inr a : Key) = Sum.inl b) = false := decide_eq_false (fun q => nomatch q)
def mixKind (prog : Program) (w : World) : PySem.KeyKind prog w Key where
  is := keyIs
  hash := keyH w
  inj := fun v a b ha hb => by
    rcases keyIs_shape ha with ⟨i, t, rfl, rfl⟩ | ⟨x, t, rfl, rfl⟩
    · rcases keyIs_shape hb with ⟨j, u, rfl, e⟩ | ⟨y, u, rfl, e⟩
      · injection e with e1 _; rw [e1]
      · exact nomatch e
    · rcases keyIs_shape hb with ⟨j, u, rfl, e⟩ | ⟨y, u, rfl, e⟩
      · exact nomatch e
      · injection e with e1 _; rw [e1]
  byValue := fun k v h => by
    rcases keyIs_shape h with ⟨i, t, rfl, rfl⟩ | ⟨x, t, rfl, rfl⟩ <;> rfl
  pyHash := fun hv h => by
    rcases keyIs_shape hv with ⟨i, t, rfl, rfl⟩ | ⟨x, t, rfl, rfl⟩
    · exact wpAny_pyHash_int h
    · exact wpAny_pyHash_str h
  eqBool := fun hu hv h => by
    rcases keyIs_shape hu with ⟨i, t, rfl, rfl⟩ | ⟨x, t, rfl, rfl⟩
    · rcases keyIs_shape hv with ⟨j, u, rfl, rfl⟩ | ⟨y, u, rfl, rfl⟩
      · rw [key_ll] at h; exact wpAny_eqBool_int h
      · rw [key_lr] at h; exact SeqAt.EqAt.int_str i t y u _ _ _ _ h
    · rcases keyIs_shape hv with ⟨j, u, rfl, rfl⟩ | ⟨y, u, rfl, rfl⟩
      · rw [key_rl] at h; exact SeqAt.EqAt.str_int x t j u _ _ _ _ h
      · rw [key_rr] at h; exact wpAny_eqBool_str h
  «strs» := fun k x t v h => by
    rcases keyIs_shape h with ⟨i, u, rfl, e⟩ | ⟨y, u, rfl, e⟩
    · exact nomatch e
    · injection e with e1 _
      subst e1
      cases v <;> rfl
theorem mixKind_str (prog : Program) (w : World) (x : Str) (t : Tok) : (mixKind prog w).is (.inr x) (.str x t) = true := keyIs_str x t
end L2
namespace L2
open PySem PySem.Spec PyProof.Rows
abbrev NZ := {t : Tok // t ≠ 0}
inductive V where
  | non | bl (b : Bool) | int (i : Int) | str (x : Str) | byt (b : Array UInt8) | flt (b : UInt64) | ref (a : Addr) | ty (n : String)
  deriving DecidableEq
def RelV : V → Value → Prop
  | .non, u => u = Value.none
  | .bl b, u => u = Value.bool b
  | .int i, u => ∃ t, u = Value.int i t
  | .str x, u => ∃ t : NZ, u = Value.str x t.1
  | .byt b, u => ∃ t, u = Value.bytes b t
  | .flt b, u => ∃ t, u = Value.float b t
  | .ref a, u => u = Value.ref a
  | .ty n, u => u = Value.type n
abbrev Vals : List V → List Value → Prop := Paired RelV
theorem Vals.length {xs : List V} {us : List Value} (r : Vals xs us) : xs.length = us.length := Paired.length r
theorem Vals.get : ∀ {xs : List V} {us : List Value} {i : Nat} {x : V}, Vals xs us → xs[i]? = some x → ∃ u, us[i]? = some u ∧ RelV x u
  | _, _, _, _, .nil, e => by simp at e
  | _, _, 0, _, .cons r _, e => by simp at e; subst e; exact ⟨_, rfl, r⟩
  | _, _, i + 1, x, .cons _ t, e => by
    obtain ⟨u, h1, h2⟩ := Vals.get (i := i) (x := x) t (by simpa using e)
    exact ⟨u, by simpa using h1, h2⟩
theorem Vals.set {x : V} {u : Value} (r : RelV x u) : ∀ {xs : List V} {us : List Value} (i : Nat), Vals xs us → Vals (xs.set i x) (us.set i u)
  | _, _, _, .nil => .nil
  | _, _, 0, .cons _ t => .cons r t
  | _, _, i + 1, .cons q t => .cons q (Vals.set r i t)
theorem Vals.append : ∀ {xs ys : List V} {us ws : List Value}, Vals xs us → Vals ys ws → Vals (xs ++ ys) (us ++ ws)
  | _, _, _, _, .nil, s => s
  | _, _, _, _, .cons r t, s => .cons r (Vals.append t s)
theorem Vals.take : ∀ {xs : List V} {us : List Value} (n : Nat), Vals xs us → Vals (xs.take n) (us.take n)
  | _, _, 0, _ => .nil
  | _, _, _ + 1, .nil => .nil
  | _, _, n + 1, .cons r t => .cons r (Vals.take n t)
theorem Vals.drop : ∀ {xs : List V} {us : List Value} (n : Nat), Vals xs us → Vals (xs.drop n) (us.drop n)
  | _, _, 0, r => r
  | _, _, _ + 1, .nil => .nil
  | _, _, n + 1, .cons _ t => Vals.drop n t
def RelO : Option V → Option Value → Prop
  | some v, some u => RelV v u
  | none, none => True
  | _, _ => False
def KV {κ : Type} : List (κ × V) → List (κ × Value) → Prop := Paired fun (p : κ × V) (q : κ × Value) => p.1 = q.1 ∧ RelV p.2 q.2
def kV : Key → V
  | .inl i => .int i
  | .inr x => .str x
inductive HO where
  /-- a list -/
  | lst (xs : List V)
  /-- a tuple (never changes) -/
  | tup (xs : List V)
  /-- a dict whose keys are ints and texts; one whose keys are tuples of ints and texts (the empty one is both) -/
  | dK (kvs : List (Key × V)) | dT (kvs : List (List Key × V))
  /-- a set of ints: its members, its size -/
  | set (S : Int → Bool) (n : Nat)
  /-- an instance of the class at C, its dict at dx, its attributes -/
  | ins (C dx : Addr) (fs : List (Str × V))
  /-- the dict of the instance at x -/
  | own (x : Addr)
  /-- the dict of an exception -/
  | xd (fs : List (Str × V))
  /-- a bound method, f of x -/
  | met (f x : Addr)
  /-- a range object lo, lo + 1, .. below hi -/
  | rng (lo hi : Int)
  /-- a thing that is known to the object (the script; a dict while a loop walks it): read, never written while it is so -/
  | frz (o : Obj) (u : HO)
  /-- a code object's table -/
  | tbl (ps : Array Value)
  /-- any other thing, by what is true of its one object (a def of one's own: SetO a S n := HO.ext fun h => ..) -/
  | ext (φ : Heap → Prop)
abbrev Hp := Addr → Option HO
def upd (H : Hp) (a : Addr) (o : HO) : Hp := fun b => if b = a then some o else H b
theorem upd_same {H : Hp} {a : Addr} {o : HO} : upd H a o a = some o := by unfold upd; rw [if_pos rfl]
theorem upd_ne {H : Hp} {a b : Addr} {o : HO} (h : b ≠ a) : upd H a o b = H b := by unfold upd; rw [if_neg h]
theorem upd_upd {H : Hp} {a : Addr} {o u : HO} : upd (upd H a o) a u = upd H a u := by
  funext b; unfold upd; split <;> rfl
theorem ne_of_none {H : Hp} {a b : Addr} {o : HO} (h : H a = some o) (h' : H b = none) : a ≠ b := by
  intro e; subst e; rw [h] at h'; cases h'
section
variable (P : Program) (w : World)
def ObjOk (H : Hp) (h : Heap) (a : Addr) : HO → Prop
  | .lst xs => xs.length ≤ sizeLine ∧ ∃ (its : List Value) (n : Nat), Vals xs its ∧ h.get? a = some { cls := .type "list", data := .seq its.toArray n }
  | .tup xs => xs.length ≤ sizeLine ∧ ∃ its : List Value, Vals xs its ∧ IsTup h a its.toArray
  | .dK kvs => kvs.length ≤ sizeLine ∧ (a == sysModules) = false ∧ ∃ vs, KV kvs vs ∧ h.DictOf (mixKind P w) a vs
  | .dT kvs => kvs.length ≤ sizeLine ∧ (a == sysModules) = false ∧ ∃ xs : List (List Key × Addr × Value),
      Paired (fun (p : List Key × V) (q : List Key × Addr × Value) => p.1 = q.1 ∧ H q.2.1 = some (.tup (p.1.map kV)) ∧ RelV p.2 q.2.2) kvs xs ∧
      ∃ o es ep, h.get? a = some o ∧ o.ExactDict ∧ o.data = .dict es ep ∧ es.toList = xs.map (entryOfKey (tupleKind (mixKind P w))) ∧ (xs.map (·.1)).Nodup
  | .set S n => h.SetOf (intKind P w) a S n
  | .ins C dx fs => H dx = some (.own a) ∧ fs.length ≤ 1000 ∧ dx ≠ a ∧ h.get? a = some (PySem.W.instObj C dx) ∧
      ∃ mA, h.Ns1 dx mA ∧ (∀ f, RelO (fs.lookup f) (mA f)) ∧ PySem.Within mA (fs.map (·.1))
  | .own _ => ∃ o, h.get? a = some o
  | .xd fs => ∃ mA, h.Ns1 a mA ∧ ∀ f, RelO (fs.lookup f) (mA f)
  | .rng lo hi => ∃ t u v, h.get? a = some { cls := .type "range", data := .fields #[.int lo t, .int hi u, .int 1 v] }
  | .frz o u => h.get? a = some o ∧ ObjOk H h a u
  | .tbl ps => h.get? a = some { cls := .none, data := .fields ps }
  | .met f x => h.get? a = some (PySem.W.methodObj (.ref f) (.ref x))
  | .ext φ => φ h ∧ (∃ o, h.get? a = some o) ∧ ∀ h1 h2 : Heap, φ h1 → (∀ o, h1.get? a = some o → h2.get? a = some o) → φ h2
def HOk (H : Hp) (h : Heap) : Prop := ∀ a o, H a = some o → ObjOk P w H h a o
end
section
variable {P : Program} {w : World} {H H' : Hp} {h h' : Heap} {a : Addr} {o : HO}
theorem ObjOk.lt (x : ObjOk P w H h a o) : a < h.objs.size := by
  cases o with
  | lst xs => obtain ⟨_, _, _, _, e⟩ := x; exact Heap.lt_size e
  | tup xs => obtain ⟨_, _, _, p⟩ := x; exact p.lt
  | dK kvs => obtain ⟨_, _, _, _, o, _, _, e, _⟩ := x; exact Heap.lt_size e
  | dT kvs => obtain ⟨_, _, _, _, o, _, _, e, _⟩ := x; exact Heap.lt_size e
  | set S n => obtain ⟨o, _, _, _, e, _⟩ := x; exact Heap.lt_size e
  | ins C dx fs => obtain ⟨_, _, _, e, _⟩ := x; exact Heap.lt_size e
  | own y => obtain ⟨_, e⟩ := x; exact Heap.lt_size e
  | xd fs => obtain ⟨_, ⟨_, _, _, e, _⟩, _⟩ := x; exact Heap.lt_size e
  | rng lo hi => obtain ⟨_, _, _, e⟩ := x; exact Heap.lt_size e
  | frz ob u => obtain ⟨e, _⟩ := x; exact Heap.lt_size e
  | tbl ps => exact Heap.lt_size (show h.get? a = some _ from x)
  | met f y => exact Heap.lt_size (show h.get? a = some _ from x)
  | ext φ => obtain ⟨_, ⟨_, e⟩, _⟩ := x; exact Heap.lt_size e
theorem Paired.mapP {α β : Type} {F G : α → β → Prop} : ∀ {l₁ : List α} {l₂ : List β}, Paired F l₁ l₂ → (∀ a b, F a b → G a b) → Paired G l₁ l₂
  | _, _, .nil, _ => .nil
  | _, _, .cons r t, f => .cons (f _ _ r) (Paired.mapP t f)
theorem ObjOk.stay (x : ObjOk P w H h a o) (k : ∀ b u, (b = a ∨ H b = some (.own a)) → h.get? b = some u → h'.get? b = some u)
    (ho : ∀ b, H b = some (.own a) → H' b = some (.own a)) (ht : ∀ b xs, H b = some (.tup xs) → H' b = some (.tup xs)) : ObjOk P w H' h' a o := by
  induction o with
  | lst xs => obtain ⟨z, its, n, r, e⟩ := x; exact ⟨z, its, n, r, k _ _ (.inl rfl) e⟩
  | tup xs => obtain ⟨z, its, r, ob, e, c⟩ := x; exact ⟨z, its, r, ob, k _ _ (.inl rfl) e, c⟩
  | dK kvs => obtain ⟨z, y, vs, r, ob, es, ep, e, c⟩ := x; exact ⟨z, y, vs, r, ob, es, ep, k _ _ (.inl rfl) e, c⟩
  | dT kvs =>
    obtain ⟨z, y, xs, r, ob, es, ep, e, c⟩ := x
    exact ⟨z, y, xs, Paired.mapP r fun p q z => ⟨z.1, ht _ _ z.2.1, z.2.2⟩, ob, es, ep, k _ _ (.inl rfl) e, c⟩
  | set S n => obtain ⟨ob, es, ep, t, e, c⟩ := x; exact ⟨ob, es, ep, t, k _ _ (.inl rfl) e, c⟩
  | ins C dx fs =>
    obtain ⟨d, z, ne, e, mA, ⟨od, es, ep, e2, c⟩, r⟩ := x
    exact ⟨ho _ d, z, ne, k _ _ (.inl rfl) e, mA, ⟨od, es, ep, k _ _ (.inr d) e2, c⟩, r⟩
  | own y => obtain ⟨ob, e⟩ := x; exact ⟨ob, k _ _ (.inl rfl) e⟩
  | xd fs => obtain ⟨mA, ⟨od, es, ep, e, c⟩, r⟩ := x; exact ⟨mA, ⟨od, es, ep, k _ _ (.inl rfl) e, c⟩, r⟩
  | rng lo hi => obtain ⟨t, u, v, e⟩ := x; exact ⟨t, u, v, k _ _ (.inl rfl) e⟩
  | frz ob u ih => obtain ⟨e, q⟩ := x; exact ⟨k _ _ (.inl rfl) e, ih q⟩
  | tbl ps =>
    have e : h.get? a = some { cls := .none, data := .fields ps } := x
    show h'.get? a = some { cls := .none, data := .fields ps }
    exact k a _ (.inl rfl) e
  | met f y =>
    have e : h.get? a = some (PySem.W.methodObj (.ref f) (.ref y)) := x
    show h'.get? a = some (PySem.W.methodObj (.ref f) (.ref y))
    exact k a _ (.inl rfl) e
  | ext φ => obtain ⟨p, ⟨o, e⟩, st⟩ := x; exact ⟨st _ _ p fun o q => k _ _ (.inl rfl) q, ⟨o, k _ _ (.inl rfl) e⟩, st⟩
theorem HOk.lt (x : HOk P w H h) (e : H a = some o) : a < h.objs.size := (x a o e).lt
theorem HOk.fresh (x : HOk P w H h) (e : h.objs.size ≤ a) : H a = none := by
  cases q : H a with
  | none => rfl
  | some u => exact absurd (Nat.lt_of_lt_of_le (x.lt q) e) (Nat.lt_irrefl _)
theorem HOk.kept (x : HOk P w H h) (k : ∀ b u, h.get? b = some u → h'.get? b = some u) : HOk P w H h' := fun a o e =>
  (x a o e).stay (fun b u _ q => k b u q) (fun _ q => q) fun _ _ q => q
theorem HOk.laid (x : HOk P w H h) (k : ∀ b u, h.get? b = some u → h'.get? b = some u) (hp : h.objs.size ≤ a) (new : ObjOk P w (upd H a o) h' a o) : HOk P w (upd H a o) h' := fun b u e => by
  have hn := x.fresh hp
  by_cases hb : b = a
  · subst hb; rw [upd_same] at e; cases e; exact new
  · rw [upd_ne hb] at e
    exact (x b u e).stay (fun c v _ q => k c v q) (fun c q => by rw [upd_ne (ne_of_none q hn)]; exact q) fun c xs q => by rw [upd_ne (ne_of_none q hn)]; exact q
end
def Rd (H : Hp) (a : Addr) (u : HO) : Prop := H a = some u ∨ ∃ o, H a = some (.frz o u)
theorem Rd.ok {P : Program} {w : World} {H : Hp} {h : Heap} {a : Addr} {u : HO} (r : Rd H a u) (x : HOk P w H h) : ObjOk P w H h a u := by
  rcases r with r | ⟨o, r⟩
  · exact x a u r
  · obtain ⟨_, q⟩ := x a _ r
    exact q
def Mut : Option HO → Prop
  | some (.lst _) => True
  | some (.dK _) => True
  | some (.dT _) => True
  | some (.set _ _) => True
  | some (.ins _ _ _) => True
  | some (.ext _) => True
  | _ => False
section
variable {P : Program} {w : World} {H : Hp} {h h' : Heap} {x e : Addr} {o' : HO}
theorem HOk.write (ok : HOk P w H h) (mu : Mut (H x)) (he : e = x ∨ H e = some (.own x)) (k : ∀ b u, b ≠ e → h.get? b = some u → h'.get? b = some u) (heo : ∃ u, h'.get? e = some u)
    (new : ObjOk P w (upd H x o') h' x o') : HOk P w (upd H x o') h' := fun b u q => by
  have nown : ∀ c y, H c = some (.own y) → c ≠ x := fun c y r z => by subst z; rw [r] at mu; exact mu
  have ntup : ∀ c xs, H c = some (.tup xs) → c ≠ x := fun c xs r z => by subst z; rw [r] at mu; exact mu
  by_cases hb : b = x
  · subst hb; rw [upd_same] at q; cases q; exact new
  · rw [upd_ne hb] at q
    by_cases hbe : b = e
    · have q' : H b = some (.own x) := by
        rcases he with z | z
        · exact absurd (hbe.trans z) hb
        · rw [hbe]; exact z
      rw [q] at q'; cases q'
      obtain ⟨v, hv⟩ := heo
      exact ⟨v, by rw [hbe]; exact hv⟩
    · refine (ok b u q).stay (fun c v hc r => k c v ?_ r) (fun c r => by rw [upd_ne (nown c b r)]; exact r) fun c xs r => by rw [upd_ne (ntup c xs r)]; exact r
      rcases hc with rfl | hc
      · exact hbe
      · rintro rfl
        rcases he with z | z
        · exact nown c b hc z
        · rw [hc] at z; cases z; exact hb rfl
end
structure Un (fs ex : List Addr) (H H' : Hp) (h h' : Heap) : Prop where
  keep : ∀ b o, h.get? b = some o → H b = none → b ∉ fs → b ∉ ex → h'.get? b = some o
  slot : ∀ b o, h.get? b = some o → H b = none → b ∈ fs → b ∉ ex → ∃ sl, h'.get? b = some { o with slots := sl }
  free : ∀ b o, h.get? b = some o → H b = none → b ∉ ex → H' b = none
  there : ∀ b o, h.get? b = some o → b ∉ ex → ∃ o', h'.get? b = some o'
  tups : ∀ b xs, H b = some (.tup xs) → H' b = some (.tup xs)
  frzs : ∀ b o u, H b = some (.frz o u) → H' b = some (.frz o u)
  tbls : ∀ b ps, H b = some (.tbl ps) → ∃ more, H' b = some (.tbl (ps ++ more))
section
variable {fs fs' ex ex' : List Addr} {H H1 H2 : Hp} {h h1 h2 h' : Heap} {a x e : Addr} {o : HO}
theorem Un.any (u : Un fs ex H H1 h h1) {b : Addr} {ob : Obj} (q : h.get? b = some ob) (n : H b = none) (hx : b ∉ ex) : ∃ sl, h1.get? b = some { ob with slots := sl } := by
  by_cases hb : b ∈ fs
  · exact u.slot b ob q n hb hx
  · exact ⟨ob.slots, u.keep b ob q n hb hx⟩
theorem Un.kept (k : ∀ b u, h.get? b = some u → h'.get? b = some u) : Un fs ex H H h h' :=
  ⟨fun b ob q _ _ _ => k b ob q, fun b ob q _ _ _ => ⟨ob.slots, k b ob q⟩, fun _ _ _ n _ => n, fun b ob q _ => ⟨ob, k b ob q⟩, fun _ _ q => q, fun _ _ _ q => q, fun _ ps q => ⟨#[], by rw [q]; simp⟩⟩
theorem Un.refl : Un fs ex H H h h := Un.kept fun _ _ q => q
theorem Un.laid (k : ∀ b u, h.get? b = some u → h'.get? b = some u) (hp : h.objs.size ≤ a) (hn : H a = none) : Un fs ex H (upd H a o) h h' where
  keep := fun b u q _ _ _ => k b u q
  slot := fun b u q _ _ _ => ⟨u.slots, k b u q⟩
  free := fun b u q n _ => by rw [upd_ne (Nat.ne_of_lt (Nat.lt_of_lt_of_le (Heap.lt_size q) hp))]; exact n
  there := fun b u q _ => ⟨u, k b u q⟩
  tups := fun b xs q => by rw [upd_ne (ne_of_none q hn)]; exact q
  frzs := fun b u xs q => by rw [upd_ne (ne_of_none q hn)]; exact q
  tbls := fun b ps q => ⟨#[], by rw [upd_ne (ne_of_none q hn), q]; simp⟩
theorem Un.write (mu : Mut (H x)) (he : e = x ∨ H e = some (.own x)) (k : ∀ b u, b ≠ e → h.get? b = some u → h'.get? b = some u) (heo : ∃ u, h'.get? e = some u) : Un fs ex H (upd H x o) h h' := by
  have hx : ∀ b, H b = none → b ≠ x := fun b n z => by subst z; rw [n] at mu; exact mu
  have hb : ∀ b, H b = none → b ≠ e := fun b n z => by
    subst z
    rcases he with r | r
    · exact hx b n r
    · rw [n] at r; cases r
  have hm : ∀ b u, H b = some u → ¬ Mut (some u) → b ≠ x := fun b u q nm z => by subst z; rw [q] at mu; exact nm mu
  refine ⟨fun b u q n _ _ => k b u (hb b n) q, fun b u q n _ _ => ⟨u.slots, k b u (hb b n) q⟩, fun b u q n _ => by rw [upd_ne (hx b n)]; exact n, fun b u q _ => ?_,
    fun b xs q => by rw [upd_ne (hm b _ q fun z => z)]; exact q, fun b u xs q => by rw [upd_ne (hm b _ q fun z => z)]; exact q, fun b ps q => ⟨#[], by rw [upd_ne (hm b _ q fun z => z), q]; simp⟩⟩
  by_cases hbe : b = e
  · subst hbe; exact heo
  · exact ⟨u, k b u hbe q⟩
end
def trk (h : Heap) (H : Hp) : List Addr := (List.range h.objs.size).filter fun a => (H a).isSome
def hidT (h : Heap) (H : Hp) : Heap := PySem.W.hideAll h (trk h H)
theorem hidT_size (h : Heap) (H : Hp) : (hidT h H).objs.size = h.objs.size := PySem.W.hideAll_size _ _
theorem hidT_get {h : Heap} {H : Hp} {b : Addr} {o : Obj} (e : h.get? b = some o) (n : H b = none) : (hidT h H).get? b = some o :=
  PySem.W.hideAll_get _ e fun hm => by
    have q : (H b).isSome = true := (List.mem_filter.mp hm).2
    rw [n] at q; simp at q
theorem of_hidT {h : Heap} {H : Hp} {b : Addr} {o : Obj} (e : (hidT h H).get? b = some o) : h.get? b = some o ∧ H b = none := by
  have e' : h.get? b = some o := PySem.W.of_hideAll (trk h H) e
  refine ⟨e', ?_⟩
  cases q : H b with
  | none => rfl
  | some x =>
    have hm : b ∈ trk h H := List.mem_filter.mpr ⟨List.mem_range.mpr (Heap.lt_size e'), by simp [q]⟩
    have z : (hidT h H).get? b = none := PySem.W.hideAll_none (trk h H) hm
    rw [z] at e; cases e
end L2
namespace L2
open PySem PySem.Spec PyProof.Rows
structure Mod (K : PySem.W.Frag) (mg : Str → Option Value) (base : Heap) : Prop where
  kin : K.In base
  glob : base.Ns mainGlobals mg
  blt : ∃ mb, base.Ns builtinsNs mb ∧ ∀ x : Str, x ≠ "__name__" → mb x = bootBuiltins x
  nolimit : base.NoLimit
structure Cx where
  prog : Program
  w : World
  K : PySem.W.Frag
  mg : Str → Option Value
  base : Heap
  A : Around
  N : List Str
  s₀ : Shared
  H₀ : Hp
  env : Env
  outer : List Env
  stack : List Env
  ex : List Addr
  fn : Str → Bool
  calm : Bool
  pn : List (Addr × Obj)
  xe : Value → Shared → Prop
def frs (l : List Env) : List Addr := l.filterMap (·.frame)
abbrev Cx.fs (X : Cx) : List Addr := frs X.outer
def Vis (sc : Scope) (x : Str) : Prop := sc.names.lookup x = some .local ∨ sc.names.lookup x = some .cell ∨ sc.names.lookup x = some .free
def Loc (sc : Scope) (x : Str) : Prop := sc.names.lookup x = some .local ∨ sc.names.lookup x = some .cell
def Look (env : Env) (h : Heap) (m : Str → Option Value) (x : Str) (u : Value) : Prop :=
  (env.kindOf x = some .local ∧ m x = some u) ∨ ((env.kindOf x = some .cell ∨ env.kindOf x = some .free) ∧ ∃ c, env.cells.lookup x = some c ∧ h.IsCell c (some u))
structure Cx.Ok (X : Cx) : Prop where
  mod : Mod X.K X.mg X.base
  kind : X.env.scope.kind = .function
  glob : X.env.globals = mainGlobals
  blt : X.env.builtins = builtinsNs
  above : X.s₀.heap.objs.size ≤ X.env.locals
  inj : ∀ x y c, X.env.cells.lookup x = some c → X.env.cells.lookup y = some c → x = y
  has : ∀ x, (X.env.kindOf x = some .cell ∨ X.env.kindOf x = some .free) → ∃ c, X.env.cells.lookup x = some c
  cab : ∀ x c, X.fn x = true → X.env.cells.lookup x = some c → X.s₀.heap.objs.size ≤ c
  hd : X.calm = true → X.A.handled = none
  frames : X.A.frames = some X.stack
  stk : X.stack = X.outer ∨ (X.stack = X.env :: X.outer ∧ X.env.frame = some X.env.locals)
  exf : ∀ b ∈ X.ex, b ≠ X.env.locals ∧ ∀ x c, X.env.cells.lookup x = some c → c ≠ b
  bs : ∀ b o, X.base.get? b = some o → X.s₀.heap.get? b = some o ∧ X.H₀ b = none
  bsz : X.base.objs.size ≤ X.s₀.heap.objs.size
  noex : ∀ b o, X.base.get? b = some o → b ∉ X.ex
  exfs : ∀ b ∈ X.ex, b ∉ X.fs
  funs : X.s₀.heap.FunFrames X.base X.outer
  frf : ∀ b ∈ X.fs, X.H₀ b = none
structure Inv (X : Cx) (pins : List (Addr × Obj)) (σ : List (Option V)) (H : Hp) (s : Shared) : Prop where
  ok : X.Ok
  os : s.os = X.s₀.os
  bare : AllBare s.gens
  base : Un X.fs X.ex X.H₀ H X.s₀.heap s.heap
  loc : ∃ m, s.heap.Ns X.env.locals m ∧ ∀ (i : Nat) (x : Str) (v : V), X.N[i]? = some x → σ[i]? = some (some v) → Vis X.env.scope x → ∃ u, RelV v u ∧ Look X.env s.heap m x u
  cell : ∀ x c, X.env.cells.lookup x = some c → ∃ v, s.heap.IsCell c v
  free : H X.env.locals = none
  freeC : ∀ x c, X.env.cells.lookup x = some c → H c = none
  pin : ∀ p ∈ X.pn ++ pins, s.heap.get? p.1 = some p.2 ∧ H p.1 = none ∧ p.1 ≠ X.env.locals ∧ p.1 ∉ X.fs ∧ ∀ v, p.2.data ≠ .cell v
  hok : HOk X.prog X.w H s.heap
  len : σ.length = X.N.length
  tk : 1 ≤ s.toks
section
variable {X : Cx} {pins : List (Addr × Obj)} {σ : List (Option V)} {H H' : Hp} {s : Shared} {h' : Heap}
theorem Cx.Ok.nofr (ok : X.Ok) {b : Addr} {o : Obj} (e : X.base.get? b = some o) : b ∉ X.fs := fun hb => by
  have := (ok.funs.mem hb).1
  rw [e] at this; cases this
theorem Inv.bs (I : Inv X pins σ H s) : ∀ b o, X.base.get? b = some o → s.heap.get? b = some o ∧ H b = none := fun b o e =>
  ⟨I.base.keep b o (I.ok.bs b o e).1 (I.ok.bs b o e).2 (I.ok.nofr e) (I.ok.noex b o e), I.base.free b o (I.ok.bs b o e).1 (I.ok.bs b o e).2 (I.ok.noex b o e)⟩
theorem Inv.bk (I : Inv X pins σ H s) : ∀ b o, X.base.get? b = some o → s.heap.get? b = some o := fun b o e => (I.bs b o e).1
theorem Inv.mod (I : Inv X pins σ H s) : Mod X.K X.mg X.base := I.ok.mod
theorem Inv.kIn (I : Inv X pins σ H s) : X.K.In s.heap := I.ok.mod.kin.keeps I.bk
theorem Inv.lt (I : Inv X pins σ H s) : X.env.locals < s.heap.objs.size := let ⟨_, hn, _⟩ := I.loc; hn.lt
theorem Inv.sz (I : Inv X pins σ H s) : X.s₀.heap.objs.size ≤ s.heap.objs.size := Nat.le_trans I.ok.above (Nat.le_of_lt I.lt)
theorem Inv.nofs (I : Inv X pins σ H s) {a : Addr} (h : s.heap.objs.size ≤ a) : a ∉ X.fs := fun hb => by
  obtain ⟨_, o, ho, _⟩ := I.ok.funs.mem hb
  exact absurd (Nat.lt_of_lt_of_le (Heap.lt_size ho) (Nat.le_trans I.sz h)) (Nat.lt_irrefl _)
theorem Inv.cne (I : Inv X pins σ H s) : ∀ x c, X.env.cells.lookup x = some c → c ≠ X.env.locals := fun x c e z => by
  obtain ⟨v, o, ho, hd⟩ := I.cell x c e
  obtain ⟨m, ⟨o', es, ep, ho', hd', _⟩, _⟩ := I.loc
  rw [z, ho'] at ho; cases ho; rw [hd'] at hd; cases hd
theorem Inv.funs (I : Inv X pins σ H s) : s.heap.FunFrames X.base X.outer := by
  have all : ∀ (l : List Env), (∀ b ∈ frs l, b ∈ X.fs) → X.s₀.heap.FunFrames X.base l → s.heap.FunFrames X.base l := by
    intro l
    induction l with
    | nil => intro _ _; trivial
    | cons env r ih =>
      intro hs hl
      obtain ⟨hk, ⟨L, o, hf, hn, ho, hd⟩, hr⟩ := hl
      have hL : L ∈ X.fs := hs L (by unfold frs; rw [List.filterMap_cons, hf]; exact List.mem_cons_self)
      obtain ⟨sl, e⟩ := I.base.slot L o ho (I.ok.frf L hL) hL fun z => I.ok.exfs L z hL
      exact ⟨hk, ⟨L, _, hf, hn, e, hd⟩, ih (fun b hb => hs b (by unfold frs; rw [List.filterMap_cons, hf]; exact List.mem_cons_of_mem _ hb)) hr⟩
  exact all X.outer (fun _ hb => hb) I.ok.funs
theorem Inv.stack (I : Inv X pins σ H s) : s.heap.FunFrames X.base X.stack := by
  rcases I.ok.stk with e | ⟨e, hf⟩
  · rw [e]; exact I.funs
  · rw [e]
    obtain ⟨m, hn, _⟩ := I.loc
    refine .cons (by rw [I.ok.kind]; decide) hf hn ?_ I.funs
    exact Heap.get?_none_of_le (Nat.le_trans I.ok.bsz I.ok.above)
theorem Inv.stkSub (I : Inv X pins σ H s) : ∀ b ∈ frs X.stack, b ∈ X.env.locals :: X.fs := fun b hb => by
  rcases I.ok.stk with e | ⟨e, hf⟩
  · rw [e] at hb; exact List.mem_cons_of_mem _ hb
  · rw [e] at hb
    unfold frs at hb
    rw [List.filterMap_cons, hf] at hb
    exact hb
theorem Inv.stkFree (I : Inv X pins σ H s) : ∀ b ∈ frs X.stack, H b = none := fun b hb => by
  rcases List.mem_cons.mp (I.stkSub b hb) with e | hb
  · rw [e]; exact I.free
  · obtain ⟨_, o, ho, _⟩ := I.ok.funs.mem hb
    exact I.base.free b o ho (I.ok.frf b hb) fun z => I.ok.exfs b z hb
theorem Inv.step {g' : Array GenState} {t' : Nat} {d' : Drawn} {ch : List Addr} (I : Inv X pins σ H s)
    (hch : ∀ b ∈ ch, (b ∈ X.ex ∨ X.s₀.heap.objs.size ≤ b) ∧ b ≠ X.env.locals ∧ (∀ x c, X.env.cells.lookup x = some c → c ≠ b) ∧ ∀ p ∈ X.pn ++ pins, p.1 ≠ b)
    (keep : ∀ b o, b ≠ X.env.locals → b ∉ X.fs → b ∉ ch → s.heap.get? b = some o → H b = none → h'.get? b = some o)
    (slot : ∀ b o, b ≠ X.env.locals → b ∈ X.fs → b ∉ ch → s.heap.get? b = some o → H b = none → ∃ sl, h'.get? b = some { o with slots := sl }) (free : ∀ b o, b ∉ ch → s.heap.get? b = some o → H b = none → H' b = none)
    (there : ∀ b o, b ∉ ch → s.heap.get? b = some o → ∃ o', h'.get? b = some o')
    (tups : ∀ b xs, H b = some (.tup xs) → H' b = some (.tup xs)) (frzs : ∀ b o u, H b = some (.frz o u) → H' b = some (.frz o u)) (tbls : ∀ b ps, H b = some (.tbl ps) → ∃ more, H' b = some (.tbl (ps ++ more)))
    (ns : ∀ m, s.heap.Ns X.env.locals m → h'.Ns X.env.locals m) (hok : HOk X.prog X.w H' h') (hg : AllBare g') (ht : 1 ≤ t' := by first | assumption | exact Inv.tk (by assumption) | exact Nat.le_add_left _ _ | omega) :
    Inv X pins σ H' { s with heap := h', gens := g', drawn := d', toks := t' } := by
  have neL : ∀ b o, X.s₀.heap.get? b = some o → b ≠ X.env.locals := fun b o e => Nat.ne_of_lt (Nat.lt_of_lt_of_le (Heap.lt_size e) I.ok.above)
  have neC : ∀ b o, X.s₀.heap.get? b = some o → b ∉ X.ex → b ∉ ch := fun b o e hx hb => by
    rcases (hch b hb).1 with z | z
    · exact hx z
    · exact absurd (Nat.lt_of_lt_of_le (Heap.lt_size e) z) (Nat.lt_irrefl _)
  have cellK : ∀ x c, X.env.cells.lookup x = some c → ∀ v, s.heap.IsCell c v → h'.IsCell c v := fun x c e v ⟨o, ho, hd⟩ => by
    have nch : c ∉ ch := fun z => (hch c z).2.2.1 x c e rfl
    by_cases hc : c ∈ X.fs
    · obtain ⟨sl, q⟩ := slot c o (I.cne x c e) hc nch ho (I.freeC x c e)
      exact ⟨_, q, hd⟩
    · exact ⟨o, keep c o (I.cne x c e) hc nch ho (I.freeC x c e), hd⟩
  refine ⟨I.ok, I.os, hg, ⟨fun b o e n hb hx => ?_, fun b o e n hb hx => ?_, fun b o e n hx => ?_, fun b o e hx => ?_, fun b xs e => tups b xs (I.base.tups b xs e), fun b o xs e => frzs b o xs (I.base.frzs b o xs e), fun b ps e => ?_⟩, ?_, fun x c e => ?_, ?_, fun x c e => ?_, fun p hp => ?_, hok, I.len, ht⟩
  · exact keep b o (neL b o e) hb (neC b o e hx) (I.base.keep b o e n hb hx) (I.base.free b o e n hx)
  · obtain ⟨sl, e1⟩ := I.base.slot b o e n hb hx
    obtain ⟨sl', e2⟩ := slot b _ (neL b o e) hb (neC b o e hx) e1 (I.base.free b o e n hx)
    exact ⟨sl', e2⟩
  · obtain ⟨o', e1⟩ := I.base.there b o e hx
    exact free b o' (neC b o e hx) e1 (I.base.free b o e n hx)
  · obtain ⟨o', e1⟩ := I.base.there b o e hx
    exact there b o' (neC b o e hx) e1
  · obtain ⟨m1, e1⟩ := I.base.tbls b ps e
    obtain ⟨m2, e2⟩ := tbls b _ e1
    exact ⟨m1 ++ m2, by rw [e2, Array.append_assoc]⟩
  · obtain ⟨m, hn, hl⟩ := I.loc
    refine ⟨m, ns m hn, fun i x v e1 e2 e3 => ?_⟩
    obtain ⟨u, r, l⟩ := hl i x v e1 e2 e3
    refine ⟨u, r, ?_⟩
    rcases l with l | ⟨k, c, e, z⟩
    · exact .inl l
    · exact .inr ⟨k, c, e, cellK x c e _ z⟩
  · obtain ⟨v, z⟩ := I.cell x c e
    exact ⟨v, cellK x c e v z⟩
  · obtain ⟨m, ⟨o, _, _, ho, _⟩, _⟩ := I.loc
    exact free _ o (fun z => (hch _ z).2.1 rfl) ho I.free
  · obtain ⟨v, o, ho, hd⟩ := I.cell x c e
    exact free c o (fun z => (hch c z).2.2.1 x c e rfl) ho (I.freeC x c e)
  · obtain ⟨e, n, ne, nf, d⟩ := I.pin p hp
    have nch : p.1 ∉ ch := fun z => (hch p.1 z).2.2.2 p hp rfl
    exact ⟨keep p.1 p.2 ne nf nch e n, free p.1 p.2 nch e n, ne, nf, d⟩
theorem Inv.un {t' : Nat} (I : Inv X pins σ H s) (u : Un X.fs [] H H' s.heap h') (hok : HOk X.prog X.w H' h') (ht : 1 ≤ t' := by first | assumption | exact Inv.tk (by assumption) | exact Nat.le_add_left _ _ | omega) : Inv X pins σ H' { s with heap := h', toks := t' } := by
  obtain ⟨m, ⟨o, es, ep, ho, r⟩, _⟩ := id I.loc
  obtain ⟨sl, hL⟩ := u.any ho I.free (by simp)
  exact I.step (g' := s.gens) (d' := s.drawn) (ch := []) (fun _ z => nomatch z) (fun b o _ hb _ e n => u.keep b o e n hb (by simp)) (fun b o _ hb _ e n => u.slot b o e n hb (by simp)) (fun b o _ e n => u.free b o e n (by simp)) (fun b o _ e => u.there b o e (by simp)) u.tups u.frzs u.tbls (fun m' hm => by
    obtain ⟨o', es', ep', ho', r'⟩ := hm
    rw [ho] at ho'; cases ho'
    exact ⟨_, es', ep', hL, r'⟩) hok I.bare
theorem Inv.call {g' : Array GenState} {t' : Nat} {d' : Drawn} {ch : List Addr} (I : Inv X pins σ H s) (u : Un (frs X.stack) ch H H' s.heap h') (hok : HOk X.prog X.w H' h') (hg : AllBare g')
    (hch : ∀ b ∈ ch, (b ∈ X.ex ∨ X.s₀.heap.objs.size ≤ b) ∧ b ≠ X.env.locals ∧ (∀ x c, X.env.cells.lookup x = some c → c ≠ b) ∧ ∀ p ∈ X.pn ++ pins, p.1 ≠ b) (ht : 1 ≤ t' := by first | assumption | exact Inv.tk (by assumption) | exact Nat.le_add_left _ _ | omega) :
    Inv X pins σ H' { s with heap := h', gens := g', drawn := d', toks := t' } := by
  obtain ⟨m, ⟨o, es, ep, ho, r⟩, _⟩ := id I.loc
  obtain ⟨sl, hL⟩ := u.any ho I.free fun z => (hch _ z).2.1 rfl
  exact I.step (ch := ch) hch (fun b o hL hb hc e n => u.keep b o e n (fun z => (List.mem_cons.mp (I.stkSub b z)).elim hL hb) hc) (fun b o _ _ hc e n => u.any e n hc) (fun b o hc e n => u.free b o e n hc) (fun b o hc e => u.there b o e hc) u.tups u.frzs u.tbls (fun m' hm => by
    obtain ⟨o', es', ep', ho', r'⟩ := hm
    rw [ho] at ho'; cases ho'
    exact ⟨_, es', ep', hL, r'⟩) hok hg
theorem Inv.turned {t' : Nat} {it : Addr} (I : Inv X pins σ H s) (k : ∀ b o, b ≠ it → s.heap.get? b = some o → h'.get? b = some o) (hn : H it = none) (hL : it ≠ X.env.locals)
    (h1 : it ∈ X.ex ∨ X.s₀.heap.objs.size ≤ it) (h2 : ∀ x c, X.env.cells.lookup x = some c → c ≠ it) (h3 : ∀ p ∈ X.pn ++ pins, p.1 ≠ it) (ht : 1 ≤ t' := by first | assumption | exact Inv.tk (by assumption) | exact Nat.le_add_left _ _ | omega) : Inv X pins σ H { s with heap := h', toks := t' } := by
  have nit : ∀ b u, H b = some u → b ≠ it := fun b u e z => by rw [z, hn] at e; cases e
  refine I.step (g' := s.gens) (d' := s.drawn) (ch := [it]) (fun b hb => ?_) (fun b o _ _ hc e _ => k b o (fun z => hc (by simp [z])) e) (fun b o _ _ hc e _ => ⟨o.slots, k b o (fun z => hc (by simp [z])) e⟩) (fun _ _ _ _ n => n)
    (fun b o hc e => ⟨o, k b o (fun z => hc (by simp [z])) e⟩) (fun _ _ e => e) (fun _ _ _ e => e) (fun b ps e => ⟨#[], by rw [e]; simp⟩) (fun m hm => ?_) (fun b u e => ?_) I.bare
  · have e : b = it := by simpa using hb
    subst e
    exact ⟨h1, hL, h2, h3⟩
  · obtain ⟨o, es, ep, ho, r⟩ := hm
    exact ⟨o, es, ep, k _ o (Ne.symm hL) ho, r⟩
  · refine (I.hok b u e).stay (fun c v hc q => k c v ?_ q) (fun _ q => q) fun _ _ q => q
    rcases hc with z | z
    · rw [z]; exact nit b u e
    · exact nit c _ z
theorem Inv.tok (I : Inv X pins σ H s) (t : Nat) (ht : 1 ≤ t := by first | assumption | exact Inv.tk (by assumption) | exact Nat.le_add_left _ _ | omega) : Inv X pins σ H { s with toks := t } := I.un (h' := s.heap) (t' := t) Un.refl I.hok
theorem Inv.kept {t' : Nat} (I : Inv X pins σ H s) (k : ∀ b u, s.heap.get? b = some u → h'.get? b = some u) (ht : 1 ≤ t' := by first | assumption | exact Inv.tk (by assumption) | exact Nat.le_add_left _ _ | omega) : Inv X pins σ H { s with heap := h', toks := t' } := I.un (Un.kept k) (I.hok.kept k)
theorem Inv.laid {a : Addr} {o : HO} {t' : Nat} (I : Inv X pins σ H s) (k : ∀ b u, s.heap.get? b = some u → h'.get? b = some u) (hp : s.heap.objs.size ≤ a) (new : ObjOk X.prog X.w (upd H a o) h' a o) (ht : 1 ≤ t' := by first | assumption | exact Inv.tk (by assumption) | exact Nat.le_add_left _ _ | omega) :
    Inv X pins σ (upd H a o) { s with heap := h', toks := t' } := I.un (Un.laid k hp (I.hok.fresh hp)) (I.hok.laid k hp new)
theorem Inv.write {x e : Addr} {o : HO} {t' : Nat} (I : Inv X pins σ H s) (mu : Mut (H x)) (he : e = x ∨ H e = some (.own x)) (k : ∀ b u, b ≠ e → s.heap.get? b = some u → h'.get? b = some u) (heo : ∃ u, h'.get? e = some u)
    (new : ObjOk X.prog X.w (upd H x o) h' x o) (ht : 1 ≤ t' := by first | assumption | exact Inv.tk (by assumption) | exact Nat.le_add_left _ _ | omega) : Inv X pins σ (upd H x o) { s with heap := h', toks := t' } := I.un (Un.write mu he k heo) (I.hok.write mu he k heo new)
theorem Inv.pins_of {pins' : List (Addr × Obj)} (I : Inv X pins σ H s) (h : ∀ p ∈ pins', s.heap.get? p.1 = some p.2 ∧ H p.1 = none ∧ p.1 ≠ X.env.locals ∧ p.1 ∉ X.fs ∧ ∀ v, p.2.data ≠ .cell v) : Inv X pins' σ H s :=
  ⟨I.ok, I.os, I.bare, I.base, I.loc, I.cell, I.free, I.freeC, fun p hp => (List.mem_append.mp hp).elim (fun z => I.pin p (List.mem_append_left _ z)) (h p), I.hok, I.len, I.tk⟩
theorem nodup_ix {N : List Str} (hN : N.Nodup) {i j : Nat} {x : Str} (a : N[i]? = some x) (b : N[j]? = some x) : i = j := by
  obtain ⟨h1, e1⟩ := List.getElem?_eq_some_iff.mp a
  obtain ⟨h2, e2⟩ := List.getElem?_eq_some_iff.mp b
  exact (List.getElem_inj hN).mp (e1.trans e2.symm)
theorem store_ok2 {M : Model} {A : Around} {E : Value → Shared → Prop} {i : Nat} {x : Str} {v : V} {u : Value} {Q : Unit → Shared → Prop} (I : Inv X pins σ H s) (hN : X.N.Nodup) (hi : X.N[i]? = some x) (hx : Loc X.env.scope x) (r : RelV v u)
    (h : ∀ s', Inv X pins (σ.set i (some v)) H s' → (∃ a, Heap.SameBut a s.heap s'.heap ∧ (a = X.env.locals ∨ X.env.cells.lookup x = some a)) → Q () s') (hf : X.fn x = true ∨ X.env.scope.names.lookup x = some .local := by first | exact .inl rfl | exact .inr rfl | assumption) : wpAny M A (storeName X.env x u) Q E s := by
  obtain ⟨m, hn, hl⟩ := id I.loc
  have hcls : (X.env.scope.kind == .class || (X.env.scope.kind == .module && X.env.locals != X.env.globals)) = false := by rw [I.ok.kind]; rfl
  have hiσ : i < σ.length := by rw [I.len]; exact (List.getElem?_eq_some_iff.mp hi).1
  have cne := I.cne
  have tracked : ∀ {a : Addr} {h' : Heap}, (∃ o, s.heap.get? a = some o ∧ H a = none) → Heap.SameBut a s.heap h' → HOk X.prog X.w H h' := fun {a h'} ha hs b ob e => by
    obtain ⟨_, _, hfree⟩ := ha
    refine (I.hok b ob e).stay (fun c w' hc q => (hs.2 c ?_).trans q) (fun _ q => q) fun _ _ q => q
    rintro rfl
    rcases hc with rfl | hc
    · rw [hfree] at e; cases e
    · rw [hfree] at hc; cases hc
  rcases hx with hk | hk
  · refine wpAny_storeName_local hk hn (fun h' hn' hs => ?_) hcls
    obtain ⟨oL, _, _, hoL, _⟩ := id hn
    refine h _ ⟨I.ok, I.os, I.bare, ⟨fun b o e n hb hx => ?_, fun b o e n hb hx => ?_, I.base.free, fun b o e hx => ?_, I.base.tups, I.base.frzs, I.base.tbls⟩, ⟨_, hn', fun j y v' e1 e2 e3 => ?_⟩, fun y c e => ?_, I.free, I.freeC, fun p hp => ?_, tracked ⟨oL, hoL, I.free⟩ hs, by simpa using I.len, Nat.le_add_left _ _⟩ ⟨_, hs, .inl rfl⟩
    · exact (hs.2 b (Nat.ne_of_lt (Nat.lt_of_lt_of_le (Heap.lt_size e) I.ok.above))).trans (I.base.keep b o e n hb hx)
    · obtain ⟨sl, e1⟩ := I.base.slot b o e n hb hx
      exact ⟨sl, (hs.2 b (Nat.ne_of_lt (Nat.lt_of_lt_of_le (Heap.lt_size e) I.ok.above))).trans e1⟩
    · obtain ⟨o', e1⟩ := I.base.there b o e hx
      exact ⟨o', (hs.2 b (Nat.ne_of_lt (Nat.lt_of_lt_of_le (Heap.lt_size e) I.ok.above))).trans e1⟩
    · by_cases hj : j = i
      · subst hj
        rw [hi] at e1; cases e1
        rw [List.getElem?_set_self hiσ] at e2
        cases e2
        exact ⟨u, r, .inl ⟨hk, by simp⟩⟩
      · rw [List.getElem?_set_ne (Ne.symm hj)] at e2
        obtain ⟨u', r', q⟩ := hl j y v' e1 e2 e3
        refine ⟨u', r', ?_⟩
        rcases q with ⟨k, e⟩ | ⟨k, c, e, z⟩
        · refine .inl ⟨k, ?_⟩
          have : y ≠ x := fun e => hj (nodup_ix hN e1 (e ▸ hi))
          simp [this, e]
        · exact .inr ⟨k, c, e, z.sameBut hs (cne y c e)⟩
    · obtain ⟨w', z⟩ := I.cell y c e
      exact ⟨w', z.sameBut hs (cne y c e)⟩
    · obtain ⟨e, n, ne, nf, d⟩ := I.pin p hp
      exact ⟨(hs.2 p.1 ne).trans e, n, ne, nf, d⟩
  · have hfn : X.fn x = true := by
      rcases hf with z | z
      · exact z
      · rw [z] at hk; cases hk
    obtain ⟨c, hc⟩ := I.ok.has x (.inl hk)
    obtain ⟨w', z⟩ := I.cell x c hc
    refine wpAny_storeName_cell I.ok.kind hk hc z (fun h' hc' hs => ?_)
    obtain ⟨oc, hoc, hocd⟩ := id z
    refine h { s with heap := h' } ⟨I.ok, I.os, I.bare, ⟨fun b o e n hb hx => ?_, fun b o e n hb hx => ?_, I.base.free, fun b o e hx => ?_, I.base.tups, I.base.frzs, I.base.tbls⟩, ⟨m, hn.sameBut hs (Ne.symm (cne x c hc)), fun j y v' e1 e2 e3 => ?_⟩, fun y c' e => ?_, I.free, I.freeC, fun p hp => ?_, tracked ⟨oc, hoc, I.freeC x c hc⟩ hs, by simpa using I.len, I.tk⟩ ⟨c, hs, .inr hc⟩
    · exact (hs.2 b (Nat.ne_of_lt (Nat.lt_of_lt_of_le (Heap.lt_size e) (I.ok.cab x c hfn hc)))).trans (I.base.keep b o e n hb hx)
    · obtain ⟨sl, e1⟩ := I.base.slot b o e n hb hx
      exact ⟨sl, (hs.2 b (Nat.ne_of_lt (Nat.lt_of_lt_of_le (Heap.lt_size e) (I.ok.cab x c hfn hc)))).trans e1⟩
    · obtain ⟨o', e1⟩ := I.base.there b o e hx
      exact ⟨o', (hs.2 b (Nat.ne_of_lt (Nat.lt_of_lt_of_le (Heap.lt_size e) (I.ok.cab x c hfn hc)))).trans e1⟩
    · by_cases hj : j = i
      · subst hj
        rw [hi] at e1; cases e1
        rw [List.getElem?_set_self hiσ] at e2
        cases e2
        exact ⟨u, r, .inr ⟨.inl hk, c, hc, hc'⟩⟩
      · rw [List.getElem?_set_ne (Ne.symm hj)] at e2
        obtain ⟨u', r', q⟩ := hl j y v' e1 e2 e3
        refine ⟨u', r', ?_⟩
        rcases q with q | ⟨k, c', e, z'⟩
        · exact .inl q
        · refine .inr ⟨k, c', e, z'.sameBut hs ?_⟩
          rintro rfl
          exact hj (nodup_ix hN e1 (I.ok.inj _ _ _ e hc ▸ hi))
    · by_cases hcc : c' = c
      · subst hcc; exact ⟨_, hc'⟩
      · obtain ⟨w2, z2⟩ := I.cell y c' e
        exact ⟨w2, z2.sameBut hs hcc⟩
    · obtain ⟨e, n, ne, nf, d⟩ := I.pin p hp
      refine ⟨(hs.2 p.1 ?_).trans e, n, ne, nf, d⟩
      intro q
      rw [q, hoc] at e
      have q' : oc = p.2 := Option.some.inj e
      exact d w' (by rw [← q']; exact hocd)
theorem store_ok {M : Model} {A : Around} {E : Value → Shared → Prop} {i : Nat} {x : Str} {v : V} {u : Value} {Q : Unit → Shared → Prop} (I : Inv X pins σ H s) (hN : X.N.Nodup) (hi : X.N[i]? = some x) (hx : Loc X.env.scope x) (r : RelV v u)
    (h : ∀ s', Inv X pins (σ.set i (some v)) H s' → Q () s') (hf : X.fn x = true ∨ X.env.scope.names.lookup x = some .local := by first | exact .inl rfl | exact .inr rfl | assumption) : wpAny M A (storeName X.env x u) Q E s :=
  store_ok2 I hN hi hx r (fun s' I' _ => h s' I') hf
theorem Inv.call' {s' : Shared} {ch : List Addr} (I : Inv X pins σ H s) (ho : s'.os = s.os) (u : Un (frs X.stack) ch H H' s.heap s'.heap) (hok : HOk X.prog X.w H' s'.heap) (hg : AllBare s'.gens)
    (hch : ∀ b ∈ ch, (b ∈ X.ex ∨ X.s₀.heap.objs.size ≤ b) ∧ b ≠ X.env.locals ∧ (∀ x c, X.env.cells.lookup x = some c → c ≠ b) ∧ ∀ p ∈ X.pn ++ pins, p.1 ≠ b) (ht : 1 ≤ s'.toks := by first | assumption | exact Inv.tk (by assumption) | exact Nat.le_add_left _ _ | omega) : Inv X pins σ H' s' := by
  obtain ⟨h', g', d', t', o'⟩ := s'
  have e : o' = s.os := ho
  subst e
  exact I.call (g' := g') (t' := t') (d' := d') u hok hg hch
end
abbrev XK := Value → Option Addr → Hp → Prop
abbrev St := List (Option V)
abbrev VK := V → Hp → Prop
abbrev TE := St → Hp → VK → Prop
abbrev TT := St → Hp → (Bool → Hp → Prop) → Prop
abbrev TA := St → Hp → (List V → Hp → Prop) → Prop
structure Ends where
  nx : St → Hp → Prop
  rt : VK
  bk : St → Hp → Prop := fun _ _ => False
  ct : St → Hp → Prop := fun _ _ => False
abbrev TS := Ends → St → Hp → Prop
def EP (X : Cx) (pins : List (Addr × Obj)) (σ : St) (Q : VK) (u : Value) (s' : Shared) : Prop := ∃ v H', Inv X pins σ H' s' ∧ RelV v u ∧ Q v H'
def TP (X : Cx) (pins : List (Addr × Obj)) (σ : St) (Q : Bool → Hp → Prop) (b : Bool) (s' : Shared) : Prop := ∃ H', Inv X pins σ H' s' ∧ Q b H'
def AP (X : Cx) (pins : List (Addr × Obj)) (σ : St) (Q : List V → Hp → Prop) (us : List Value) (s' : Shared) : Prop := ∃ vs H', Inv X pins σ H' s' ∧ Vals vs us ∧ Q vs H'
def SP (X : Cx) (pins : List (Addr × Obj)) (D : Ends) (f : Flow) (s' : Shared) : Prop :=
  match f with
  | .next => ∃ σ' H', Inv X pins σ' H' s' ∧ D.nx σ' H'
  | .brk => ∃ σ' H', Inv X pins σ' H' s' ∧ D.bk σ' H'
  | .cont => ∃ σ' H', Inv X pins σ' H' s' ∧ D.ct σ' H'
  | .ret u => ∃ v σ' H', Inv X pins σ' H' s' ∧ RelV v u ∧ D.rt v H'
def PE (X : Cx) (e : Expr) (t : TE) : Prop :=
  ∀ (pins : List (Addr × Obj)) (s : Shared) (σ : St) (H : Hp) (Q : VK), Inv X pins σ H s → t σ H Q → wpAny (model X.prog X.w) X.A (eval e X.env) (EP X pins σ Q) X.xe s
def PT (X : Cx) (e : Expr) (t : TT) : Prop :=
  ∀ (pins : List (Addr × Obj)) (s : Shared) (σ : St) (H : Hp) (Q : Bool → Hp → Prop), Inv X pins σ H s → t σ H Q → wpAny (model X.prog X.w) X.A (isTrue e X.env (eval e X.env)) (TP X pins σ Q) X.xe s
def PW (X : Cx) (e : Expr) (t : TT) : Prop :=
  ∀ (whole : Sem Value) (pins : List (Addr × Obj)) (s : Shared) (σ : St) (H : Hp) (Q : Bool → Hp → Prop), Inv X pins σ H s → t σ H Q → wpAny (model X.prog X.w) X.A (isTrue e X.env whole) (TP X pins σ Q) X.xe s
theorem PW.pt {X : Cx} {e : Expr} {t : TT} (h : PW X e t) : PT X e t := h _
def PA (X : Cx) (es : List Expr) (t : TA) : Prop :=
  ∀ (pos : Pos) (pins : List (Addr × Obj)) (s : Shared) (σ : St) (H : Hp) (Q : List V → Hp → Prop), Inv X pins σ H s → t σ H Q → wpAny (model X.prog X.w) X.A (spliced (backTo pos (starEach es X.env))) (AP X pins σ Q) X.xe s
def PS (X : Cx) (st : Stmt) (t : TS) : Prop :=
  ∀ (pins : List (Addr × Obj)) (s : Shared) (σ : St) (H : Hp) (D : Ends), Inv X pins σ H s → t D σ H → wpAny (model X.prog X.w) X.A (exec st X.env) (SP X pins D) X.xe s
def PSs (X : Cx) (st : List Stmt) (t : TS) : Prop :=
  ∀ (pins : List (Addr × Obj)) (s : Shared) (σ : St) (H : Hp) (D : Ends), Inv X pins σ H s → t D σ H → wpAny (model X.prog X.w) X.A (execs st X.env) (SP X pins D) X.xe s
theorem thn {α : Type} {t : Sem α} {Q Q' : α → Shared → Prop} {M : Model} {A : Around} {E : Value → Shared → Prop} {s : Shared} (h : wpAny M A t Q E s) (hQ : ∀ a s, Q a s → Q' a s) : wpAny M A t Q' E s := wpAny_mono h hQ fun _ _ x => x
end L2
namespace L2
open PySem PySem.Spec PyProof.Rows
section
variable {X : Cx}
def tVar (i : Nat) : TE := fun σ H Q => ∃ v, σ[i]? = some (some v) ∧ Q v H
def tC (v : V) : TE := fun _ H Q => Q v H
theorem pe_var {i : Nat} {x : Str} {pos : Pos} (hN : X.N[i]? = some x) (hv : Vis X.env.scope x) (hd : (x == ("__debug__" : Str)) = false := by decide) (hcd : (x == ("__classdict__" : Str)) = false := by decide) : PE X (.Name x pos) (tVar i) := by
  intro pins s σ H Q I h
  obtain ⟨v, e, h⟩ := h
  obtain ⟨m, hn, hl⟩ := I.loc
  obtain ⟨u, r, l⟩ := hl i x v hN e hv
  have fin : EP X pins σ Q u s := ⟨v, H, I, r, h⟩
  rcases l with ⟨hk, hm⟩ | ⟨hk, c, hc, hcell⟩
  · exact wpAny_Name (wpAny_loadName_local I.ok.kind hk hn hm fin) hd
  · rcases hk with hk | hk
    · exact wpAny_Name (wpAny_loadName_cell I.ok.kind hk hc hcell fin) hd
    · exact wpAny_Name (wpAny_loadName_free I.ok.kind hk hc hcell fin hcd) hd
theorem pe_int {i j pos} : PE X (.Constant (.int i) j pos) (tC (.int i)) := fun _ _ _ H _ I h => wpAny_Constant_int ⟨.int i, H, I.tok _, ⟨_, rfl⟩, h⟩
theorem pe_bl {b j pos} : PE X (.Constant (.bool b) j pos) (tC (.bl b)) := fun _ _ _ H _ I h => Constant_bool ⟨.bl b, H, I, rfl, h⟩
theorem pe_non {j pos} : PE X (.Constant .none j pos) (tC .non) := fun _ _ _ H _ I h => Constant_none ⟨.non, H, I, rfl, h⟩
theorem pe_str {x j pos} : PE X (.Constant (.str x) j pos) (tC (.str x)) := fun _ _ _ H _ I h => Calls.Constant_str ⟨.str x, H, I.tok _, ⟨⟨_, Nat.ne_of_gt I.tk⟩, rfl⟩, h⟩
def Gl (X : Cx) (x : Str) : Prop := X.env.kindOf x = some .globalImplicit
theorem ld_glob {E : Value → Shared → Prop} {pins : List (Addr × Obj)} {s : Shared} {σ : St} {H : Hp} {x : Str} {u : Value} {pos : Pos} {Q : Value → Shared → Prop} (I : Inv X pins σ H s) (hg : Gl X x) (hm : X.mg x = some u) (h : Q u s)
    (hd : (x == ("__debug__" : Str)) = false := by decide) : wpAny (model X.prog X.w) X.A (eval (.Name x pos) X.env) Q E s :=
  Calls.Name_function_global I.ok.kind hg (Calls.loadGlobal_global (by rw [I.ok.glob]; exact I.mod.glob.keeps I.bk) hm h) hd
theorem ld_blt {E : Value → Shared → Prop} {pins : List (Addr × Obj)} {s : Shared} {σ : St} {H : Hp} {x : Str} {u : Value} {pos : Pos} {Q : Value → Shared → Prop} (I : Inv X pins σ H s) (hg : Gl X x) (hm : X.mg x = none) (hv : bootBuiltins x = some u) (h : Q u s)
    (hn : x ≠ "__name__" := by decide) (hd : (x == ("__debug__" : Str)) = false := by decide) : wpAny (model X.prog X.w) X.A (eval (.Name x pos) X.env) Q E s := by
  obtain ⟨mb, h1, h2⟩ := I.mod.blt
  exact Calls.Name_function_global I.ok.kind hg (Calls.loadGlobal_builtin (by rw [I.ok.glob]; exact I.mod.glob.keeps I.bk) hm (by rw [I.ok.blt]; exact h1.keeps I.bk) ((h2 x hn).trans hv) h) hd
theorem pe_glob {x : Str} {v : V} {u : Value} {pos : Pos} (hg : Gl X x) (hm : X.mg x = some u) (r : RelV v u) (hd : (x == ("__debug__" : Str)) = false := by decide) : PE X (.Name x pos) (tC v) :=
  fun _ _ _ H _ I h => ld_glob I hg hm ⟨v, H, I, r, h⟩ hd
theorem pe_bltn {x : Str} {v : V} {u : Value} {pos : Pos} (hg : Gl X x) (hm : X.mg x = none) (hv : bootBuiltins x = some u) (r : RelV v u) (hn : x ≠ "__name__" := by decide) (hd : (x == ("__debug__" : Str)) = false := by decide) : PE X (.Name x pos) (tC v) :=
  fun _ _ _ H _ I h => ld_blt I hg hm hv ⟨v, H, I, r, h⟩ hn hd
variable {a b : Expr} {ta tb : TE} {pos : Pos}
def tB (t : TE) : TT := fun σ H Q => t σ H fun x H1 => ∃ c, x = .bl c ∧ Q c H1
theorem pt_val {e : Expr} {t : TE} (h : PE X e t) (he : ∀ whole, isTrue e X.env whole = (do let v ← whole; standAt e.pos; holding [v] (truthy v)) := by intro _; rfl) : PT X e (tB t) := by
  intro pins s σ H Q I hw
  refine isTrue_plain (thn (h pins s σ H _ I hw) fun v s1 ⟨x, H1, I1, r1, q1⟩ => ?_) (he _)
  obtain ⟨d, rfl, q⟩ := q1
  cases r1
  exact wpAny_truthy_bool ⟨H1, I1, q⟩
variable {tA tB' : TT} {rest : List Expr}
def tAnd (t u : TT) : TT := fun σ H Q => t σ H fun c H1 => if c = true then u σ H1 Q else Q false H1
def tOr (t u : TT) : TT := fun σ H Q => t σ H fun c H1 => if c = true then Q true H1 else u σ H1 Q
def tNot (t : TT) : TT := fun σ H Q => t σ H fun c H1 => Q (!c) H1
theorem pw_and1 (ha : PT X a tA) : PW X (.BoolOp .And [a] pos) tA := by
  intro wh pins s σ H Q I h
  refine isTrue_and (thn (ha pins s σ H Q I h) fun c s1 e => ?_)
  cases c with
  | true => exact isTrue_and_nil e
  | false => exact e
theorem pw_or1 (ha : PT X a tA) : PW X (.BoolOp .Or [a] pos) tA := by
  intro wh pins s σ H Q I h
  refine isTrue_or (thn (ha pins s σ H Q I h) fun c s1 e => ?_)
  cases c with
  | false => exact isTrue_or_nil e
  | true => exact e
theorem pw_and (ha : PT X a tA) (hb : PW X (.BoolOp .And (b :: rest) pos) tB') : PW X (.BoolOp .And (a :: b :: rest) pos) (tAnd tA tB') := by
  intro wh pins s σ H Q I h
  refine isTrue_and (thn (ha pins s σ H _ I h) fun c s1 ⟨H1, I1, q1⟩ => ?_)
  cases c with
  | true => exact hb wh pins s1 σ H1 Q I1 q1
  | false => exact ⟨H1, I1, q1⟩
theorem pw_or (ha : PT X a tA) (hb : PW X (.BoolOp .Or (b :: rest) pos) tB') : PW X (.BoolOp .Or (a :: b :: rest) pos) (tOr tA tB') := by
  intro wh pins s σ H Q I h
  refine isTrue_or (thn (ha pins s σ H _ I h) fun c s1 ⟨H1, I1, q1⟩ => ?_)
  cases c with
  | true => exact ⟨H1, I1, q1⟩
  | false => exact hb wh pins s1 σ H1 Q I1 q1
theorem pt_not (ha : PT X a tA) : PT X (.UnaryOp .Not a pos) (tNot tA) := by
  intro pins s σ H Q I h
  exact isTrue_not (ha pins s σ H (fun c H1 => Q (!c) H1) I h)
def tAndV (ta tb : TE) : TE := fun σ H Q => ta σ H fun x H1 => ∃ c, x = .bl c ∧ if c = true then tb σ H1 Q else Q (.bl false) H1
def tNotV (ta : TE) : TE := fun σ H Q => ta σ H fun x H1 => ∃ c, x = .bl c ∧ Q (.bl (!c)) H1
theorem pe_one {op} {t : TE} (h : PE X a t) : PE X (.BoolOp op [a] pos) t := fun pins s σ H Q I hw => BoolOp_one (h pins s σ H Q I hw)
theorem pe_and (ha : PE X a ta) (hb : PE X (.BoolOp .And (b :: rest) pos) tb) : PE X (.BoolOp .And (a :: b :: rest) pos) (tAndV ta tb) := by
  intro pins s σ H Q I h
  refine BoolOp_and (thn (ha pins s σ H _ I h) fun v s1 ⟨x, H1, I1, r1, q1⟩ => ?_)
  obtain ⟨c, rfl, q1⟩ := q1
  cases r1
  refine wpAny_truthy_bool ?_
  cases c with
  | true => exact hb pins s1 σ H1 Q I1 q1
  | false => exact ⟨.bl false, H1, I1, rfl, q1⟩
theorem pe_not (ha : PE X a ta) : PE X (.UnaryOp .Not a pos) (tNotV ta) := by
  intro pins s σ H Q I h
  refine UnaryOp_ (thn (ha pins s σ H _ I h) fun v s1 ⟨x, H1, I1, r1, q1⟩ => ?_)
  obtain ⟨c, rfl, q1⟩ := q1
  cases r1
  exact not_of (wpAny_truthy_bool ⟨.bl (!c), H1, I1, rfl, q1⟩)
def tIf (t : TT) (ta tb : TE) : TE := fun σ H Q => t σ H fun c H1 => if c = true then ta σ H1 Q else tb σ H1 Q
theorem pe_ifExp {c : Expr} (hc : PT X c tA) (ha : PE X a ta) (hb : PE X b tb) : PE X (.IfExp c a b pos) (tIf tA ta tb) := by
  intro pins s σ H Q I h
  refine wpAny_IfExp (thn (hc pins s σ H _ I h) fun d s1 ⟨H1, I1, q1⟩ => ?_)
  cases d with
  | true => exact ha pins s1 σ H1 Q I1 q1
  | false => exact hb pins s1 σ H1 Q I1 q1
end
end L2
namespace L2
open PySem PySem.Spec PyProof.Rows
def SqL (K : PySem.W.Frag) (H : Hp) (a : Addr) (xs : List V) : Prop :=
  Rd H a (.lst xs) ∨
    ∃ (o : Obj) (its : Array Value) (n : Nat), K.lookup a = some o ∧ o.cls = .type "list" ∧ o.dict = none ∧ o.data = .seq its n ∧ its.size ≤ sizeLine ∧ Vals xs its.toList
def SqT (K : PySem.W.Frag) (H : Hp) (a : Addr) (xs : List V) : Prop :=
  Rd H a (.tup xs) ∨
    ∃ (o : Obj) (its : Array Value) (n : Nat), K.lookup a = some o ∧ o.cls = .type "tuple" ∧ o.data = .seq its n ∧ its.size ≤ sizeLine ∧ Vals xs its.toList
def absV : Value → Option V
  | .none => some .non
  | .bool b => some (.bl b)
  | .int i _ => some (.int i)
  | .str x _ => some (.str x)
  | .bytes b _ => some (.byt b)
  | .float b _ => some (.flt b)
  | .ref a => some (.ref a)
  | .type n => some (.ty n)
  | _ => none
theorem RelV.abs {x : V} {u : Value} (r : RelV x u) : absV u = some x := by
  cases x with
  | non => cases r; rfl
  | bl _ => cases r; rfl
  | int _ => obtain ⟨t, rfl⟩ := r; rfl
  | str _ => obtain ⟨t, rfl⟩ := r; rfl
  | byt _ => obtain ⟨t, rfl⟩ := r; rfl
  | flt _ => obtain ⟨t, rfl⟩ := r; rfl
  | ref _ => cases r; rfl
  | ty _ => cases r; rfl
theorem RelV.inj {x y : V} {u : Value} (r : RelV x u) (q : RelV y u) : x = y := Option.some.inj (r.abs.symm.trans q.abs)
theorem Vals.inj : ∀ {xs ys : List V} {us : List Value}, Vals xs us → Vals ys us → xs = ys
  | _, _, _, .nil, .nil => rfl
  | _, _, _, .cons r t, .cons r' t' => by rw [r.inj r', Vals.inj t t']
section
variable {X : Cx} {pins : List (Addr × Obj)} {σ : St} {H : Hp} {s : Shared} {a : Addr} {xs ys : List V}
theorem SqL.of {K : PySem.W.Frag} (h : H a = some (.lst xs)) : SqL K H a xs := .inl (.inl h)
theorem SqT.of {K : PySem.W.Frag} (h : H a = some (.tup xs)) : SqT K H a xs := .inl (.inl h)
theorem Inv.list (I : Inv X pins σ H s) (h : SqL X.K H a xs) : ∃ its : List Value, Vals xs its ∧ PlainL s.heap a its.toArray ∧ xs.length ≤ sizeLine := by
  rcases h with h | ⟨o, its, n, hk, hc, hd, hs, hz, r⟩
  · obtain ⟨z, its, n, r, e⟩ := h.ok I.hok
    exact ⟨its, r, ⟨_, n, e, rfl, rfl, rfl⟩, z⟩
  · refine ⟨its.toList, r, ⟨o, n, I.kIn a o hk, hc, hd, by simpa using hs⟩, ?_⟩
    have e := r.length
    simp only [Array.length_toList] at e
    omega
theorem Inv.tuple (I : Inv X pins σ H s) (h : SqT X.K H a xs) : ∃ its : List Value, Vals xs its ∧ IsTup s.heap a its.toArray ∧ xs.length ≤ sizeLine := by
  rcases h with h | ⟨o, its, n, hk, hc, hs, hz, r⟩
  · obtain ⟨z, its, r, p⟩ := h.ok I.hok
    exact ⟨its, r, p, z⟩
  · refine ⟨its.toList, r, ⟨o, I.kIn a o hk, hc, n, by simpa using hs⟩, ?_⟩
    have e := r.length
    simp only [Array.length_toList] at e
    omega
theorem Inv.list_inj (I : Inv X pins σ H s) (h : SqL X.K H a xs) (h' : SqL X.K H a ys) : xs = ys := by
  obtain ⟨its, r, ⟨o, n, e, _, _, d⟩, _⟩ := I.list h
  obtain ⟨its', r', ⟨o', n', e', _, _, d'⟩, _⟩ := I.list h'
  rw [e] at e'; cases e'
  rw [d] at d'
  injection d' with d1 _
  have : its = its' := by simpa using congrArg Array.toList d1
  subst this
  exact r.inj r'
theorem Inv.tuple_inj (I : Inv X pins σ H s) (h : SqT X.K H a xs) (h' : SqT X.K H a ys) : xs = ys := by
  obtain ⟨its, r, ⟨o, e, _, n, d⟩, _⟩ := I.tuple h
  obtain ⟨its', r', ⟨o', e', _, n', d'⟩, _⟩ := I.tuple h'
  rw [e] at e'; cases e'
  rw [d] at d'
  injection d' with d1 _
  have : its = its' := by simpa using congrArg Array.toList d1
  subst this
  exact r.inj r'
end
abbrev Cx.wish (X : Cx) (E : Value → Shared → Prop) : Cx := { X with xe := E }
abbrev Cx.nox (X : Cx) : Cx := X.wish fun _ _ => False
theorem Cx.Ok.wish {X : Cx} (ok : X.Ok) (E : Value → Shared → Prop) : (X.wish E).Ok :=
  ⟨ok.mod, ok.kind, ok.glob, ok.blt, ok.above, ok.inj, ok.has, ok.cab, ok.hd, ok.frames, ok.stk, ok.exf, ok.bs, ok.bsz, ok.noex, ok.exfs, ok.funs, ok.frf⟩
theorem Cx.Ok.unwish {X : Cx} {E : Value → Shared → Prop} (ok : (X.wish E).Ok) : X.Ok :=
  ⟨ok.mod, ok.kind, ok.glob, ok.blt, ok.above, ok.inj, ok.has, ok.cab, ok.hd, ok.frames, ok.stk, ok.exf, ok.bs, ok.bsz, ok.noex, ok.exfs, ok.funs, ok.frf⟩
section
variable {X : Cx} {pins : List (Addr × Obj)} {σ : St} {H : Hp} {s : Shared} {E : Value → Shared → Prop}
theorem Inv.wish (I : Inv X pins σ H s) (E : Value → Shared → Prop) : Inv (X.wish E) pins σ H s := ⟨I.ok.wish E, I.os, I.bare, I.base, I.loc, I.cell, I.free, I.freeC, I.pin, I.hok, I.len, I.tk⟩
theorem Inv.unwish (I : Inv (X.wish E) pins σ H s) : Inv X pins σ H s := ⟨I.ok.unwish, I.os, I.bare, I.base, I.loc, I.cell, I.free, I.freeC, I.pin, I.hok, I.len, I.tk⟩
theorem SP.unwish {D : Ends} {f : Flow} {s' : Shared} (h : SP (X.wish E) pins D f s') : SP X pins D f s' := by
  cases f with
  | next => obtain ⟨σ', H', I, q⟩ := h; exact ⟨σ', H', I.unwish, q⟩
  | brk => obtain ⟨σ', H', I, q⟩ := h; exact ⟨σ', H', I.unwish, q⟩
  | cont => obtain ⟨σ', H', I, q⟩ := h; exact ⟨σ', H', I.unwish, q⟩
  | ret u => obtain ⟨v, σ', H', I, r, q⟩ := h; exact ⟨v, σ', H', I.unwish, r, q⟩
theorem PSs.nox {st : List Stmt} {t : TS} (h : PSs X.nox st t) : PSs X st t := fun pins s σ H D I hw =>
  wpAny_mono (h pins s σ H D (I.wish _) hw) (fun _ _ q => q.unwish) fun _ _ z => False.elim z
end
section
variable {X : Cx} {st : Stmt} {rest : List Stmt} {t u : TS} {e : Expr} {te : TE} {pos : Pos}
def tNext : TS := fun D σ H => D.nx σ H
def tSeq (t u : TS) : TS := fun D σ H => t { D with nx := u D } σ H
theorem pss_nil : PSs X [] tNext := fun _ _ σ H _ I h => wpAny_execs_nil ⟨σ, H, I, h⟩
theorem pss_cons (h1 : PS X st t) (h2 : PSs X rest u) : PSs X (st :: rest) (tSeq t u) := by
  intro pins s σ H D I h
  refine wpAny_execs_cons (thn (h1 pins s σ H { D with nx := u D } I h) fun f s1 q => ?_)
  cases f with
  | next =>
    obtain ⟨σ', H', I', q⟩ := q
    exact h2 pins s1 σ' H' D I' q
  | ret v => exact q
  | brk => exact q
  | cont => exact q
theorem pss_one (h1 : PS X st t) : PSs X [st] t := by
  intro pins s σ H D I h
  refine wpAny_execs_cons (thn (h1 pins s σ H D I h) fun f s1 q => ?_)
  cases f with
  | next => exact wpAny_execs_nil q
  | ret v => exact q
  | brk => exact q
  | cont => exact q
theorem Inv.quiet {pins : List (Addr × Obj)} {σ : St} {H : Hp} {s : Shared} (I : Inv X pins σ H s) : interactive X.env = false := by simp [interactive, I.ok.kind]
def tDrop (te : TE) : TS := fun D σ H => te σ H fun _ H1 => D.nx σ H1
theorem ps_expr (he : PE X e te) (hs : swapsWith e none pos.line X.env = pure false := by rfl) : PS X (.Expr e pos) (tDrop te) := by
  intro pins s σ H D I h
  exact wpAny_Expr_any (thn (he pins s σ H _ I h) fun v s1 ⟨x, H1, I1, r1, q1⟩ => ⟨σ, H1, I1, q1⟩) I.quiet hs
def tRet (te : TE) : TS := fun D σ H => te σ H D.rt
theorem ps_ret (he : PE X e te) : PS X (.Return (some e) pos) (tRet te) := by
  intro pins s σ H D I h
  exact wpAny_Return_some (thn (he pins s σ H _ I h) fun v s1 ⟨x, H1, I1, r1, q1⟩ => ⟨x, σ, H1, I1, r1, q1⟩)
def tIfS (c : TT) (t u : TS) : TS := fun D σ H => c σ H fun b H1 => if b = true then t D σ H1 else u D σ H1
theorem ps_if {c : Expr} {a b : List Stmt} {tc : TT} (hc : PT X c tc) (ha : PSs X a t) (hb : PSs X b u) : PS X (.If c a b pos) (tIfS tc t u) := by
  intro pins s σ H D I h
  refine wpAny_If (thn (hc pins s σ H _ I h) fun d s1 ⟨H1, I1, q1⟩ => ?_)
  cases d with
  | true => exact ha pins s1 σ H1 D I1 q1
  | false => exact hb pins s1 σ H1 D I1 q1
end
abbrev TG := V → St → Hp → (St → Hp → Prop) → Prop
def PG (X : Cx) (target : Expr) (t : TG) : Prop :=
  ∀ (pins : List (Addr × Obj)) (s : Shared) (σ : St) (H : Hp) (v : V) (u : Value) (Q : St → Hp → Prop), Inv X pins σ H s → RelV v u → t v σ H Q →
    wpAny (model X.prog X.w) X.A (assign target X.env u) (fun _ s' => ∃ σ' H', Inv X pins σ' H' s' ∧ Q σ' H') X.xe s
abbrev TSet := V → V → V → Hp → (Hp → Prop) → Prop
def PSet (X : Cx) (t : TSet) : Prop :=
  ∀ (pins : List (Addr × Obj)) (s : Shared) (σ : St) (H : Hp) (o i v : V) (ov iv u : Value) (Q : Hp → Prop), Inv X pins σ H s → RelV o ov → RelV i iv → RelV v u → t o i v H Q →
    wpAny (model X.prog X.w) X.A (setItem ov iv u) (fun _ s' => ∃ H', Inv X pins σ H' s' ∧ Q H') X.xe s
abbrev TIp := V → V → Hp → VK → Prop
def PIp (X : Cx) (op : Operator) (t : TIp) : Prop :=
  ∀ (pins : List (Addr × Obj)) (s : Shared) (σ : St) (H : Hp) (x y : V) (v u : Value) (Q : VK), Inv X pins σ H s → RelV x v → RelV y u → t x y H Q →
    wpAny (model X.prog X.w) X.A (inplaceOp op v u) (EP X pins σ Q) X.xe s
section
variable {X : Cx} {pos : Pos}
def gName (i : Nat) : TG := fun v σ H Q => Q (σ.set i (some v)) H
theorem pg_name {i : Nat} {x : Str} (hN : X.N.Nodup) (hi : X.N[i]? = some x) (hx : Loc X.env.scope x) (hf : X.fn x = true ∨ X.env.scope.names.lookup x = some .local := by first | exact .inl rfl | exact .inr rfl | assumption) : PG X (.Name x pos) (gName i) := by
  intro pins s σ H v u Q I r h
  exact wpAny_assign_Name (store_ok I hN hi hx r (fun s' I' => ⟨_, H, I', h⟩) hf)
def gSub (to ti : TE) (t : TSet) : TG := fun v σ H Q => to σ H fun o H1 => ti σ H1 fun i H2 => t o i v H2 fun H3 => Q σ H3
theorem pg_sub {o i : Expr} {to ti : TE} {t : TSet} (ho : PE X o to) (hi : PE X i ti) (hs : PSet X t)
    (ha : ∀ v, assign (.Subscript o i pos) X.env v = (do
      let ov ← holding [v] (eval o X.env)
      let iv ← holding [v, ov] (eval i X.env)
      standAt pos
      holding [v, ov, iv] (setItem ov iv v)
      release [v, ov, iv] []) := by intro _; rfl) : PG X (.Subscript o i pos) (gSub to ti t) := by
  intro pins s σ H v u Q I r h
  rw [ha]
  refine wpAny_bind (wpAny_holding (thn (ho pins s σ H _ I h) fun ov s1 ⟨x, H1, I1, r1, q1⟩ => ?_))
  refine wpAny_bind (wpAny_holding (thn (hi pins s1 σ H1 _ I1 q1) fun iv s2 ⟨y, H2, I2, r2, q2⟩ => ?_))
  refine wpAny_bind (wpAny_standAt (wpAny_bind (wpAny_holding (thn (hs pins s2 σ H2 x y v ov iv u _ I2 r1 r2 r q2) fun _ s3 ⟨H3, I3, q3⟩ => ?_))))
  exact wpAny_release ⟨σ, H3, I3, q3⟩
def tAsg (te : TE) (g : TG) : TS := fun D σ H => te σ H fun x H1 => g x σ H1 D.nx
theorem ps_asg {tg e : Expr} {te : TE} {g : TG} (he : PE X e te) (hg : PG X tg g) (hs : swapsWithSole [tg] e pos.line X.env = pure false := by rfl) (hw : swappedStores [tg] e X.env = pure none := by rfl)
    (h1 : (assignEach [tg] X.env).map (·.2) = [assign tg X.env] := by rfl) : PS X (.Assign [tg] e pos) (tAsg te g) := by
  intro pins s σ H D I h
  refine wpAny_Assign_stores (thn (he pins s σ H _ I h) fun v s1 ⟨x, H1, I1, r1, q1⟩ => ?_) hs hw
  rw [h1]
  exact thn (hg pins s1 σ H1 x v _ I1 r1 q1) fun _ s2 q => q
theorem ps_set {i : Nat} {x : Str} {e : Expr} {te : TE} {pos' : Pos} (hN : X.N.Nodup) (hi : X.N[i]? = some x) (hx : Loc X.env.scope x) (he : PE X e te) (hs : swapsWith e (some (.Name x pos')) pos.line X.env = pure false := by rfl) (hf : X.fn x = true ∨ X.env.scope.names.lookup x = some .local := by first | exact .inl rfl | exact .inr rfl | assumption) :
    PS X (.Assign [.Name x pos'] e pos) (tAsg te (gName i)) := by
  intro pins s σ H D I h
  refine wpAny_Assign_Name (thn (he pins s σ H _ I h) fun v s1 ⟨y, H1, I1, r1, q1⟩ => ?_) hs
  exact store_ok I1 hN hi hx r1 (fun s2 I2 => ⟨_, H1, I2, q1⟩) hf
def tPar (i j : Nat) (ta : TA) : TS := fun D σ H => ta σ H fun vs H1 => ∃ v w, vs = [v, w] ∧ D.nx ((σ.set i (some v)).set j (some w)) H1
theorem ps_par {i j : Nat} {x y : Str} {a b : Expr} {ta : TA} {px py pt : Pos} {kt k2 pt2} (hc : X.calm = true) (hN : X.N.Nodup) (hi : X.N[i]? = some x) (hj : X.N[j]? = some y) (hij : i ≠ j)
    (hx : X.env.scope.names.lookup x = some .local) (hy : X.env.scope.names.lookup y = some .local) (ha : PA X [a, b] ta)
    (hw : swappedStores [.Tuple [.Name x px, .Name y py] kt pt] (.Tuple [a, b] k2 pt2) X.env = pure (some [x, y]))
    (hs : swapsWithSole [.Tuple [.Name x px, .Name y py] kt pt] (.Tuple [a, b] k2 pt2) pos.line X.env = pure false := by rfl) :
    PS X (.Assign [.Tuple [.Name x px, .Name y py] kt pt] (.Tuple [a, b] k2 pt2) pos) (tPar i j ta) := by
  intro pins s σ H D I h
  rw [exec_Assign_arm]
  refine wpAny_bind (wpAny_standAt ?_)
  rw [hs]
  refine wpAny_bind (wpAny_pure ?_)
  rw [if_neg (by decide)]
  refine wpAny_bind (Tuple_ (thn (ha _ pins s σ H _ I h) fun us s1 ⟨vs, H1, I1, r1, q1⟩ => ?_))
  obtain ⟨v, w, e1, q1⟩ := q1
  subst e1
  obtain ⟨u1, u2, rfl, rv, rw'⟩ : ∃ u1 u2, us = [u1, u2] ∧ RelV v u1 ∧ RelV w u2 := by
    cases r1 with
    | cons p q =>
      cases q with
      | cons p' q' =>
        cases q'
        exact ⟨_, _, rfl, p, p'⟩
  refine wpAny_newObj_type ?_ (by show 2 ≤ sizeLine; decide)
  have I2 : Inv X pins σ H1 { s1 with heap := s1.heap.push { cls := .type "tuple", data := .seq [u1, u2].toArray } } := I1.kept (t' := s1.toks) fun b o e => Heap.get?_push_of_some _ e
  rw [hw]
  refine wpAny_bind (wpAny_pure ?_)
  show wpAny (model X.prog X.w) X.A (do rule "assign.swapped-stores"; let items ← unpackItems (.ref s1.heap.objs.size) 2 none; assignInOrder [fun v => bindName X.env y v, fun v => bindName X.env x v] items.reverse; pure Flow.next) _ _ _
  refine wpAny_bind (wpAny_rule (wpAny_bind (unpackItems_tuple (items := #[u1, u2]) (I.ok.hd hc) (IsTup.new s1.heap _) fun h' hx' => ?_)))
  have I3 := I2.kept (h' := h') (t' := s1.toks) fun b o e => hx' b o (Nat.ne_of_lt (Heap.lt_size e)) e
  show wpAny _ _ (assignInOrder [fun v => bindName X.env y v, fun v => bindName X.env x v] [u2, u1] >>= fun _ => pure Flow.next) _ _ _
  refine wpAny_bind (assignInOrder_cons (wpAny_bindName (store_ok I3 hN hj (.inl hy) rw' (fun s2 I4 => ?_) (.inr hy))))
  refine assignInOrder_cons (wpAny_bindName (store_ok I4 hN hi (.inl hx) rv (fun s3 I5 => assignInOrder_nil (wpAny_pure ?_)) (.inr hx)))
  rw [List.set_comm _ _ (Ne.symm hij)] at I5
  exact ⟨_, H1, I5, q1⟩
def tAug (i : Nat) (te : TE) (ti : TIp) : TS := fun D σ H => ∃ x, σ[i]? = some (some x) ∧ te σ H fun y H1 => ti x y H1 fun z H2 => D.nx (σ.set i (some z)) H2
theorem ps_aug {i : Nat} {x : Str} {e : Expr} {te : TE} {op : Operator} {ti : TIp} {pos' : Pos} (hN : X.N.Nodup) (hi : X.N[i]? = some x) (hx : Loc X.env.scope x) (he : PE X e te) (ho : PIp X op ti) (hf : X.fn x = true ∨ X.env.scope.names.lookup x = some .local := by first | exact .inl rfl | exact .inr rfl | assumption) :
    PS X (.AugAssign (.Name x pos') op e pos) (tAug i te ti) := by
  intro pins s σ H D I h
  obtain ⟨v, e1, h⟩ := h
  obtain ⟨m, hn, hl⟩ := I.loc
  have vis : Vis X.env.scope x := by rcases hx with k | k; exact .inl k; exact .inr (.inl k)
  obtain ⟨u, r, l⟩ := hl i x v hi e1 vis
  refine wpAny_AugAssign_Name ?_
  have go : wpAny (model X.prog X.w) X.A (eval e X.env) (fun w s₂ => wpAny (model X.prog X.w) X.A (inplaceOp op u w) (fun r s₃ => wpAny (model X.prog X.w) X.A (storeName X.env x r) (fun _ => SP X pins D .next) X.xe s₃) X.xe s₂) X.xe s := by
    refine thn (he pins s σ H _ I h) fun w s1 ⟨y, H1, I1, r1, q1⟩ => ?_
    refine thn (ho pins s1 σ H1 v y u w _ I1 r r1 q1) fun z s2 ⟨zv, H2, I2, r2, q2⟩ => ?_
    exact store_ok I2 hN hi hx r2 (fun s3 I3 => ⟨_, H2, I3, q2⟩) hf
  rcases l with ⟨hk, hm⟩ | ⟨hk, c, hc, hcell⟩
  · exact wpAny_loadName_local I.ok.kind hk hn hm go
  · rcases hk with hk | hk
    · exact wpAny_loadName_cell I.ok.kind hk hc hcell go
    · rcases hx with k | k
      · have : X.env.scope.names.lookup x = some .free := hk
        rw [k] at this; cases this
      · have : X.env.scope.names.lookup x = some .free := hk
        rw [k] at this; cases this
def ipI (f : Int → Int → Int) : TIp := fun x y H Q => ∃ i j, x = .int i ∧ y = .int j ∧ Q (.int (f i j)) H
theorem ip_add : PIp X .Add (ipI fun i j => i + j) := by
  intro pins s σ H x y v u Q I r1 r2 h
  obtain ⟨i, j, e1, e2, q⟩ := h
  subst e1; subst e2
  obtain ⟨t, rfl⟩ := r1
  obtain ⟨t', rfl⟩ := r2
  exact iadd_int ⟨.int _, H, I.tok _, ⟨_, rfl⟩, q⟩
end
section
variable {X : Cx} {pos : Pos}
def tWhile (c : TT) (tb : TS) : TS := fun D σ H => ∃ W : Nat → St → Hp → Prop, (∃ m, W m σ H) ∧ ∀ m σ H, W m σ H →
  c σ H fun b H1 => if b = true then ∃ N : St → Hp → Prop, (∀ σ' H', N σ' H' → ∃ m', m' < m ∧ W m' σ' H') ∧ tb { D with nx := N, ct := N, bk := D.nx } σ H1 else D.nx σ H1
theorem ps_while {c : Expr} {body : List Stmt} {tc : TT} {tb : TS} (hp : PassesOwn (model X.prog X.w) X.A X.env X.xe) (hc : PT X c tc) (hb : PSs X body tb) : PS X (.While c body [] pos) (tWhile tc tb) := by
  intro pins s σ H D I h
  obtain ⟨W, ⟨m0, w0⟩, turn⟩ := h
  refine wpAny_While (codeAny_whileLoop (fun n s' => ∃ σ' H', Inv X pins σ' H' s' ∧ W n σ' H') ?_ m0 ⟨σ, H, I, w0⟩)
  rintro n s1 ⟨σ1, H1, I1, w1⟩
  refine wpAny_passesOwn hp (thn (hc pins s1 σ1 H1 _ I1 (turn n σ1 H1 w1)) fun b s2 ⟨H2, I2, q2⟩ => ?_)
  cases b with
  | true =>
    obtain ⟨N, hN, q2⟩ := q2
    rw [if_pos rfl]
    refine wpAny_passesOwn hp (thn (hb pins s2 σ1 H2 _ I2 q2) fun f s3 q3 => ?_)
    cases f with
    | next =>
      obtain ⟨σ3, H3, I3, n3⟩ := q3
      obtain ⟨m', hm, w3⟩ := hN σ3 H3 n3
      exact ⟨m', hm, σ3, H3, I3, w3⟩
    | cont =>
      obtain ⟨σ3, H3, I3, n3⟩ := q3
      obtain ⟨m', hm, w3⟩ := hN σ3 H3 n3
      exact ⟨m', hm, σ3, H3, I3, w3⟩
    | brk => exact q3
    | ret v => exact q3
  | false =>
    rw [if_neg Bool.false_ne_true]
    exact wpAny_execs_nil ⟨σ1, H2, I2, q2⟩
end
structure It where
  go : Nat → Hp → Prop
  yld : Nat → Hp → V → Hp → Prop
  stop : Nat → Hp → Prop
def FpOk (X : Cx) (pins : List (Addr × Obj)) (H : Hp) (b : Addr) : Prop :=
  H b = none ∧ b ≠ X.env.locals ∧ b ∉ X.fs ∧ (b ∈ X.ex ∨ X.s₀.heap.objs.size ≤ b) ∧ (∀ x c, X.env.cells.lookup x = some c → c ≠ b) ∧ ∀ p ∈ X.pn ++ pins, p.1 ≠ b
theorem Inv.fpOk {X : Cx} {pins : List (Addr × Obj)} {σ : St} {H H' : Hp} {s : Shared} {b : Addr} (I : Inv X pins σ H s) (hb : s.heap.objs.size ≤ b) (hn : H' b = none) : FpOk X pins H' b := by
  refine ⟨hn, Nat.ne_of_gt (Nat.lt_of_lt_of_le I.lt hb), I.nofs hb, .inr (Nat.le_trans I.sz hb), fun x c e z => ?_, fun p hp z => ?_⟩
  · obtain ⟨v, q⟩ := I.cell x c e
    exact absurd (Nat.lt_of_lt_of_le q.lt (by rw [z]; exact hb)) (Nat.lt_irrefl _)
  · exact absurd (Nat.lt_of_lt_of_le (Heap.lt_size (I.pin p hp).1) (by rw [z]; exact hb)) (Nat.lt_irrefl _)
structure Turn (P : Program) (w : World) (K : PySem.W.Frag) (tg : Expr) (J : It) (fp : List Addr) (it : Addr) (tn : Nat → Heap → Prop) : Prop where
  mem : it ∈ fp
  obj : ∀ i h, tn i h → ∀ b ∈ fp, ∃ o, h.get? b = some o ∧ ∀ v, o.data ≠ .cell v
  keep : ∀ i h h', tn i h → (∀ b ∈ fp, ∀ o, h.get? b = some o → h'.get? b = some o) → tn i h'
  item : ∀ (X : Cx), X.prog = P → X.w = w → X.K = K → X.calm = true → ∀ (i : Nat) (pins : List (Addr × Obj)) (s : Shared) (σ : St) (H : Hp) (E : Value → Shared → Prop), Inv X pins σ H s → (∀ b ∈ fp, FpOk X pins H b) → tn i s.heap → J.go i H →
    wpAny (model P w) X.A (pyNext (.ref it)) (fun r s1 => ∃ u, r = some u ∧
      wpAny (model P w) X.A (letOwnedTupleGo tg (.ref it) u) (fun _ s2 => ∃ x H', Inv X pins σ H' s2 ∧ RelV x u ∧ J.yld i H x H' ∧ tn (i + 1) s2.heap ∧ ∀ b ∈ fp, H' b = none) E s1) E s
  done : ∀ (X : Cx), X.prog = P → X.w = w → X.K = K → X.calm = true → ∀ (i : Nat) (pins : List (Addr × Obj)) (s : Shared) (σ : St) (H : Hp) (E : Value → Shared → Prop), Inv X pins σ H s → (∀ b ∈ fp, FpOk X pins H b) → tn i s.heap → J.stop i H →
    wpAny (model P w) X.A (pyNext (.ref it)) (fun r s1 => r = none ∧ Inv X pins σ H s1) E s
  self : ∀ (A : Around) (i : Nat) (s : Shared) (Q : Value → Shared → Prop) (E : Value → Shared → Prop), tn i s.heap → Q (.ref it) s → wpAny (model P w) A (pyIter (.ref it)) Q E s
abbrev TI := St → Hp → (It → Hp → Prop) → Prop
def PIE (X : Cx) (pins : List (Addr × Obj)) (σ : St) (tg : Expr) (R : It → Hp → Prop) (itv : Value) (s2 : Shared) : Prop :=
  ∃ (it : Addr) (fp : List Addr) (tn : Nat → Heap → Prop) (J : It) (H' : Hp), itv = .ref it ∧ Inv X pins σ H' s2 ∧ Turn X.prog X.w X.K tg J fp it tn ∧ tn 0 s2.heap ∧ (∀ b ∈ fp, FpOk X pins H' b) ∧ R J H'
def PI (X : Cx) (tg iter : Expr) (wi : TI) : Prop :=
  ∀ (pins : List (Addr × Obj)) (s : Shared) (σ : St) (H : Hp) (R : It → Hp → Prop), Inv X pins σ H s → wi σ H R →
    wpAny (model X.prog X.w) X.A (eval iter X.env) (fun v s1 => wpAny (model X.prog X.w) X.A (pyIter v) (PIE X pins σ tg R) X.xe s1) X.xe s
theorem go_of {M : Model} {A : Around} {E : Value → Shared → Prop} {s : Shared} {tg : Expr} {it : Addr} {u : Value} {o : Obj} {n : String} {vs : Array Value} {Q : Unit → Shared → Prop} (ho : s.heap.get? it = some o) (hc : o.cls = .type n) (hd : o.data = .fields vs)
    (hn : ["enumerate", "zip", "dict_itemiterator", "dict_reverseitemiterator", "odict_iterator", "itertools.zip_longest", "itertools.pairwise"].contains n = false) (hQ : Q () s) : wpAny M A (letOwnedTupleGo tg (.ref it) u) Q E s := by
  unfold letOwnedTupleGo
  cases tg <;> first
    | exact wpAny_pure hQ
    | (cases u <;> first
        | exact wpAny_pure hQ
        | (refine wpAny_bind (wpAny_load ho ?_)
           rw [hc, hd]
           show wpAny M A (if (["enumerate", "zip", "dict_itemiterator", "dict_reverseitemiterator", "odict_iterator", "itertools.zip_longest", "itertools.pairwise"].contains n && vs[0]? == some (rawInt _)) = true then _ else _) Q E s
           rw [if_neg (by intro h; rw [hn, Bool.false_and] at h; cases h)]
           exact wpAny_pure hQ))
def Itl (K : PySem.W.Frag) (a : Addr) : It :=
  ⟨fun i H => ∃ xs x, SqL K H a xs ∧ xs[i]? = some x, fun i H x H' => H' = H ∧ ∀ xs, SqL K H a xs → xs[i]? = some x, fun i H => ∃ xs, SqL K H a xs ∧ xs.length ≤ i⟩
def Itt (K : PySem.W.Frag) (a : Addr) : It :=
  ⟨fun i H => ∃ xs x, SqT K H a xs ∧ xs[i]? = some x, fun i H x H' => H' = H ∧ ∀ xs, SqT K H a xs → xs[i]? = some x, fun i H => ∃ xs, SqT K H a xs ∧ xs.length ≤ i⟩
def Itr (lo : Int) (n : Nat) : It := ⟨fun i _ => i < n, fun i H x H' => H' = H ∧ x = .int (lo + i), fun i _ => n ≤ i⟩
theorem turn_list {P : Program} {w : World} {K : PySem.W.Frag} {tg : Expr} (a it : Addr) : Turn P w K tg (Itl K a) [it] it (fun i h => h.IsListIter it a i) where
  mem := by simp
  obj := fun i h st b hb => by
    have e : b = it := by simpa using hb
    subst e
    obtain ⟨o, e, c, d⟩ := st
    exact ⟨o, e, fun v z => by rw [d] at z; cases z⟩
  keep := fun i h h' st k => st.at fun o e => k it (by simp) o e
  item := by
    intro X hP hw hK hc i pins s σ H E I hf st hg
    subst hP hw hK
    obtain ⟨xs, x, hq, hx⟩ := hg
    obtain ⟨its, rv, p, hz⟩ := I.list hq
    obtain ⟨u, hu, ru⟩ := rv.get hx
    obtain ⟨f0, f1, f2, f3, f4, f5⟩ := hf it (by simp)
    refine wpAny_pyNext_list_item st p.isList (x := u) (by simpa using hu) fun h' st' sb => ?_
    have I1 : Inv X pins σ H { s with heap := h' } := I.turned (t' := s.toks) (fun b o hb e => (sb.2 b hb).trans e) f0 f1 f3 f4 f5
    obtain ⟨o, e, c, d⟩ := id st'
    exact ⟨u, rfl, go_of (s := { s with heap := h' }) e c d (by decide) ⟨x, H, I1, ru, ⟨rfl, fun ys hy => by rw [I.list_inj hy hq]; exact hx⟩, st', fun b hb => (hf b hb).1⟩⟩
  done := by
    intro X hP hw hK hc i pins s σ H E I hf st hg
    subst hP hw hK
    obtain ⟨xs, hq, hx⟩ := hg
    obtain ⟨its, rv, p, hz⟩ := I.list hq
    obtain ⟨f0, f1, f2, f3, f4, f5⟩ := hf it (by simp)
    have hl := rv.length
    exact wpAny_pyNext_list_end (I.ok.hd hc) st p.isList (by simp; omega) fun h' eb => ⟨rfl, I.turned (t' := s.toks) (fun b o hb e => eb b o hb e) f0 f1 f3 f4 f5⟩
  self := fun _ _ _ _ _ st h => wpAny_pyIter_listiter st h
theorem turn_tuple {P : Program} {w : World} {K : PySem.W.Frag} {tg : Expr} (a it : Addr) : Turn P w K tg (Itt K a) [it] it (fun i h => h.IsTupleIter it a i) where
  mem := by simp
  obj := fun i h st b hb => by
    have e : b = it := by simpa using hb
    subst e
    obtain ⟨o, e, c, d⟩ := st
    exact ⟨o, e, fun v z => by rw [d] at z; cases z⟩
  keep := fun i h h' st k => st.at fun o e => k it (by simp) o e
  item := by
    intro X hP hw hK hc i pins s σ H E I hf st hg
    subst hP hw hK
    obtain ⟨xs, x, hq, hx⟩ := hg
    obtain ⟨its, rv, p, hz⟩ := I.tuple hq
    obtain ⟨u, hu, ru⟩ := rv.get hx
    obtain ⟨f0, f1, f2, f3, f4, f5⟩ := hf it (by simp)
    refine wpAny_pyNext_tuple_item st (show s.heap.IsTuple a its.toArray from p) (x := u) (by simpa using hu) fun h' st' sb => ?_
    have I1 : Inv X pins σ H { s with heap := h' } := I.turned (t' := s.toks) (fun b o hb e => (sb.2 b hb).trans e) f0 f1 f3 f4 f5
    obtain ⟨o, e, c, d⟩ := id st'
    exact ⟨u, rfl, go_of (s := { s with heap := h' }) e c d (by decide) ⟨x, H, I1, ru, ⟨rfl, fun ys hy => by rw [I.tuple_inj hy hq]; exact hx⟩, st', fun b hb => (hf b hb).1⟩⟩
  done := by
    intro X hP hw hK hc i pins s σ H E I hf st hg
    subst hP hw hK
    obtain ⟨xs, hq, hx⟩ := hg
    obtain ⟨its, rv, p, hz⟩ := I.tuple hq
    obtain ⟨f0, f1, f2, f3, f4, f5⟩ := hf it (by simp)
    have hl := rv.length
    exact wpAny_pyNext_tuple_end (I.ok.hd hc) st (show s.heap.IsTuple a its.toArray from p) (by simp; omega) fun h' eb => ⟨rfl, I.turned (t' := s.toks) (fun b o hb e => eb b o hb e) f0 f1 f3 f4 f5⟩
  self := fun _ _ _ _ _ st h => wpAny_pyIter_tupleiter st h
theorem turn_range {P : Program} {w : World} {K : PySem.W.Frag} {tg : Expr} (it : Addr) (lo : Int) (n : Nat) : Turn P w K tg (Itr lo n) [it] it (fun i h => IsRangeIter h it (lo + (i : Nat) * 1) ((n : Int) - (i : Nat)) 1) where
  mem := by simp
  obj := fun i h st b hb => by
    have e : b = it := by simpa using hb
    subst e
    exact ⟨_, st, fun v z => by
      have z' : Data.fields _ = Data.cell v := z
      cases z'⟩
  keep := fun i h h' st k => k it (by simp) _ st
  item := by
    intro X hP hw hK hc i pins s σ H E I hf st hg
    subst hP hw hK
    obtain ⟨f0, f1, f2, f3, f4, f5⟩ := hf it (by simp)
    have W := Walks.range (prog := X.prog) (w := X.w) (I.ok.hd hc) it lo 1 n
    refine wpAny_with_toks I.tk (W.item i s _ _ hg st fun v h' tk hv st' kk htk => ?_)
    obtain ⟨t, rfl⟩ := hv
    have I1 : Inv X pins σ H { s with heap := h', toks := tk } := I.turned (fun b o hb e => kk b o (by simpa using hb) e) f0 f1 f3 f4 f5
    refine ⟨_, rfl, go_of (s := { s with heap := h', toks := tk }) (n := "range_iterator") st' rfl rfl (by decide) ⟨.int (lo + i), H, I1, ⟨t, ?_⟩, ⟨rfl, rfl⟩, st', fun b hb => (hf b hb).1⟩⟩
    rw [Int.mul_one]
  done := by
    intro X hP hw hK hc i pins s σ H E I hf st hg
    subst hP hw hK
    obtain ⟨f0, f1, f2, f3, f4, f5⟩ := hf it (by simp)
    exact wpAny_pyNext_range_end (I.ok.hd hc) st (by have : n ≤ i := hg; omega) fun h' eb => ⟨rfl, I.turned (t' := s.toks) (fun b o hb e => eb b o hb e) f0 f1 f3 f4 f5⟩
  self := fun _ _ _ _ _ st h => wpAny_pyIter_rangeiter st h
end L2
namespace L2
open PySem PySem.Spec PyProof.Rows
section
variable {X : Cx} {tg : Expr}
def iList (K : PySem.W.Frag) (tl : TE) : TI := fun σ H R => tl σ H fun x H1 => ∃ a, x = .ref a ∧ (∃ xs, SqL K H1 a xs) ∧ R (Itl K a) H1
def iTup (K : PySem.W.Frag) (tl : TE) : TI := fun σ H R => tl σ H fun x H1 => ∃ a, x = .ref a ∧ (∃ xs, SqT K H1 a xs) ∧ R (Itt K a) H1
theorem pi_list {l : Expr} {tl : TE} (hl : PE X l tl) : PI X tg l (iList X.K tl) := by
  intro pins s σ H R I h
  refine thn (hl pins s σ H _ I h) fun v s1 ⟨x, H1, I1, r1, q1⟩ => ?_
  obtain ⟨a, e, ⟨xs, hq⟩, q⟩ := q1
  subst e
  cases r1
  obtain ⟨its, rv, p, hz⟩ := I1.list hq
  refine wpAny_pyIter_list p.isList ?_
  refine ⟨s1.heap.objs.size, [s1.heap.objs.size], _, _, H1, rfl, I1.kept (t' := s1.toks) fun b o e => Heap.get?_push_of_some _ e, turn_list a _, ⟨_, Heap.get?_push_size _ rfl, rfl, rfl⟩, fun b hb => ?_, q⟩
  have e : b = s1.heap.objs.size := by simpa using hb
  subst e
  exact I1.fpOk (Nat.le_refl _) (I1.hok.fresh (Nat.le_refl _))
theorem pi_tup {l : Expr} {tl : TE} (hl : PE X l tl) : PI X tg l (iTup X.K tl) := by
  intro pins s σ H R I h
  refine thn (hl pins s σ H _ I h) fun v s1 ⟨x, H1, I1, r1, q1⟩ => ?_
  obtain ⟨a, e, ⟨xs, hq⟩, q⟩ := q1
  subst e
  cases r1
  obtain ⟨its, rv, p, hz⟩ := I1.tuple hq
  refine wpAny_pyIter_tuple (show s1.heap.IsTuple a its.toArray from p) ?_
  refine ⟨s1.heap.objs.size, [s1.heap.objs.size], _, _, H1, rfl, I1.kept (t' := s1.toks) fun b o e => Heap.get?_push_of_some _ e, turn_tuple a _, ⟨_, Heap.get?_push_size _ rfl, rfl, rfl⟩, fun b hb => ?_, q⟩
  have e : b = s1.heap.objs.size := by simpa using hb
  subst e
  exact I1.fpOk (Nat.le_refl _) (I1.hok.fresh (Nat.le_refl _))
theorem range_it {pins : List (Addr × Obj)} {σ : St} {H : Hp} {s : Shared} {R : It → Hp → Prop} {E : Value → Shared → Prop} {lo hi : Int} {t u v : Tok} {tk : Nat} (I : Inv X pins σ H s) (h1 : -(2 ^ 62) ≤ lo) (h2 : lo < 2 ^ 62) (h3 : -(2 ^ 62) ≤ hi) (h4 : hi < 2 ^ 62) (htk : 1 ≤ tk)
    (q : R (Itr lo (hi - lo).toNat) H) : wpAny (model X.prog X.w) X.A (pyIter (.ref s.heap.objs.size)) (PIE X pins σ tg R) E { s with heap := s.heap.push { cls := .type "range", data := .fields #[.int lo t, .int hi u, .int 1 v] }, toks := tk } := by
  refine wpAny_pyIter_range (IsRange.new ..) (small_one h1 h2 h3 h4) ?_
  have I1 : Inv X pins σ H { s with heap := s.heap.push { cls := .type "range", data := .fields #[.int lo t, .int hi u, .int 1 v] }, toks := tk } := I.kept fun b o e => Heap.get?_push_of_some _ e
  refine ⟨(s.heap.push { cls := .type "range", data := .fields #[.int lo t, .int hi u, .int 1 v] }).objs.size, [(s.heap.push { cls := .type "range", data := .fields #[.int lo t, .int hi u, .int 1 v] }).objs.size], _, _, H, rfl,
    I1.kept (t' := tk) fun b o e => Heap.get?_push_of_some _ e, turn_range _ lo (hi - lo).toNat, ?_, fun b hb => ?_, q⟩
  · have e1 : lo + ((0 : Nat) : Int) * 1 = lo := by simp
    have e2 : (((hi - lo).toNat : Nat) : Int) - ((0 : Nat) : Int) = Builtin.Range.rangeSize lo hi 1 := by rw [rangeSize_one]; split <;> omega
    show IsRangeIter _ _ (lo + ((0 : Nat) : Int) * 1) ((((hi - lo).toNat : Nat) : Int) - ((0 : Nat) : Int)) 1
    rw [e1, e2]
    exact Heap.get?_push_size _ rfl
  · have e : b = (s.heap.push { cls := .type "range", data := .fields #[.int lo t, .int hi u, .int 1 v] }).objs.size := by simpa using hb
    subst e
    exact I1.fpOk (Nat.le_refl _) (I1.hok.fresh (Nat.le_refl _))
def iRng1 (ta : TA) : TI := fun σ H R => ta σ H fun vs H1 => ∃ j : Int, vs = [.int j] ∧ -(2 ^ 62) ≤ j ∧ j < 2 ^ 62 ∧ R (Itr 0 j.toNat) H1
theorem pi_range1 {a : Expr} {ta : TA} {p pos : Pos} (hg : Gl X "range") (hm : X.mg "range" = none) (ha : PA X [a] ta) (hs : starEach [a] X.env = [(false, eval a X.env)] := by rfl) : PI X tg (.Call (.Name "range" p) [a] [] pos) (iRng1 ta) := by
  intro pins s σ H R I h
  refine Call_ (ld_blt I hg hm boot_range (PyProof.Rows.callWith_type1 (thn (ha pos pins s σ H _ I h) fun us s1 ⟨vs, H1, I1, r1, q1⟩ => ?_) hs rfl))
  obtain ⟨j, e, q1, q2, q⟩ := q1
  subst e
  cases r1 with
  | cons r rr =>
    cases rr
    obtain ⟨t, rfl⟩ := r
    exact call_range_1 (range_it I1 (by omega) (by omega) q1 q2 (by first | exact Nat.le_add_left _ _ | exact I1.tk | omega) (by simpa using q))
def tFor (wi : TI) (g : TG) (tb : TS) : TS := fun D σ H => wi σ H fun J H1 => ∃ W : Nat → Nat → St → Hp → Prop, (∃ m, W 0 m σ H1) ∧ ∀ i m σ H, W i m σ H →
  (J.stop i H ∧ D.nx σ H) ∨ (J.go i H ∧ ∃ N : St → Hp → Prop, (∀ σ' H', N σ' H' → ∃ m', m' < m ∧ W (i + 1) m' σ' H') ∧ ∀ x H', J.yld i H x H' → g x σ H' fun σ2 H2 => tb { D with nx := N, ct := N, bk := D.nx } σ2 H2)
def pinsAt (fp : List Addr) (h : Heap) : List (Addr × Obj) := fp.filterMap fun b => (h.get? b).map fun o => (b, o)
theorem mem_pinsAt {fp : List Addr} {h : Heap} {b : Addr} {o : Obj} (hb : b ∈ fp) (e : h.get? b = some o) : (b, o) ∈ pinsAt fp h := List.mem_filterMap.mpr ⟨b, hb, by rw [e]; rfl⟩
theorem of_pinsAt {fp : List Addr} {h : Heap} {p : Addr × Obj} (hp : p ∈ pinsAt fp h) : p.1 ∈ fp ∧ h.get? p.1 = some p.2 := by
  obtain ⟨b, hb, e⟩ := List.mem_filterMap.mp hp
  cases q : h.get? b with
  | none => rw [q] at e; cases e
  | some o =>
    rw [q] at e
    have e' : (b, o) = p := Option.some.inj e
    subst e'
    exact ⟨hb, q⟩
theorem Inv.pinned {pins : List (Addr × Obj)} {σ : St} {H : Hp} {s : Shared} {fp : List Addr} (I : Inv X pins σ H s) (hf : ∀ b ∈ fp, FpOk X pins H b) (ho : ∀ b ∈ fp, ∃ o, s.heap.get? b = some o ∧ ∀ v, o.data ≠ .cell v) : Inv X (pins ++ pinsAt fp s.heap) σ H s :=
  I.pins_of fun p hp => (List.mem_append.mp hp).elim (fun z => I.pin p (List.mem_append_right _ z)) fun z => by
    obtain ⟨hb, e⟩ := of_pinsAt z
    obtain ⟨f0, f1, f2, _⟩ := hf p.1 hb
    obtain ⟨o, e', d⟩ := ho p.1 hb
    rw [e] at e'; cases e'
    exact ⟨e, f0, f1, f2, d⟩
theorem Inv.unpinned {pins pl : List (Addr × Obj)} {σ : St} {H : Hp} {s : Shared} (I : Inv X (pins ++ pl) σ H s) : Inv X pins σ H s := I.pins_of fun p hp => I.pin p (List.mem_append_right _ (List.mem_append_left _ hp))
theorem ps_for {iter : Expr} {body : List Stmt} {wi : TI} {g : TG} {tb : TS} {pos : Pos} (hp : PassesOwn (model X.prog X.w) X.A X.env X.xe) (hc : X.calm = true) (hi : PI X tg iter wi) (hg : PG X tg g) (hb : PSs X body tb)
    (hs : ∀ x, foldedSetIterable iter X.env x = pure x := by intro _; rfl) : PS X (.For tg iter body [] pos) (tFor wi g tb) := by
  intro pins s σ H D I h
  refine wpAny_For (thn (hi pins s σ H _ I h) fun v s1 h1 => thn h1 fun itv s2 h2 => ?_) hs
  obtain ⟨it, fp, tn, J, H2, e, I2, T, st2, f2, W, ⟨m0, w0⟩, turn⟩ := h2
  subst e
  -- what stays true of the iterator's objects through the loop
  have stat : ∀ {H' : Hp}, (∀ b ∈ fp, H' b = none) → ∀ b ∈ fp, FpOk X pins H' b := fun hn b hb => ⟨hn b hb, (f2 b hb).2⟩
  refine codeAny_forLoop_any (fun n s' => ∃ i σ' H', Inv X pins σ' H' s' ∧ tn i s'.heap ∧ (∀ b ∈ fp, H' b = none) ∧ W i n σ' H') ?_ m0 ⟨0, σ, H2, I2, st2, fun b hb => (f2 b hb).1, w0⟩
  rintro n s3 ⟨i, σ3, H3, I3, st3, fr3, w3⟩
  rcases turn i n σ3 H3 w3 with ⟨stop, qn⟩ | ⟨go, N, hN, step⟩
  · refine wpAny_passesOwn hp (thn (T.done X rfl rfl rfl hc i pins s3 σ3 H3 X.xe I3 (stat fr3) st3 stop) fun r s4 ⟨hr, I4⟩ => ?_)
    subst hr
    exact wpAny_execs_nil ⟨σ3, H3, I4, qn⟩
  · refine wpAny_passesOwn hp (thn (T.item X rfl rfl rfl hc i pins s3 σ3 H3 X.xe I3 (stat fr3) st3 go) fun r s4 ⟨u, hr, h4⟩ => ?_)
    subst hr
    refine wpAny_passesOwn hp (thn h4 fun _ s5 ⟨x, H5, I5, r5, y5, st5, fr5⟩ => ?_)
    have I5' := I5.pinned (stat fr5) (T.obj _ _ st5)
    refine wpAny_passesOwn hp (thn (hg _ s5 σ3 H5 x u _ I5' r5 (step x H5 y5)) fun _ s6 ⟨σ6, H6, I6, q6⟩ => ?_)
    refine wpAny_passesOwn hp (thn (hb _ s6 σ6 H6 _ I6 q6) fun f s7 q7 => ?_)
    have again : ∀ {σ7 : St} {H7 : Hp}, Inv X (pins ++ pinsAt fp s5.heap) σ7 H7 s7 → N σ7 H7 → ∃ m, m < n ∧ ∃ i σ' H', Inv X pins σ' H' s7 ∧ tn i s7.heap ∧ (∀ b ∈ fp, H' b = none) ∧ W i m σ' H' := fun {σ7 H7} I7 n7 => by
      obtain ⟨m', hm, w7⟩ := hN σ7 H7 n7
      refine ⟨m', hm, i + 1, σ7, H7, I7.unpinned, T.keep _ _ _ st5 fun b hb o e => (I7.pin (b, o) (List.mem_append_right _ (List.mem_append_right _ (mem_pinsAt hb e)))).1, fun b hb => ?_, w7⟩
      obtain ⟨o, e, d⟩ := T.obj _ _ st5 b hb
      exact (I7.pin (b, o) (List.mem_append_right _ (List.mem_append_right _ (mem_pinsAt hb e)))).2.1
    cases f with
    | next => obtain ⟨σ7, H7, I7, n7⟩ := q7; exact again I7 n7
    | cont => obtain ⟨σ7, H7, I7, n7⟩ := q7; exact again I7 n7
    | brk => obtain ⟨σ7, H7, I7, q7⟩ := q7; exact ⟨σ7, H7, I7.unpinned, q7⟩
    | ret v => obtain ⟨x7, σ7, H7, I7, r7, q7⟩ := q7; exact ⟨x7, σ7, H7, I7.unpinned, r7, q7⟩
end
theorem for_list {K : PySem.W.Frag} {a : Addr} {xs : List V} {g : TG} {tb : TS} {D : Ends} {σ : St} {H : Hp} (Pv : Nat → St → Hp → Prop) (h0 : Pv 0 σ H) (hl : ∀ i σ H, i ≤ xs.length → Pv i σ H → SqL K H a xs)
    (hs : ∀ i x σ H, xs[i]? = some x → Pv i σ H → g x σ H fun σ2 H2 => tb { D with nx := Pv (i + 1), ct := Pv (i + 1), bk := D.nx } σ2 H2) (hd : ∀ σ H, Pv xs.length σ H → D.nx σ H) :
    ∃ W : Nat → Nat → St → Hp → Prop, (∃ m, W 0 m σ H) ∧ ∀ i m σ H, W i m σ H →
      ((Itl K a).stop i H ∧ D.nx σ H) ∨ ((Itl K a).go i H ∧ ∃ N : St → Hp → Prop, (∀ σ' H', N σ' H' → ∃ m', m' < m ∧ W (i + 1) m' σ' H') ∧ ∀ x H', (Itl K a).yld i H x H' → g x σ H' fun σ2 H2 => tb { D with nx := N, ct := N, bk := D.nx } σ2 H2) := by
  refine ⟨fun i m σ H => m = xs.length - i ∧ i ≤ xs.length ∧ Pv i σ H, ⟨xs.length, by simp, Nat.zero_le _, h0⟩, ?_⟩
  rintro i m σ H ⟨rfl, hi, p⟩
  have q := hl i σ H hi p
  by_cases hlt : i < xs.length
  · refine .inr ⟨⟨xs, xs[i], q, by simp [hlt]⟩, Pv (i + 1), fun σ' H' p' => ⟨xs.length - (i + 1), by omega, rfl, hlt, p'⟩, fun x H' y => ?_⟩
    obtain ⟨e, y⟩ := y
    subst e
    exact hs i x σ _ (y xs q) p
  · have e : i = xs.length := by omega
    subst e
    exact .inl ⟨⟨xs, q, Nat.le_refl _⟩, hd σ H p⟩
theorem for_range {lo : Int} {n : Nat} {g : TG} {tb : TS} {D : Ends} {σ : St} {H : Hp} (Pv : Nat → St → Hp → Prop) (h0 : Pv 0 σ H)
    (hs : ∀ i σ H, i < n → Pv i σ H → g (.int (lo + i)) σ H fun σ2 H2 => tb { D with nx := Pv (i + 1), ct := Pv (i + 1), bk := D.nx } σ2 H2) (hd : ∀ σ H, Pv n σ H → D.nx σ H) :
    ∃ W : Nat → Nat → St → Hp → Prop, (∃ m, W 0 m σ H) ∧ ∀ i m σ H, W i m σ H →
      ((Itr lo n).stop i H ∧ D.nx σ H) ∨ ((Itr lo n).go i H ∧ ∃ N : St → Hp → Prop, (∀ σ' H', N σ' H' → ∃ m', m' < m ∧ W (i + 1) m' σ' H') ∧ ∀ x H', (Itr lo n).yld i H x H' → g x σ H' fun σ2 H2 => tb { D with nx := N, ct := N, bk := D.nx } σ2 H2) := by
  refine ⟨fun i m σ H => m = n - i ∧ i ≤ n ∧ Pv i σ H, ⟨n, by simp, Nat.zero_le _, h0⟩, ?_⟩
  rintro i m σ H ⟨rfl, hi, p⟩
  by_cases hlt : i < n
  · refine .inr ⟨hlt, Pv (i + 1), fun σ' H' p' => ⟨n - (i + 1), by omega, rfl, hlt, p'⟩, fun x H' y => ?_⟩
    obtain ⟨e, y⟩ := y
    subst e y
    exact hs i σ _ hlt p
  · have e : i = n := by omega
    subst e
    exact .inl ⟨Nat.le_refl _, hd σ H p⟩
end L2
namespace L2
open PySem PySem.Spec PyProof.Rows
abbrev R2 := V → V → Hp → VK → Prop
def OpR (X : Cx) (f : Value → Value → Sem Value) (r : R2) : Prop :=
  ∀ (pins : List (Addr × Obj)) (s : Shared) (σ : St) (H : Hp) (x y : V) (v u : Value) (Q : VK), Inv X pins σ H s → RelV x v → RelV y u → r x y H Q →
    wpAny (model X.prog X.w) X.A (f v u) (EP X pins σ Q) X.xe s
def UnR (X : Cx) (f : Value → Sem Value) (r : V → Hp → VK → Prop) : Prop :=
  ∀ (pins : List (Addr × Obj)) (s : Shared) (σ : St) (H : Hp) (x : V) (v : Value) (Q : VK), Inv X pins σ H s → RelV x v → r x H Q →
    wpAny (model X.prog X.w) X.A (f v) (EP X pins σ Q) X.xe s
def CallR (X : Cx) (f : Value) (r : List V → Hp → VK → Prop) : Prop :=
  ∀ (pins : List (Addr × Obj)) (s : Shared) (σ : St) (H : Hp) (xs : List V) (us : List Value) (Q : VK), Inv X pins σ H s → Vals xs us → r xs H Q →
    wpAny (model X.prog X.w) X.A (call f us) (EP X pins σ Q) X.xe s
def tOp (r : R2) (ta tb : TE) : TE := fun σ H Q => ta σ H fun x H1 => tb σ H1 fun y H2 => r x y H2 Q
def tUn (r : V → Hp → VK → Prop) (ta : TE) : TE := fun σ H Q => ta σ H fun x H1 => r x H1 Q
def rI (C : Int → Int → Prop) (g : Int → Int → V) : R2 := fun x y H Q => ∃ i j, x = .int i ∧ y = .int j ∧ C i j ∧ Q (g i j) H
def rI0 (g : Int → Int → V) : R2 := fun x y H Q => ∃ i j, x = .int i ∧ y = .int j ∧ Q (g i j) H
def rU (g : Int → V) : V → Hp → VK → Prop := fun x H Q => ∃ i, x = .int i ∧ Q (g i) H
section
variable {X : Cx} {a b c : Expr} {ta tb tc : TE} {pos : Pos}
theorem binT (ha : PE X a ta) (hb : PE X b tb) {pins : List (Addr × Obj)} {s : Shared} {σ : St} {H : Hp} {R : V → V → Hp → Prop} (I : Inv X pins σ H s)
    (h : ta σ H fun x H1 => tb σ H1 fun y H2 => R x y H2) {Q : Value → Shared → Prop} {f : Value → Value → Sem Value}
    (hf : ∀ v u s2 x y H2, Inv X pins σ H2 s2 → RelV x v → RelV y u → R x y H2 → wpAny (model X.prog X.w) X.A (f v u) Q X.xe s2) :
    wpAny (model X.prog X.w) X.A (eval a X.env) (fun v s₁ => wpAny (model X.prog X.w) X.A (eval b X.env) (fun u s₂ => wpAny (model X.prog X.w) X.A (f v u) Q X.xe s₂) X.xe s₁) X.xe s := by
  refine thn (ha pins s σ H _ I h) fun v s1 ⟨x, H1, I1, r1, q1⟩ => ?_
  refine thn (hb pins s1 σ H1 _ I1 q1) fun u s2 ⟨y, H2, I2, r2, q2⟩ => ?_
  exact hf v u s2 x y H2 I2 r1 r2 q2
theorem pe_op {op : Operator} {r : R2} (ho : OpR X (binaryOp op) r) (ha : PE X a ta) (hb : PE X b tb) : PE X (.BinOp a op b pos) (tOp r ta tb) := by
  intro pins s σ H Q I h
  exact wpAny_BinOp (binT ha hb I h fun v u s2 x y H2 I2 rx ry q => ho pins s2 σ H2 x y v u Q I2 rx ry q)
theorem pe_un {op : UnaryOp} {r : V → Hp → VK → Prop} (ho : UnR X (unaryOp op) r) (ha : PE X a ta) : PE X (.UnaryOp op a pos) (tUn r ta) := by
  intro pins s σ H Q I h
  exact UnaryOp_ (thn (ha pins s σ H _ I h) fun v s1 ⟨x, H1, I1, r1, q1⟩ => ho pins s1 σ H1 x v Q I1 r1 q1)
theorem opI {f : Value → Value → Sem Value} {C : Int → Int → Prop} {g : Int → Int → Int}
    (rule : ∀ (i j : Int) (t u : Tok) (s : Shared) (Q : Value → Shared → Prop) (E : Value → Shared → Prop), C i j → Q (.int (g i j) s.toks) { s with toks := s.toks + 1 } → wpAny (model X.prog X.w) X.A (f (.int i t) (.int j u)) Q E s) :
    OpR X f (rI C fun i j => .int (g i j)) := by
  intro pins s σ H x y v u Q I rx ry h
  obtain ⟨i, j, rfl, rfl, hc, q⟩ := h
  obtain ⟨t, rfl⟩ := rx
  obtain ⟨t', rfl⟩ := ry
  exact rule i j t t' s _ _ hc ⟨.int (g i j), H, I.tok _, ⟨_, rfl⟩, q⟩
theorem opI0 {f : Value → Value → Sem Value} {g : Int → Int → Int}
    (rule : ∀ (i j : Int) (t u : Tok) (s : Shared) (Q : Value → Shared → Prop) (E : Value → Shared → Prop), Q (.int (g i j) s.toks) { s with toks := s.toks + 1 } → wpAny (model X.prog X.w) X.A (f (.int i t) (.int j u)) Q E s) :
    OpR X f (rI0 fun i j => .int (g i j)) := by
  intro pins s σ H x y v u Q I rx ry h
  obtain ⟨i, j, rfl, rfl, q⟩ := h
  obtain ⟨t, rfl⟩ := rx
  obtain ⟨t', rfl⟩ := ry
  exact rule i j t t' s _ _ ⟨.int (g i j), H, I.tok _, ⟨_, rfl⟩, q⟩
theorem opB0 {f : Value → Value → Sem Value} {g : Int → Int → Bool}
    (rule : ∀ (i j : Int) (t u : Tok) (s : Shared) (Q : Value → Shared → Prop) (E : Value → Shared → Prop), Q (.bool (g i j)) s → wpAny (model X.prog X.w) X.A (f (.int i t) (.int j u)) Q E s) :
    OpR X f (rI0 fun i j => .bl (g i j)) := by
  intro pins s σ H x y v u Q I rx ry h
  obtain ⟨i, j, rfl, rfl, q⟩ := h
  obtain ⟨t, rfl⟩ := rx
  obtain ⟨t', rfl⟩ := ry
  exact rule i j t t' s _ _ ⟨.bl (g i j), H, I, rfl, q⟩
def CDiv (i j : Int) : Prop := 0 < j ∧ j < 1073741824
def CPow (i j : Int) : Prop := 0 ≤ j ∧ j ≤ 1000000 ∧ i.natAbs < 2 ^ 64
def CMul (i j : Int) : Prop := (-(2 ^ 64) < i ∧ i < 2 ^ 64) ∨ (-(2 ^ 64) < j ∧ j < 2 ^ 64)
theorem CMul.ok {i j : Int} (h : CMul i j) : IntMulOk i j := by
  rcases h with ⟨h1, h2⟩ | ⟨h1, h2⟩
  · exact .of_left (intBits_le_64 h1 h2)
  · exact .of_right (intBits_le_64 h1 h2)
theorem op_add : OpR X (binaryOp .Add) (rI0 fun i j => .int (i + j)) := opI0 fun _ _ _ _ _ _ _ q => add_int q
theorem op_sub : OpR X (binaryOp .Sub) (rI0 fun i j => .int (i - j)) := opI0 fun _ _ _ _ _ _ _ q => sub_int q
theorem op_mul : OpR X (binaryOp .Mult) (rI CMul fun i j => .int (i * j)) := opI fun _ _ _ _ _ _ _ hc q => mul_int q hc.ok
theorem op_fdiv : OpR X (binaryOp .FloorDiv) (rI CDiv fun i j => .int (i / j)) := opI fun i j _ _ _ _ _ hc q => by
  have h1 : (0 : Int) < j := hc.1
  have h2 : j < 1073741824 := hc.2
  exact floordiv_int (by omega) (by rw [Int.fdiv_eq_ediv_of_nonneg i (by omega)]; exact q) (.inl (PyProof.noPylong_small (by omega)))
theorem op_mod : OpR X (binaryOp .Mod) (rI (fun _ j => 0 < j) fun i j => .int (i % j)) := opI fun i j _ _ _ _ _ hc q => by
  have h1 : (0 : Int) < j := hc
  exact mod_int' (by omega) (by rw [Int.fmod_eq_emod_of_nonneg i (by omega)]; exact q)
theorem op_pow : OpR X (binaryOp .Pow) (rI CPow fun i j => .int (i ^ j.toNat)) := opI fun _ _ _ _ _ _ _ hc q => pow_int_small hc.1 hc.2.1 hc.2.2 q
theorem unI {f : Value → Sem Value} {g : Int → Int}
    (rule : ∀ (i : Int) (t : Tok) (s : Shared) (Q : Value → Shared → Prop) (E : Value → Shared → Prop), Q (.int (g i) s.toks) { s with toks := s.toks + 1 } → wpAny (model X.prog X.w) X.A (f (.int i t)) Q E s) :
    UnR X f (rU fun i => .int (g i)) := by
  intro pins s σ H x v Q I rx h
  obtain ⟨i, rfl, q⟩ := h
  obtain ⟨t, rfl⟩ := rx
  exact rule i t s _ _ ⟨.int (g i), H, I.tok _, ⟨_, rfl⟩, q⟩
theorem un_neg : UnR X (unaryOp .USub) (rU fun i => .int (-i)) := unI fun _ _ _ _ _ q => neg_int q
end
def scal : V → V → Bool
  | .non, .non => true | .non, .int _ => true | .int _, .non => true | .non, .bl _ => true | .bl _, .non => true | .non, .str _ => true | .str _, .non => true
  | .int _, .int _ => true | .bl _, .bl _ => true | .str _, .str _ => true | .byt _, .byt _ => true
  | .int _, .str _ => true | .str _, .int _ => true | .bl _, .str _ => true | .str _, .bl _ => true
  | _, _ => false
def rEq : R2 := fun x y H Q => scal x y = true ∧ Q (.bl (decide (x = y))) H
def rNe : R2 := fun x y H Q => scal x y = true ∧ Q (.bl (!decide (x = y))) H
theorem dec_int {i j : Int} : decide (V.int i = V.int j) = (i == j) := by
  rw [Bool.eq_iff_iff]
  simp
theorem dec_bl {i j : Bool} : decide (V.bl i = V.bl j) = (i == j) := by
  rw [Bool.eq_iff_iff]
  simp
theorem dec_str {i j : Str} : decide (V.str i = V.str j) = (i == j) := by
  rw [Bool.eq_iff_iff]
  simp
theorem dec_byt {i j : Array UInt8} : decide (V.byt i = V.byt j) = (i.toList == j.toList) := by
  rw [Bool.eq_iff_iff]
  cases i
  cases j
  simp
section
variable {X : Cx} {a b c : Expr} {ta tb tc : TE} {pos : Pos}
theorem fin_bl {pins : List (Addr × Obj)} {σ : St} {H : Hp} {s : Shared} {Q : VK} {k k' : Bool} (I : Inv X pins σ H s) (q : Q (.bl k) H) (e : k = k') : EP X pins σ Q (.bool k') s := by
  subst e
  exact ⟨.bl k, H, I, rfl, q⟩
theorem op_eq : OpR X (compareOp .Eq) rEq := by
  intro pins s σ H x y v u Q I rx ry h
  obtain ⟨hs, q⟩ := h
  cases x with
  | non =>
    cases rx
    cases y with
    | non => cases ry; exact PySem.EqNone.eq_none_none (fin_bl I q (by simp))
    | bl j => cases ry; exact PySem.EqNone.eq_none_bool (fin_bl I q (by simp))
    | int j => obtain ⟨t', rfl⟩ := ry; exact PySem.EqNone.eq_none_int (fin_bl I q (by simp))
    | str j => obtain ⟨t', rfl⟩ := ry; exact PySem.EqNone.eq_none_str (fin_bl I q (by simp))
    | _ => exact absurd (show false = true from hs) Bool.false_ne_true
  | bl i =>
    cases rx
    cases y with
    | non => cases ry; exact PySem.EqNone.eq_bool_none (fin_bl I q (by simp))
    | bl j => cases ry; exact eq_bool (fin_bl I q dec_bl)
    | str j => obtain ⟨t', rfl⟩ := ry; exact PySem.EqMixed.eq_bool_str (fin_bl I q (by simp))
    | _ => exact absurd (show false = true from hs) Bool.false_ne_true
  | int i =>
    obtain ⟨t, rfl⟩ := rx
    cases y with
    | non => cases ry; exact PySem.EqNone.eq_int_none (fin_bl I q (by simp))
    | int j => obtain ⟨t', rfl⟩ := ry; exact eq_int (fin_bl I q dec_int)
    | str j => obtain ⟨t', rfl⟩ := ry; exact PySem.EqMixed.eq_int_str (fin_bl I q (by simp))
    | _ => exact absurd (show false = true from hs) Bool.false_ne_true
  | str i =>
    obtain ⟨t, rfl⟩ := rx
    cases y with
    | non => cases ry; exact PySem.EqNone.eq_str_none (fin_bl I q (by simp))
    | bl j => cases ry; exact PySem.EqMixed.eq_str_bool (fin_bl I q (by simp))
    | int j => obtain ⟨t', rfl⟩ := ry; exact PySem.EqMixed.eq_str_int (fin_bl I q (by simp))
    | str j => obtain ⟨t', rfl⟩ := ry; exact eq_str (fin_bl I q dec_str)
    | _ => exact absurd (show false = true from hs) Bool.false_ne_true
  | byt i =>
    obtain ⟨t, rfl⟩ := rx
    cases y with
    | byt j => obtain ⟨t', rfl⟩ := ry; exact PySem.W.eq_bytes (fin_bl I q dec_byt)
    | _ => exact absurd (show false = true from hs) Bool.false_ne_true
  | _ => cases y <;> exact absurd (show false = true from hs) Bool.false_ne_true
theorem op_ne : OpR X (compareOp .NotEq) rNe := by
  intro pins s σ H x y v u Q I rx ry h
  obtain ⟨hs, q⟩ := h
  cases x with
  | non =>
    cases rx
    cases y with
    | non => cases ry; exact PySem.EqNone.ne_none_none (fin_bl I q (by simp))
    | bl j => cases ry; exact PySem.EqNone.ne_none_bool (fin_bl I q (by simp))
    | int j => obtain ⟨t', rfl⟩ := ry; exact PySem.EqNone.ne_none_int (fin_bl I q (by simp))
    | str j => obtain ⟨t', rfl⟩ := ry; exact PySem.EqNone.ne_none_str (fin_bl I q (by simp))
    | _ => exact absurd (show false = true from hs) Bool.false_ne_true
  | bl i =>
    cases rx
    cases y with
    | non => cases ry; exact PySem.EqNone.ne_bool_none (fin_bl I q (by simp))
    | bl j => cases ry; exact ne_bool (fin_bl I q (congrArg not dec_bl))
    | str j => obtain ⟨t', rfl⟩ := ry; exact PySem.EqMixed.ne_bool_str (fin_bl I q (by simp))
    | _ => exact absurd (show false = true from hs) Bool.false_ne_true
  | int i =>
    obtain ⟨t, rfl⟩ := rx
    cases y with
    | non => cases ry; exact PySem.EqNone.ne_int_none (fin_bl I q (by simp))
    | int j => obtain ⟨t', rfl⟩ := ry; exact ne_int (fin_bl I q (congrArg not dec_int))
    | str j => obtain ⟨t', rfl⟩ := ry; exact PySem.EqMixed.ne_int_str (fin_bl I q (by simp))
    | _ => exact absurd (show false = true from hs) Bool.false_ne_true
  | str i =>
    obtain ⟨t, rfl⟩ := rx
    cases y with
    | non => cases ry; exact PySem.EqNone.ne_str_none (fin_bl I q (by simp))
    | bl j => cases ry; exact PySem.EqMixed.ne_str_bool (fin_bl I q (by simp))
    | int j => obtain ⟨t', rfl⟩ := ry; exact PySem.EqMixed.ne_str_int (fin_bl I q (by simp))
    | str j => obtain ⟨t', rfl⟩ := ry; exact ne_str (fin_bl I q (congrArg not dec_str))
    | _ => exact absurd (show false = true from hs) Bool.false_ne_true
  | byt i =>
    obtain ⟨t, rfl⟩ := rx
    cases y with
    | byt j => obtain ⟨t', rfl⟩ := ry; exact PySem.W.ne_bytes (fin_bl I q (congrArg not dec_byt))
    | _ => exact absurd (show false = true from hs) Bool.false_ne_true
  | _ => cases y <;> exact absurd (show false = true from hs) Bool.false_ne_true
theorem op_lt : OpR X (compareOp .Lt) (rI0 fun i j => .bl (decide (i < j))) := opB0 fun _ _ _ _ _ _ _ q => lt_int q
theorem op_le : OpR X (compareOp .LtE) (rI0 fun i j => .bl (decide (i ≤ j))) := opB0 fun _ _ _ _ _ _ _ q => le_int q
theorem op_gt : OpR X (compareOp .Gt) (rI0 fun i j => .bl (decide (j < i))) := opB0 fun _ _ _ _ _ _ _ q => gt_int q
theorem op_ge : OpR X (compareOp .GtE) (rI0 fun i j => .bl (decide (j ≤ i))) := opB0 fun _ _ _ _ _ _ _ q => ge_int q
theorem nomark (b : Expr) {op : CmpOp} (h : op ≠ .In := by decide) (h2 : op ≠ .NotIn := by decide) : behindInMarks op b = false := by
  have e1 : (op == CmpOp.In) = false := by cases op <;> first | rfl | exact absurd rfl h
  have e2 : (op == CmpOp.NotIn) = false := by cases op <;> first | rfl | exact absurd rfl h2
  cases b <;> simp [behindInMarks, e1, e2]
theorem pe_cmpR {op : CmpOp} {r : R2} (ho : OpR X (compareOp op) r) (ha : PE X a ta) (hb : PE X b tb) (hm : behindInMarks op b = false) : PE X (.Compare a [op] [b] pos) (tOp r ta tb) := by
  intro pins s σ H Q I h
  exact wpAny_Compare1 (binT ha hb I h fun v u s2 x y H2 I2 rx ry q => ho pins s2 σ H2 x y v u Q I2 rx ry q) hm
def tTest (t : TE) : TT := fun σ H Q => t σ H fun x H' => ∃ k, x = .bl k ∧ Q k H'
theorem pt_cmpR {op : CmpOp} {r : R2} (ho : OpR X (compareOp op) r) (ha : PE X a ta) (hb : PE X b tb) (hm : behindInMarks op b = false) : PT X (.Compare a [op] [b] pos) (tTest (tOp r ta tb)) := by
  intro pins s σ H Q I h
  refine wpAny_isTrue_Compare1 (thn (ha pins s σ H _ I h) fun v s1 ⟨x, H1, I1, r1, q1⟩ => thn (hb pins s1 σ H1 _ I1 q1) fun u s2 ⟨y, H2, I2, r2, q2⟩ =>
    thn (ho pins s2 σ H2 x y v u _ I2 r1 r2 q2) fun c s3 ⟨z, H3, I3, r3, k, e, q3⟩ => ?_) hm
  subst e
  cases r3
  exact wpAny_truthy_bool ⟨H3, I3, q3⟩
def tChain (r r' : R2) (ta tb tc : TE) : TE := fun σ H Q => ta σ H fun x H1 => tb σ H1 fun y H2 => r x y H2 fun z H3 => ∃ k, z = .bl k ∧
  (if k = true then tc σ H3 fun w' H4 => r' y w' H4 Q else Q (.bl false) H3)
theorem pt_chain {op op' : CmpOp} {r r' : R2} (ho : OpR X (compareOp op) r) (ho' : OpR X (compareOp op') r') (ha : PE X a ta) (hb : PE X b tb) (hc : PE X c tc)
    (hm : lastMarks [op, op'] [b, c] = false := by with_unfolding_all rfl) : PT X (.Compare a [op, op'] [b, c] pos) (tTest (tChain r r' ta tb tc)) := by
  intro pins s σ H Q I h
  refine isTrue_chain (thn (ha pins s σ H _ I h) fun v s1 ⟨x, H1, I1, r1, q1⟩ => test_link (thn (hb pins s1 σ H1 _ I1 q1) fun u s2 ⟨y, H2, I2, r2, q2⟩ =>
    thn (ho pins s2 σ H2 x y v u _ I2 r1 r2 q2) fun d s3 ⟨z, H3, I3, r3, k, e, q3⟩ => ?_)) hm
  subst e
  cases r3
  refine wpAny_truthy_bool ?_
  cases k with
  | false =>
    obtain ⟨k', e', q'⟩ := q3
    cases e'
    exact ite_ff ⟨H3, I3, q'⟩
  | true =>
    refine ite_tt (test_last (thn (hc pins s3 σ H3 _ I3 q3) fun w' s4 ⟨z', H4, I4, r4, q4⟩ => thn (ho' pins s4 σ H4 y z' u w' _ I4 r2 r4 q4) fun d' s5 ⟨z2, H5, I5, r5, k2, e2, q5⟩ => ?_))
    subst e2
    cases r5
    exact wpAny_truthy_bool ⟨H5, I5, q5⟩
theorem line63 : (sizeLine : Nat) < 2 ^ 63 := by rw [sizeLine_eq]; decide
theorem cat_post {s : Shared} {x y : Str} {t u : NZ} {Q : Value → Shared → Prop} (hn : 1 ≤ s.toks) (hz : x.length + y.length ≤ sizeLine) (h : ∀ (t' : NZ) (tk : Nat), 1 ≤ tk → Q (.str (x ++ y) t'.1) { s with toks := tk }) :
    (if x.length == 0 then Made.val (.str y u.1) else if y.length == 0 then Made.val (.str x t.1) else Made.str (x ++ y)).post Q s := by
  cases hx : x.length == 0
  · cases hy : y.length == 0
    · exact ⟨by rw [strLen_append]; exact hz, h ⟨s.toks, Nat.ne_of_gt hn⟩ _ (Nat.le_add_left _ _)⟩
    · have h0 : y.cps = #[] := Array.eq_empty_of_size_eq_zero (by simpa [Str.length] using hy)
      have e : x ++ y = x := by show Str.append x y = x; cases x; simp [Str.append, h0]
      have q := h t s.toks hn
      rw [e] at q
      exact q
  · have h0 : x.cps = #[] := Array.eq_empty_of_size_eq_zero (by simpa [Str.length] using hx)
    have e : x ++ y = y := by show Str.append x y = y; cases y; simp [Str.append, h0]
    have q := h u s.toks hn
    rw [e] at q
    exact q
theorem add_nz {prog : Program} {w : World} {A : Around} {E : Value → Shared → Prop} {s : Shared} {x y : Str} {t u : NZ} {Q : Value → Shared → Prop} (hn : 1 ≤ s.toks) (hz : x.length + y.length ≤ sizeLine) (h : ∀ (t' : NZ) (tk : Nat), 1 ≤ tk → Q (.str (x ++ y) t'.1) { s with toks := tk }) :
    wpAny (model prog w) A (binaryOp .Add (.str x t.1) (.str y u.1)) Q E s := PySem.P.add_str (cat_post hn hz h)
theorem op_add_str : OpR X (binaryOp .Add) (fun x y H Q => ∃ i j, x = .str i ∧ y = .str j ∧ i.length + j.length ≤ sizeLine ∧ Q (.str (i ++ j)) H) := by
  intro pins s σ H x y v u Q I rx ry h
  obtain ⟨i, j, rfl, rfl, hz, q⟩ := h
  obtain ⟨t, rfl⟩ := rx
  obtain ⟨t', rfl⟩ := ry
  exact add_nz I.tk hz fun t' tk htk => ⟨.str (i ++ j), H, I.tok _, ⟨_, rfl⟩, q⟩
def PlainIxT (b : Expr) : Prop := ∀ o i, subscripted b false o i = operate [o, i] (getItem o i)
theorem pe_item_str (ha : PE X a ta) (hb : PE X b tb) (hs : PlainIxT b) :
    PE X (.Subscript a b pos) (tOp (fun x y H Q => ∃ z i c, x = .str z ∧ y = .int i ∧ 0 ≤ i ∧ i < 2 ^ 63 ∧ i < z.length ∧ z.cps[i.toNat]? = some c ∧ Q (.str ⟨#[c]⟩) H) ta tb) := by
  intro pins s σ H Q I h
  refine Subscript_ (binT ha hb I h fun v u s2 x y H2 I2 rx ry q => ?_)
  obtain ⟨z, i, c, rfl, rfl, h0, h63, h1, hc, q⟩ := q
  obtain ⟨t, rfl⟩ := rx
  obtain ⟨t', rfl⟩ := ry
  have e : seqIndex? i z.length = some i.toNat := PySem.StrLaws.seqIndex_nonneg h0 h1
  exact tail_any (typeIs_str s2 z t) slot_str_getitem.lookup (getItem_str (c := c) (by
    have e1 : decide (i < -(2 ^ 63 : Int)) = false := decide_eq_false (by omega)
    have e2 : decide (i ≥ 2 ^ 63) = false := decide_eq_false (by omega)
    rw [e1, e2] <;> rfl) (by rw [e]; exact hc) ⟨.str ⟨#[c]⟩, H2, I2.tok _, ⟨⟨_, Nat.ne_of_gt I2.tk⟩, rfl⟩, q⟩) (hs _ _)
theorem vals1 {x : V} {us : List Value} (r : Vals [x] us) : ∃ u, us = [u] ∧ RelV x u := by
  cases r with
  | cons r1 r2 => cases r2; exact ⟨_, rfl, r1⟩
theorem vals2 {x y : V} {us : List Value} (r : Vals [x, y] us) : ∃ u w', us = [u, w'] ∧ RelV x u ∧ RelV y w' := by
  cases r with
  | cons r1 r2 =>
    cases r2 with
    | cons r3 r4 => cases r4; exact ⟨_, _, rfl, r1, r3⟩
theorem call_abs : CallR X (.builtin "abs") (fun xs H Q => ∃ i, xs = [.int i] ∧ Q (.int (if i < 0 then -i else i)) H) := by
  intro pins s σ H xs us Q I r h
  obtain ⟨i, rfl, q⟩ := h
  obtain ⟨u, rfl, t, rfl⟩ := vals1 r
  exact wpAny_with_toks I.tk (call_abs_int fun u tk htk => ⟨.int (if i < 0 then -i else i), H, I.tok _, ⟨_, rfl⟩, q⟩)
theorem call_int1 : CallR X (.type "int") (fun xs H Q => (∃ i, xs = [.int i] ∧ Q (.int i) H) ∨ ∃ k, xs = [.bl k] ∧ Q (.int (if k then 1 else 0)) H) := by
  intro pins s σ H xs us Q I r h
  rcases h with ⟨i, rfl, q⟩ | ⟨k, rfl, q⟩
  · obtain ⟨u, rfl, t, rfl⟩ := vals1 r
    exact call_int_int ⟨.int i, H, I, ⟨_, rfl⟩, q⟩
  · obtain ⟨u, rfl, r1⟩ := vals1 r
    cases r1
    exact call_int_bool ⟨.int (if k then 1 else 0), H, I.tok _, ⟨_, rfl⟩, q⟩
theorem call_str_int : CallR X (.type "str") (fun xs H Q => ∃ i, xs = [.int i] ∧ i.natAbs.log2 < 1920 ∧ Q (.str (toString i)) H) := by
  intro pins s σ H xs us Q I r h
  obtain ⟨i, rfl, hz, q⟩ := h
  obtain ⟨u, rfl, t, rfl⟩ := vals1 r
  exact PySem.P.str_of_int hz ⟨.str _, H, I.tok _, ⟨⟨_, Nat.ne_of_gt I.tk⟩, rfl⟩, q⟩
end
end L2
namespace L2
open PySem PySem.Spec PyProof.Rows
structure ObjM (h : Heap) (x dx C : Addr) (mA : Str → Option Value) : Prop where
  obj : h.get? x = some (PySem.W.instObj C dx)
  ns : h.Ns1 dx mA
  ne : dx ≠ x
theorem lookIn_ns {h : Heap} {dx : Addr} {mA : Str → Option Value} (n : h.Ns1 dx mA) : ∃ od, h.get? dx = some od ∧ ∀ name, PySem.W.lookIn name od = some (mA name) := by
  obtain ⟨o, es, ep, ho, hd, hk, _, hm⟩ := n
  refine ⟨o, ho, fun name => ?_⟩
  have e := hm name
  unfold nsFind findBy at e
  rw [← Array.find?_toList] at e
  unfold PySem.W.lookIn
  rw [hd]
  dsimp only
  split
  · rename_i y q
    rw [q] at e
    exact congrArg some e
  · rename_i q
    rw [q] at e
    have a : es.toList.any (·.refKey) = false := by
      rw [List.any_eq_false]
      intro y hy
      obtain ⟨z, t, hkey⟩ := hk y (Array.mem_toList_iff.mp hy)
      simp [DictEntry.refKey, hkey]
    have a' : ¬ es.toList.any (·.refKey) = true := by rw [a]; exact Bool.false_ne_true
    rw [if_neg a']
    exact congrArg some e
theorem ObjM.look {h : Heap} {x dx C : Addr} {mA : Str → Option Value} (I : ObjM h x dx C mA) : ∃ od, PySem.W.InstAt h x (PySem.W.instObj C dx) C (some od) ∧ ∀ name, PySem.W.lookIn name od = some (mA name) :=
  let ⟨od, ho, hl⟩ := lookIn_ns I.ns
  ⟨od, ⟨I.obj, rfl, rfl, ho⟩, hl⟩
section
variable {prog : Program} {w : World} {A : Around} {E : Value → Shared → Prop} {s : Shared} {K : PySem.W.Frag} {x dx C f : Addr} {mA : Str → Option Value} {name : Str} {v : Value}
theorem get_map {expr : Bool} {Q : Value → Shared → Prop} (X : K.In s.heap) (I : ObjM s.heap x dx C mA) (hg : PySem.W.plainGet K C name = true) (hh : PySem.W.hasDictIn K C = true)
    (ha : PySem.W.findIn K (.ref C) name = some none) (hv : mA name = some v) (hv' : PySem.W.handedIn v = true) (h : Q v { s with toks := s.toks + 1 }) :
    wpAny (model prog w) A (getAttr (.ref x) name expr) Q E s := by
  obtain ⟨od, J, hl⟩ := I.look
  exact PySem.W.get_value X J (PySem.W.plainGet_of hg).1 (PySem.W.findObj_own hh ha rfl (by rw [hl, hv])) hv' h
theorem get_meth {pl : Sem Bool} {Q : Value × List Value → Shared → Prop} (X : K.In s.heap) (I : ObjM s.heap x dx C mA) (hg : PySem.W.plainGet K C name = true)
    (hf : PySem.W.findIn K (.ref C) name = some (some (.ref f))) (ht : PySem.W.isFn K (.ref f) = true) (hv : mA name = none) (h : Q (.ref f, [.ref x]) s) :
    wpAny (model prog w) A (getMethod (.ref x) name pl) Q E s := by
  obtain ⟨od, J, hl⟩ := I.look
  exact PySem.W.method_fn X J (PySem.W.plainGet_of hg).1 (PySem.W.plainGet_of hg).2 hf (beq_iff_eq.mp ht) (by show (PySem.W.lookIn name od).map (·.isSome) = some false; rw [hl, hv]; rfl) h
theorem set_map {ns : List Str} {Q : Unit → Shared → Prop} (X : K.In s.heap) (I : ObjM s.heap x dx C mA)
    (hs : PySem.W.findIn K (.ref C) "__setattr__" = some (some (.builtin "object.__setattr__"))) (hp : PySem.W.plainOver K C = true) (ht : PySem.W.takerIn K C name = some none) (hh : PySem.W.hasDictIn K C = true)
    (hw : PySem.Within mA ns) (hsz : ns.length ≤ sizeLine)
    (h : ∀ h', ObjM h' x dx C (fun y => if y = name then some v else mA y) → Heap.SameBut dx s.heap h' → Q () { s with heap := h', toks := s.toks + 2 }) :
    wpAny (model prog w) A (setAttr (.ref x) name v) Q E s := by
  obtain ⟨od, J, hl⟩ := I.look
  refine PySem.W.set_plain X J hs (PySem.W.osa_open (s := { s with toks := s.toks + 1 }) (r := none) X J hp ht fun b => ?_)
  obtain ⟨cd, hc, hd'⟩ := PySem.W.any_some hh
  have hx : s.heap.get? x = some ⟨.ref C, some dx, .plain, #[]⟩ := I.obj
  refine wpAny_bind (wpAny_pure (wpAny_bind (wpAny_bind (wpAny_loadPart hx (wpAny_bind (PySem.W.Looks.here (s := { s with toks := s.toks + 1 }) (PySem.W.looks_clsIn X hc) ?_))))))
  rw [hd']
  refine wpAny_pure (a := some dx) (wpAny_bind (wpAny_pure (wpAny_bind ?_)))
  refine wpAny_nsSet1 (s := { s with toks := s.toks + 1 }) I.ns fun h' hn2 hs2 => ?_
  obtain ⟨oD, esD, epD, hoD, hdD, hcD⟩ := hn2.count (PySem.Within.cons name v hw)
  refine wpAny_bind (wpAny_lookBehind hoD (by rw [hdD]; exact pastItsLine_dict (Nat.le_trans hcD (by rw [List.length_cons]; omega))) ?_)
  exact wpAny_pure (h _ ⟨(hs2.2 _ (Ne.symm I.ne)).trans I.obj, hn2, I.ne⟩ hs2)
theorem make_map {R : Result → Shared → Prop} {vs : List Value} {kw : List (Str × Value)} (X : K.In s.heap) (hm : PySem.W.makesIn K C = true)
    (hi : PySem.W.findIn K (.ref C) "__init__" = some (some (.ref f))) (hf : PySem.W.typeIn K (.ref f) = some (.type "function"))
    (h : codeAny (model prog w) (A.under (.builtin "type.__call__" ⟨.ref C :: vs, kw⟩)) (.call (.ref f) ⟨.ref (s.heap.objs.size + 1) :: vs, kw⟩) (PySem.W.InitBack (s.heap.objs.size + 1) R)
      { s with heap := (s.heap.push PySem.W.emptyDict).push (PySem.W.instObj C s.heap.objs.size) }) :
    codeAny (model prog w) A (.call (.ref C) ⟨vs, kw⟩) R s := by
  obtain ⟨hh, g, d, t, os⟩ := s
  exact PySem.W.make_core (PySem.W.makes_of X hm) (PySem.W.looks_findIn X hi) (fun self => PySem.W.bind_fn X self hf) (.inl rfl) h
end
def putF (f : Str) (v : V) : List (Str × V) → List (Str × V)
  | [] => [(f, v)]
  | (g, x) :: r => if g = f then (g, v) :: r else (g, x) :: putF f v r
theorem lookup_putF (f g : Str) (v : V) : ∀ fs : List (Str × V), (putF f v fs).lookup g = if g = f then some v else fs.lookup g
  | [] => by
    show List.lookup g [(f, v)] = _
    by_cases h : g = f
    · have hb : (g == f) = true := beq_iff_eq.mpr h
      simp only [List.lookup, hb, if_pos h]
    · have hb : (g == f) = false := beq_eq_false_iff_ne.mpr h
      simp only [List.lookup, hb, if_neg h]
  | (k, x) :: r => by
    have ih := lookup_putF f g v r
    rw [show putF f v ((k, x) :: r) = (if k = f then (k, v) :: r else (k, x) :: putF f v r) from rfl]
    by_cases hk : k = f
    · rw [if_pos hk]
      by_cases h : g = k
      · have hb : (g == k) = true := beq_iff_eq.mpr h
        simp only [List.lookup, hb, if_pos (h.trans hk)]
      · have hb : (g == k) = false := beq_eq_false_iff_ne.mpr h
        simp only [List.lookup, hb, if_neg (fun e : g = f => h (e.trans hk.symm))]
    · rw [if_neg hk]
      by_cases h : g = k
      · have hb : (g == k) = true := beq_iff_eq.mpr h
        simp only [List.lookup, hb, if_neg (fun e : g = f => hk (h.symm.trans e))]
      · have hb : (g == k) = false := beq_eq_false_iff_ne.mpr h
        simp only [List.lookup, hb]
        exact ih
theorem keys_putF (f : Str) (v : V) : ∀ fs : List (Str × V), f ∈ (putF f v fs).map (·.1) ∧ ∀ g, g ∈ fs.map (·.1) → g ∈ (putF f v fs).map (·.1)
  | [] => ⟨by simp [putF], fun g h => by simp at h⟩
  | (k, x) :: r => by
    obtain ⟨i1, i2⟩ := keys_putF f v r
    rw [show putF f v ((k, x) :: r) = (if k = f then (k, v) :: r else (k, x) :: putF f v r) from rfl]
    by_cases hk : k = f
    · rw [if_pos hk]
      subst hk
      exact ⟨by simp, fun g h => by simpa using h⟩
    · rw [if_neg hk]
      refine ⟨?_, fun g h => ?_⟩
      · rw [List.map_cons]
        exact List.mem_cons_of_mem _ i1
      · rw [List.map_cons] at h ⊢
        rcases List.mem_cons.mp h with e | e
        · exact List.mem_cons.mpr (.inl e)
        · exact List.mem_cons_of_mem _ (i2 g e)
theorem length_putF (f : Str) (v : V) : ∀ fs : List (Str × V), (putF f v fs).length ≤ fs.length + 1
  | [] => by simp [putF]
  | (k, x) :: r => by
    have ih := length_putF f v r
    rw [show putF f v ((k, x) :: r) = (if k = f then (k, v) :: r else (k, x) :: putF f v r) from rfl]
    by_cases hk : k = f
    · rw [if_pos hk, List.length_cons, List.length_cons]; omega
    · rw [if_neg hk, List.length_cons, List.length_cons]; omega
theorem RelO.some_of {v : V} {o : Option Value} (r : RelO (some v) o) : ∃ u, o = some u ∧ RelV v u := by
  cases o with
  | none => exact (show False from r).elim
  | some u => exact ⟨u, rfl, r⟩
theorem RelO.none_of {o : Option Value} (r : RelO none o) : o = none := by
  cases o with
  | none => rfl
  | some u => exact (show False from r).elim
theorem handed_of {v : V} {u : Value} (r : RelV v u) : PySem.W.handedIn u = true := by
  cases v with
  | non => cases (show u = Value.none from r); rfl
  | bl b => cases (show u = Value.bool b from r); rfl
  | int i => obtain ⟨t, e⟩ := (show ∃ t, u = Value.int i t from r); cases e; rfl
  | str x => obtain ⟨t, e⟩ := (show ∃ t : NZ, u = Value.str x t.1 from r); cases e; rfl
  | byt b => obtain ⟨t, e⟩ := (show ∃ t, u = Value.bytes b t from r); cases e; rfl
  | flt b => obtain ⟨t, e⟩ := (show ∃ t, u = Value.float b t from r); cases e; rfl
  | ref a => cases (show u = Value.ref a from r); rfl
  | ty n => cases (show u = Value.type n from r); rfl
section
variable {P : Program} {w : World} {H H' : Hp} {h h' : Heap} {a C dx : Addr} {fs fs' : List (Str × V)}
theorem ins_get (hok : HOk P w H h) (e : H a = some (.ins C dx fs)) : ∃ mA, ObjM h a dx C mA ∧ (∀ f, RelO (fs.lookup f) (mA f)) ∧ PySem.Within mA (fs.map (·.1)) ∧ fs.length ≤ 1000 ∧ H dx = some (.own a) := by
  obtain ⟨d, z, ne, ob, mA, n, r, q⟩ := (show ObjOk P w H h a (.ins C dx fs) from hok a _ e)
  exact ⟨mA, ⟨ob, n, ne⟩, r, q, z, d⟩
end
structure Cls (K : PySem.W.Frag) (C : Addr) : Prop where
  pg : PySem.W.plainGet K C Str.empty = true
  hd : PySem.W.hasDictIn K C = true
  po : PySem.W.plainOver K C = true
  sa : PySem.W.findIn K (.ref C) "__setattr__" = some (some (.builtin "object.__setattr__"))
theorem Cls.get {K : PySem.W.Frag} {C : Addr} (c : Cls K C) (f : Str) : PySem.W.plainGet K C f = true := c.pg
def NoAttr (K : PySem.W.Frag) (C : Addr) (f : Str) : Prop := PySem.W.findIn K (.ref C) f = some none
theorem NoAttr.taker {K : PySem.W.Frag} {C : Addr} {f : Str} (n : NoAttr K C f) : PySem.W.takerIn K C f = some none := by
  unfold PySem.W.takerIn
  rw [show PySem.W.findIn K (.ref C) f = some none from n]
  rfl
structure Meth (K : PySem.W.Frag) (C : Addr) (m : Str) (f : Addr) : Prop where
  at_ : PySem.W.findIn K (.ref C) m = some (some (.ref f))
  fn : PySem.W.isFn K (.ref f) = true
  kp : PySem.W.keepIn K (.ref f) = true
section
variable {X : Cx} {pins : List (Addr × Obj)} {σ : St} {H : Hp} {s : Shared} {a C dx : Addr} {fs : List (Str × V)} {f : Str} {v : V} {A : Around} {E : Value → Shared → Prop}
theorem getattr_ok {b : Bool} {Q : Value → Shared → Prop} (I : Inv X pins σ H s) (e : H a = some (.ins C dx fs)) (c : Cls X.K C) (n : NoAttr X.K C f) (l : fs.lookup f = some v)
    (h : ∀ u s', Inv X pins σ H s' → RelV v u → Q u s') : wpAny (model X.prog X.w) A (getAttr (.ref a) f b) Q E s := by
  obtain ⟨mA, O, r, _, _, _⟩ := ins_get I.hok e
  obtain ⟨u, hu, ru⟩ := RelO.some_of (v := v) (o := mA f) (by rw [← l]; exact r f)
  exact get_map I.kIn O (c.get f) c.hd n hu (handed_of ru) (h u _ (I.tok _) ru)
theorem getmeth_ok {m : Str} {g : Addr} {pl : Sem Bool} {Q : Value × List Value → Shared → Prop} (I : Inv X pins σ H s) (e : H a = some (.ins C dx fs)) (c : Cls X.K C) (k : Meth X.K C m g) (l : fs.lookup m = none)
    (h : Q (.ref g, [.ref a]) s) : wpAny (model X.prog X.w) A (getMethod (.ref a) m pl) Q E s := by
  obtain ⟨mA, O, r, _, _, _⟩ := ins_get I.hok e
  have hn : mA m = none := RelO.none_of (by rw [← l]; exact r m)
  exact get_meth I.kIn O (c.get m) k.at_ k.fn hn h
theorem setattr_ok {y : V} {u : Value} {Q : Unit → Shared → Prop} (I : Inv X pins σ H s) (e : H a = some (.ins C dx fs)) (c : Cls X.K C) (n : NoAttr X.K C f) (hl : fs.length < 1000) (ry : RelV y u)
    (h : ∀ s', Inv X pins σ (upd H a (.ins C dx (putF f y fs))) s' → Q () s') : wpAny (model X.prog X.w) A (setAttr (.ref a) f u) Q E s := by
  obtain ⟨mA, O, r, wi, _, ho⟩ := ins_get I.hok e
  have hz : (fs.map (·.1)).length ≤ sizeLine := by rw [List.length_map, sizeLine_eq]; omega
  refine set_map I.kIn O c.sa c.po n.taker c.hd wi hz fun h' O' sb => h _ ?_
  have hd : ∃ o, h'.get? dx = some o := let ⟨o, _, _, e', _⟩ := O'.ns; ⟨o, e'⟩
  refine I.write (x := a) (e := dx) (by rw [e]; exact True.intro) (.inr ho) (fun b q hb z => (sb.2 b hb).trans z) hd ?_
  refine ⟨by rw [upd_ne O.ne]; exact ho, ?_, O.ne, O'.obj, _, O'.ns, fun g => ?_, fun g hg => ?_⟩
  · have := length_putF f y fs; omega
  · show RelO ((putF f y fs).lookup g) (if g = f then some u else mA g)
    rw [lookup_putF]
    by_cases q : g = f
    · rw [if_pos q, if_pos q]; exact ry
    · rw [if_neg q, if_neg q]; exact r g
  · by_cases q : g = f
    · rw [q]; exact (keys_putF f y fs).1
    · refine (keys_putF f y fs).2 g (wi g fun z => hg ?_)
      show (if g = f then some u else mA g) = none
      rw [if_neg q]; exact z
theorem Inv.made (I : Inv X pins σ H s) : Inv X pins σ (upd (upd H s.heap.objs.size (.own (s.heap.objs.size + 1))) (s.heap.objs.size + 1) (.ins C s.heap.objs.size []))
    { s with heap := (s.heap.push PySem.W.emptyDict).push (PySem.W.instObj C s.heap.objs.size) } := by
  have e1 : (s.heap.push PySem.W.emptyDict).get? s.heap.objs.size = some PySem.W.emptyDict := Heap.get?_push_size s.heap rfl
  have e2 : ((s.heap.push PySem.W.emptyDict).push (PySem.W.instObj C s.heap.objs.size)).get? (s.heap.objs.size + 1) = some (PySem.W.instObj C s.heap.objs.size) := by
    have := Heap.get?_push_size (s.heap.push PySem.W.emptyDict) (o := PySem.W.instObj C s.heap.objs.size) rfl
    rwa [Heap.size_push] at this
  have e3 : (s.heap.push PySem.W.emptyDict).Ns s.heap.objs.size (fun _ => none) := ⟨PySem.W.emptyDict, #[], _, e1, rfl, (fun e he => absurd he (by simp)), fun _ => rfl⟩
  have I1 := I.laid (a := s.heap.objs.size) (o := .own (s.heap.objs.size + 1)) (h' := s.heap.push PySem.W.emptyDict) (t' := s.toks) (fun b u q => Heap.get?_push_of_some _ q) (Nat.le_refl _) ⟨_, e1⟩
  refine I1.laid (a := s.heap.objs.size + 1) (o := .ins C s.heap.objs.size []) (t' := s.toks) (fun b u q => Heap.get?_push_of_some _ q) (Nat.le_of_eq (Heap.size_push _ _)) ?_
  have ne : s.heap.objs.size ≠ s.heap.objs.size + 1 := Nat.ne_of_lt (Nat.lt_succ_self _)
  refine ⟨by rw [upd_ne ne, upd_same], Nat.zero_le _, ne, e2, fun _ => none, (Heap.Ns1.of_empty e3).at fun o q => Heap.get?_push_of_some _ q, fun _ => True.intro, fun y hy => absurd rfl hy⟩
theorem attr_of {prog : Program} {w : World} {env : Env} {e : Expr} {f : Str} {pos : Pos} {s : Shared} {Q : Value → Shared → Prop} (hb : attributeBase e f env (eval e env) = eval e env)
    (h : wpAny (model prog w) A (eval e env) (fun o s₁ => wpAny (model prog w) A (getAttr o f true) Q E s₁) E s) : wpAny (model prog w) A (eval (.Attribute e f pos) env) Q E s :=
  Attribute_any_ h (by rw [arm_eval_Attribute, hb])
end
def tFld (K : PySem.W.Frag) (ta : TE) (f : Str) : TE := fun σ H Q => ta σ H fun x H1 => ∃ a C dx fs v, x = .ref a ∧ H1 a = some (.ins C dx fs) ∧ Cls K C ∧ NoAttr K C f ∧ fs.lookup f = some v ∧ Q v H1
def sFld (K : PySem.W.Frag) (ta tv : TE) (f : Str) : TS := fun D σ H => tv σ H fun y H1 => ta σ H1 fun x H2 => ∃ a C dx fs, x = .ref a ∧ H2 a = some (.ins C dx fs) ∧ Cls K C ∧ NoAttr K C f ∧ fs.length < 1000 ∧
  D.nx σ (upd H2 a (.ins C dx (putF f y fs)))
def InOp (X : Cx) (op : Operator) (rd : V → V → Hp → VK → Prop) : Prop :=
  ∀ (pins : List (Addr × Obj)) (s : Shared) (σ : St) (H : Hp) (x y : V) (u v : Value) (Q : VK), Inv X pins σ H s → RelV x u → RelV y v → rd x y H Q → wpAny (model X.prog X.w) X.A (inplaceOp op u v) (EP X pins σ Q) X.xe s
def sFldAug (K : PySem.W.Frag) (ta tv : TE) (rd : V → V → Hp → VK → Prop) (f : Str) : TS := fun D σ H => ta σ H fun x H1 => ∃ a C dx fs v, x = .ref a ∧ H1 a = some (.ins C dx fs) ∧ Cls K C ∧ NoAttr K C f ∧ fs.lookup f = some v ∧
  tv σ H1 fun y H2 => rd v y H2 fun z H3 => ∃ dx' fs', H3 a = some (.ins C dx' fs') ∧ fs'.length < 1000 ∧ D.nx σ (upd H3 a (.ins C dx' (putF f z fs')))
section
variable {X : Cx} {o e value : Expr} {f : Str} {pos pos' tpos : Pos} {ta tv : TE}
theorem pe_fld (he : PE X e ta) (hb : attributeBase e f X.env (eval e X.env) = eval e X.env) : PE X (.Attribute e f pos) (tFld X.K ta f) := by
  intro pins s σ H Q I h
  refine attr_of hb (thn (he pins s σ H _ I h) fun u s1 ⟨x, H1, I1, rx, a, C, dx, fs, v, ex, ea, c, n, l, q⟩ => ?_)
  subst ex
  obtain rfl : u = Value.ref a := rx
  exact getattr_ok I1 ea c n l fun u' s2 I2 ru => ⟨v, H1, I2, ru, q⟩
theorem ps_fld (ha : PE X o ta) (hv : PE X value tv) (hs : swapsWith value (some (.Attribute o f pos')) pos.line X.env = pure false) : PS X (.Assign [.Attribute o f pos'] value pos) (sFld X.K ta tv f) := by
  intro pins s σ H D I h
  refine plainObj_wpAny_Assign_Attribute (thn (hv pins s σ H _ I h) fun u s1 ⟨y, H1, I1, ry, q⟩ => thn (ha pins s1 σ H1 _ I1 q) fun ov s2 ⟨x, H2, I2, rx, a, C, dx, fs, ex, ea, c, n, l, q2⟩ => ?_) hs
  subst ex
  obtain rfl : ov = Value.ref a := rx
  exact setattr_ok I2 ea c n l ry fun s3 I3 => ⟨σ, _, I3, q2⟩
theorem ps_fldaug {op : Operator} {rd : V → V → Hp → VK → Prop} (ha : PE X o ta) (hv : PE X value tv) (hop : InOp X op rd) : PS X (.AugAssign (.Attribute o f tpos) op value pos) (sFldAug X.K ta tv rd f) := by
  intro pins s σ H D I h
  refine wpAny_AugAssign_AttributeAny (thn (ha pins s σ H _ I h) fun ov s1 ⟨x, H1, I1, rx, a, C, dx, fs, v, ex, ea, c, n, l, q⟩ => ?_)
  subst ex
  obtain rfl : ov = Value.ref a := rx
  refine getattr_ok I1 ea c n l fun u s2 I2 ru => thn (hv pins s2 σ H1 _ I2 q) fun w3 s3 ⟨y, H2, I3, ry, q3⟩ => thn (hop pins s3 σ H2 v y u w3 _ I3 ru ry q3) fun w4 s4 ⟨z, H3, I4, rz, dx', fs', ea', l', q4⟩ => ?_
  exact setattr_ok I4 ea' c n l' rz fun s5 I5 => ⟨σ, _, I5, q4⟩
def rAdd : V → V → Hp → VK → Prop := fun x y H Q => ∃ i j, x = .int i ∧ y = .int j ∧ Q (.int (i + j)) H
theorem in_add : InOp X .Add rAdd := by
  rintro pins s σ H x y u v Q I rx ry ⟨i, j, rfl, rfl, q⟩
  obtain ⟨t, rfl⟩ := (show ∃ t, u = Value.int i t from rx)
  obtain ⟨t', rfl⟩ := (show ∃ t', v = Value.int j t' from ry)
  exact PyProof.Rows.iadd_int ⟨.int (i + j), H, I.tok _, ⟨_, rfl⟩, q⟩
end
section
variable {X : Cx} {pins : List (Addr × Obj)} {σ : St} {H : Hp} {s : Shared} {A : Around} {E : Value → Shared → Prop} {Q : Value → Shared → Prop} {c : Value} {b : Bool}
inductive TyOf (K : PySem.W.Frag) (H : Hp) : V → Value → Prop where
  | non : TyOf K H .non (.type "NoneType")
  | bl (x : Bool) : TyOf K H (.bl x) (.type "bool")
  | int (i : Int) : TyOf K H (.int i) (.type "int")
  | str (x : Str) : TyOf K H (.str x) (.type "str")
  | flt (x : UInt64) : TyOf K H (.flt x) (.type "float")
  | lst {a : Addr} {xs : List V} (e : H a = some (.lst xs)) : TyOf K H (.ref a) (.type "list")
  | frz {a : Addr} {o : Obj} {xs : List V} (e : H a = some (.frz o (.lst xs))) : TyOf K H (.ref a) (.type "list")
  | tup {a : Addr} {xs : List V} (e : H a = some (.tup xs)) : TyOf K H (.ref a) (.type "tuple")
  | dK {a : Addr} {kvs : List (Key × V)} (e : H a = some (.dK kvs)) : TyOf K H (.ref a) (.type "dict")
  | dT {a : Addr} {kvs : List (List Key × V)} (e : H a = some (.dT kvs)) : TyOf K H (.ref a) (.type "dict")
  | ins {a C dx : Addr} {fs : List (Str × V)} (e : H a = some (.ins C dx fs)) (cl : Cls K C) (ha : PySem.W.findIn K (.ref C) "__class__" = some (some (.builtin "object.__class__")))
      (hn : PySem.W.specialIn K (.builtin "object.__class__") "__get__" = some (some (.builtin "getset_descriptor.__get__"))) (htk : PySem.W.takesIn K (.builtin "object.__class__") = some true)
      (hm : PySem.W.mroIn K C (.type "object") = some true) : TyOf K H (.ref a) (.ref C)
theorem isinst_ok {x : V} {u t : Value} (I : Inv X pins σ H s) (rx : RelV x u) (ty : TyOf X.K H x t) (e : PySem.W.kitOne X.K t c = some b) (h : ∀ tk, Q (.bool b) { s with toks := tk }) :
    wpAny (model X.prog X.w) A (call (.builtin "isinstance") [u, c]) Q E s := by
  cases ty with
  | non => cases (show u = Value.none from rx); exact PySem.W.kia_one PySem.W.kitx_none I.kIn True.intro e (fun z => nomatch z) h
  | bl y => cases (show u = Value.bool y from rx); exact PySem.W.kia_one PySem.W.kitx_bool I.kIn True.intro e (fun z => nomatch z) h
  | int i => obtain ⟨t, q⟩ := (show ∃ t, u = Value.int i t from rx); cases q; exact PySem.W.kia_one PySem.W.kitx_int I.kIn True.intro e (fun z => nomatch z) h
  | str y => obtain ⟨t, q⟩ := (show ∃ t : NZ, u = Value.str y t.1 from rx); cases q; exact PySem.W.kia_one PySem.W.kitx_str I.kIn True.intro e (fun z => nomatch z) h
  | flt y => obtain ⟨t, q⟩ := (show ∃ t, u = Value.float y t from rx); cases q; exact PySem.W.kia_one PySem.W.kitx_float I.kIn True.intro e (fun z => nomatch z) h
  | @lst a xs ea =>
    cases (show u = Value.ref a from rx)
    obtain ⟨_, _, n, _, h1⟩ := (show ObjOk X.prog X.w H s.heap a (.lst xs) from I.hok a _ ea)
    exact PySem.W.kia_one PySem.W.kitx_list I.kIn ⟨_, h1, rfl⟩ e (fun z => nomatch z) h
  | @frz a ob xs ea =>
    cases (show u = Value.ref a from rx)
    obtain ⟨_, _, _, n, _, h1⟩ := (show ObjOk X.prog X.w H s.heap a (.frz ob (.lst xs)) from I.hok a _ ea)
    exact PySem.W.kia_one PySem.W.kitx_list I.kIn ⟨_, h1, rfl⟩ e (fun z => nomatch z) h
  | @tup a xs ea =>
    cases (show u = Value.ref a from rx)
    obtain ⟨_, _, _, p⟩ := (show ObjOk X.prog X.w H s.heap a (.tup xs) from I.hok a _ ea)
    obtain ⟨o, h1, h2, _⟩ := p
    exact PySem.W.kia_one PySem.W.kitx_tuple I.kIn ⟨o, h1, h2⟩ e (fun z => nomatch z) h
  | @dK a kvs ea =>
    cases (show u = Value.ref a from rx)
    obtain ⟨_, _, vs, _, p⟩ := (show ObjOk X.prog X.w H s.heap a (.dK kvs) from I.hok a _ ea)
    obtain ⟨o, es, ep, h1, h2, _⟩ := p
    exact PySem.W.kia_one PySem.W.kitx_dict I.kIn ⟨o, h1, h2.1⟩ e (fun z => nomatch z) h
  | @dT a kvs ea =>
    cases (show u = Value.ref a from rx)
    obtain ⟨_, _, xs, _, o, es, ep, h1, h2, _⟩ := (show ObjOk X.prog X.w H s.heap a (.dT kvs) from I.hok a _ ea)
    exact PySem.W.kia_one PySem.W.kitx_dict I.kIn ⟨o, h1, h2.1⟩ e (fun z => nomatch z) h
  | @ins a C dx fs ea cl ha hn htk hm =>
    cases (show u = Value.ref a from rx)
    obtain ⟨mA, O, _⟩ := ins_get I.hok ea
    obtain ⟨od, J, _⟩ := O.look
    exact PySem.W.kia_one (PySem.W.kitx_own (cl.get _) cl.hd ha hn htk hm) I.kIn J e (fun z => nomatch z) h
end
end L2
namespace L2
open PySem PySem.Spec PyProof.Rows
structure Room (k : Nat) (A : Around) : Prop where
  hd : A.handled = none
  dp : A.depth + 3 * k + 5 < recursionLimit
  un : A.units + 16 * k + 200 < cLine
theorem make_depth {A : Around} {C : Addr} {us : List Value} {kw : List (Str × Value)} : (A.under (.builtin "type.__call__" ⟨.ref C :: us, kw⟩)).depth = A.depth + 1 := by
  first | rfl | simp [Around.under, Code.weight, Code.isCreation, Code.isGuard, Code.isCaller, Code.frames, Code.isFrame, guardIds]
theorem make_units {A : Around} {C : Addr} {us : List Value} {kw : List (Str × Value)} : (A.under (.builtin "type.__call__" ⟨.ref C :: us, kw⟩)).units = A.units + 1 := by
  first | rfl | simp [Around.under, Code.cUnits, Code.frames, Code.isFrame]
theorem Room.make {k : Nat} {A : Around} (r : Room (k + 1) A) (C : Addr) (us : List Value) (kw : List (Str × Value)) : Room k (A.under (.builtin "type.__call__" ⟨.ref C :: us, kw⟩)) :=
  ⟨r.hd, by have := r.dp; rw [make_depth]; omega, by have := r.un; rw [make_units]; omega⟩
def tNil : TA := fun _ H Q => Q [] H
def tCons (ta : TE) (tr : TA) : TA := fun σ H Q => ta σ H fun x H1 => tr σ H1 fun xs H2 => Q (x :: xs) H2
section
variable {X : Cx} {e : Expr} {es : List Expr} {te : TE} {t : TA} {pos : Pos}
theorem pa_nil : PA X [] tNil := fun _ _ _ _ H Q I h => Calls.spliced_nil ⟨[], H, I, .nil, h⟩
theorem pa_cons (ha : PE X e te) (hr : PA X es t) (hs : starEach (e :: es) X.env = (false, eval e X.env) :: starEach es X.env := by rfl) : PA X (e :: es) (tCons te t) := by
  intro pos pins s σ H Q I h
  rw [hs]
  show wpAny _ _ (spliced ((false, eval e X.env) :: backTo pos (starEach es X.env))) _ _ s
  refine Calls.spliced_cons (thn (ha pins s σ H _ I h) fun u s1 ⟨x, H1, I1, r1, q1⟩ => ?_)
  exact thn (hr pos pins s1 σ H1 _ I1 q1) fun us s2 ⟨xs, H2, I2, r2, q2⟩ => ⟨x :: xs, H2, I2, .cons r1 r2, q2⟩
def tTup (t : TA) : TE := fun σ H Q => t σ H fun xs H1 => xs.length ≤ sizeLine ∧ ∀ p, H1 p = none → Q (.ref p) (upd H1 p (.tup xs))
def tLst (t : TA) : TE := fun σ H Q => t σ H fun xs H1 => xs.length ≤ sizeLine ∧ ∀ p, H1 p = none → Q (.ref p) (upd H1 p (.lst xs))
theorem pe_tup {x1} (h : PA X es t) : PE X (.Tuple es x1 pos) (tTup t) := by
  intro pins s σ H Q I hq
  refine wpAny_Tuple_spliced (thn (h pos pins s σ H _ I hq) fun us s1 ⟨xs, H1, I1, r, z, q⟩ => ⟨by rw [← r.length]; exact z, ?_⟩)
  have hf : H1 s1.heap.objs.size = none := I1.hok.fresh (Nat.le_refl _)
  refine ⟨.ref s1.heap.objs.size, upd H1 s1.heap.objs.size (.tup xs), I1.laid (t' := s1.toks) (fun b u e => Heap.get?_push_of_some _ e) (Nat.le_refl _) ?_, rfl, q _ hf⟩
  exact ⟨z, us, r, ⟨_, Heap.get?_push_size _ rfl, rfl, _, rfl⟩⟩
theorem pe_lst (h : PA X es t) : PE X (.List es pos) (tLst t) := by
  intro pins s σ H Q I hq
  refine wpAny_List_spliced (thn (h pos pins s σ H _ I hq) fun us s1 ⟨xs, H1, I1, r, z, q⟩ => ⟨by rw [← r.length]; exact z, ?_⟩)
  have hf : H1 s1.heap.objs.size = none := I1.hok.fresh (Nat.le_refl _)
  refine ⟨.ref s1.heap.objs.size, upd H1 s1.heap.objs.size (.lst xs), I1.laid (t' := s1.toks) (fun b u e => Heap.get?_push_of_some _ e) (Nat.le_refl _) ?_, rfl, q _ hf⟩
  exact ⟨z, us, 0, r, Heap.get?_push_size _ rfl⟩
end
abbrev Sp := List V → Hp → VK → XK → Prop
abbrev CXT := List Env → Hp → Shared → XK → Value → Shared → Prop
structure Env0 (P : Program) (w : World) (K : PySem.W.Frag) (mg : Str → Option Value) (base : Heap) (A : Around) (outer : List Env) (s : Shared) (H : Hp) : Prop where
  frames : A.frames = some outer
  mod : Mod K mg base
  bs : ∀ b o, base.get? b = some o → s.heap.get? b = some o ∧ H b = none
  bsz : base.objs.size ≤ s.heap.objs.size
  funs : s.heap.FunFrames base outer
  frf : ∀ b ∈ frs outer, H b = none
  hok : HOk P w H s.heap
  bare : AllBare s.gens
def CE (outer : List Env) (P : Program) (w : World) (H : Hp) (s : Shared) (Q : VK) (u : Value) (s' : Shared) : Prop :=
  ∃ v H', s'.os = s.os ∧ AllBare s'.gens ∧ Un (frs outer) [] H H' s.heap s'.heap ∧ HOk P w H' s'.heap ∧ RelV v u ∧ Q v H'
def CR (CX : CXT) (outer : List Env) (P : Program) (w : World) (H : Hp) (s : Shared) (Q : VK) (E : XK) (r : Result) (s' : Shared) : Prop :=
  match r with
  | .ok (.ret u) => CE outer P w H s Q u s'
  | .ok _ => False
  | .error e => CX outer H s E e s'
structure FnOk (P : Program) (w : World) (K : PySem.W.Frag) (mg : Str → Option Value) (base : Heap) (CX : CXT) (k : Nat) (f : Addr) (fd : FuncData) (ps : List Str) (sp : Sp) : Prop where
  len : ∀ vs H Q E, sp vs H Q E → vs.length = ps.length
  run : ∀ (A : Around) (outer : List Env) (s : Shared) (H : Hp) (args : Args) (us : List Value) (vs : List V) (Q : VK) (E : XK), Room k A → Env0 P w K mg base A outer s H → BindsTo s fd args (ps.zip us) → Vals vs us → sp vs H Q E → (1 ≤ s.toks ∨ ∃ x r, ps = x :: r ∧ fd.scope.names.lookup x = some .local) →
    codeAny (model P w) A (.call (.ref f) args) (CR CX outer P w H s Q E) s
theorem Env0.make {P : Program} {w : World} {K : PySem.W.Frag} {mg : Str → Option Value} {base : Heap} {A : Around} {outer : List Env} {s : Shared} {H : Hp} (e : Env0 P w K mg base A outer s H) (C : Addr) (us : List Value) (kw : List (Str × Value)) :
    Env0 P w K mg base (A.under (.builtin "type.__call__" ⟨.ref C :: us, kw⟩)) outer s H := ⟨by first | exact e.frames | (simpa [Around.under, Code.envs, Code.isFrame, pushEnvs] using e.frames), e.mod, e.bs, e.bsz, e.funs, e.frf, e.hok, e.bare⟩
section
variable {X : Cx} {pins : List (Addr × Obj)} {σ : St} {H : Hp} {s s' : Shared}
theorem Inv.env0 (I : Inv X pins σ H s) : Env0 X.prog X.w X.K X.mg X.base X.A X.stack s H :=
  ⟨I.ok.frames, I.ok.mod, I.bs, Nat.le_trans I.ok.bsz I.sz, I.stack, I.stkFree, I.hok, I.bare⟩
theorem Inv.after {Q : VK} {u : Value} (I : Inv X pins σ H s) (h : CE X.stack X.prog X.w H s Q u s') (ht : 1 ≤ s'.toks := by assumption) : EP X pins σ Q u s' := by
  obtain ⟨v, H', os, bare, un, hok, r, q⟩ := h
  obtain ⟨hh, g, d, t, os'⟩ := s'
  obtain rfl : os' = s.os := os
  exact ⟨v, H', I.call (h' := hh) (g' := g) (d' := d) (t' := t) (ch := []) un hok bare (fun b z => absurd z (by simp)), r, q⟩
end
def tCall (sp : Sp) (dvs : List V) (E : XK) (t : TA) : TE := fun σ H Q => t σ H fun vs H1 => sp (vs ++ dvs) H1 Q E
def tMake (C : Addr) (sp : Sp) (dvs : List V) (E : XK) (t : TA) : TE := fun σ H Q => t σ H fun vs H1 => ∀ x dx, H1 x = none → H1 dx = none → dx ≠ x →
  sp (.ref x :: (vs ++ dvs)) (upd (upd H1 dx (.own x)) x (.ins C dx [])) (fun v H2 => v = .non ∧ Q (.ref x) H2) E
def Binds (K : PySem.W.Frag) (fd : FuncData) (ps : List Str) (ds : List Value) : Prop :=
  ∀ (s : Shared) (us : List Value), K.In s.heap → (us ++ ds).length = ps.length → BindsTo s fd ⟨us, []⟩ (ps.zip (us ++ ds))
theorem Binds.all {K : PySem.W.Frag} {fd : FuncData} {ps : List Str} (h : ∀ us : List Value, us.length = ps.length → bindArgs fd ⟨us, []⟩ = pure (ps.zip us)) : Binds K fd ps [] := fun s us _ hl => by
  rw [List.append_nil] at hl ⊢
  exact .of_eq (h us hl)
def Passes (CX : CXT) (X : Cx) (E : XK) : Prop := ∀ (pins : List (Addr × Obj)) (σ : St) (H : Hp) (s : Shared) (e : Value) (s' : Shared), Inv X pins σ H s → CX X.stack H s E e s' → 1 ≤ s'.toks → X.xe e s'
section
variable {X : Cx} {CX : CXT} {k : Nat} {f C : Addr} {fd : FuncData} {ps : List Str} {sp : Sp} {dvs : List V} {ds : List Value} {E : XK} {x m : Str} {p pos apos : Pos} {e o : Expr} {es : List Expr} {ta : TE} {t : TA}
theorem run_fn {pins : List (Addr × Obj)} {σ : St} {H : Hp} {s : Shared} {Q : VK} {us : List Value} {vs : List V} (F : FnOk X.prog X.w X.K X.mg X.base CX k f fd ps sp) (hr : Room k X.A) (hb : Binds X.K fd ps ds) (hd : Vals dvs ds) (hx : Passes CX X E)
    (I : Inv X pins σ H s) (r : Vals vs us) (h : sp (vs ++ dvs) H Q E) : wpAny (model X.prog X.w) X.A (call (.ref f) us) (EP X pins σ Q) X.xe s := by
  have r2 : Vals (vs ++ dvs) (us ++ ds) := r.append hd
  have hl : (us ++ ds).length = ps.length := by rw [← r2.length]; exact F.len _ _ _ _ h
  refine wpAny_call (codeAny_with_toks I.tk (codeAny_mono (F.run X.A X.stack s H ⟨us, []⟩ (us ++ ds) (vs ++ dvs) Q E hr I.env0 (hb s us I.kIn hl) r2 h (.inl I.tk)) fun r s' hq ht => ?_))
  cases r with
  | error e => exact hx pins σ H s e s' I hq ht
  | ok fl =>
    cases fl with
    | ret u => exact I.after hq
    | next => exact False.elim hq
    | brk => exact False.elim hq
    | cont => exact False.elim hq
structure Mk (K : PySem.W.Frag) (C f : Addr) : Prop where
  makes : PySem.W.makesIn K C = true
  init : PySem.W.findIn K (.ref C) "__init__" = some (some (.ref f))
  fn : PySem.W.isFn K (.ref f) = true
  kp : PySem.W.keepIn K (.ref C) = true
theorem run_make {pins : List (Addr × Obj)} {σ : St} {H : Hp} {s : Shared} {Q : VK} {us : List Value} {vs : List V} (M : Mk X.K C f) (F : FnOk X.prog X.w X.K X.mg X.base CX k f fd ps sp) (hr : Room (k + 1) X.A) (hb : Binds X.K fd ps ds) (hd : Vals dvs ds)
    (hx : Passes CX X E) (I : Inv X pins σ H s) (r : Vals vs us)
    (h : ∀ x dx, H x = none → H dx = none → dx ≠ x → sp (.ref x :: (vs ++ dvs)) (upd (upd H dx (.own x)) x (.ins C dx [])) (fun v H2 => v = .non ∧ Q (.ref x) H2) E) :
    wpAny (model X.prog X.w) X.A (call (.ref C) us) (EP X pins σ Q) X.xe s := by
  have hq := h (s.heap.objs.size + 1) s.heap.objs.size (I.hok.fresh (Nat.le_succ _)) (I.hok.fresh (Nat.le_refl _)) (Nat.ne_of_lt (Nat.lt_succ_self _))
  have I2 := Inv.made (C := C) I
  have r2 : Vals (V.ref (s.heap.objs.size + 1) :: (vs ++ dvs)) (Value.ref (s.heap.objs.size + 1) :: (us ++ ds)) := .cons rfl (r.append hd)
  have hl : (Value.ref (s.heap.objs.size + 1) :: us ++ ds).length = ps.length := by
    have e := r2.length
    rw [F.len _ _ _ _ hq] at e
    exact e.symm
  refine wpAny_call (make_map (f := f) I.kIn M.makes M.init (beq_iff_eq.mp M.fn) (codeAny_with_toks I2.tk (codeAny_mono (F.run _ X.stack _ _ ⟨Value.ref (s.heap.objs.size + 1) :: us, []⟩ (Value.ref (s.heap.objs.size + 1) :: (us ++ ds)) _ _ E (hr.make C us [])
    (I2.env0.make C us []) (hb _ (Value.ref (s.heap.objs.size + 1) :: us) I2.kIn hl) r2 hq (.inl I2.tk)) fun r s' hq' ht => ?_)))
  cases r with
  | error e => exact hx pins σ _ _ e s' I2 hq' ht
  | ok fl =>
    cases fl with
    | ret u =>
      obtain ⟨v, H', I3, rv, ev, q3⟩ := I2.after hq'
      subst ev
      exact ⟨rv, ⟨V.ref (s.heap.objs.size + 1), H', I3, rfl, q3⟩⟩
    | next => exact False.elim hq'
    | brk => exact False.elim hq'
    | cont => exact False.elim hq'
theorem pe_make (M : Mk X.K C f) (F : FnOk X.prog X.w X.K X.mg X.base CX k f fd ps sp) (hr : Room (k + 1) X.A) (hg : Gl X x) (hm : X.mg x = some (.ref C)) (hb : Binds X.K fd ps ds) (hd : Vals dvs ds) (hx : Passes CX X E)
    (ha : PA X (e :: es) t) (hdb : (x == ("__debug__" : Str)) = false := by decide) (he : starEach (e :: es) X.env = (false, eval e X.env) :: starEach es X.env := by rfl) (hpl : (backTo pos (starEach es X.env)).any (·.1) = false := by rfl) :
    PE X (.Call (.Name x p) (e :: es) [] pos) (tMake C sp dvs E t) := by
  intro pins s σ H Q I h
  refine wpAny_Call_Name_kw (ld_glob I hg hm ?_ hdb)
  refine PySem.W.callWith_K (h₀ := X.base) I.ok.mod.kin M.kp (thn (ha pos pins s σ H _ I h) fun us s1 ⟨vs, H1, I1, r, q⟩ => ⟨I1.kIn, ?_⟩) he hpl
  exact run_make M F hr hb hd hx I1 r q
end
structure FnScope (N P : List Str) (sc : Scope) : Prop where
  kind : sc.kind = .function
  co : sc.isCoroutine = false
  gen : sc.isGenerator = false
  nd : N.Nodup
  pre : N.take P.length = P
  par : ∀ x ∈ P, sc.names.lookup x = some .local ∨ sc.names.lookup x = some .cell
  nofree : ∀ y ∈ sc.names, y.2 ≠ .free
theorem bindL_out {kindOf : Str → Option NameKind} {x : Str} : ∀ {binds : List (Str × Value)} {m : Str → Option Value}, (∀ v, (x, v) ∉ binds) → bindL kindOf binds m x = m x
  | [], _, _ => rfl
  | (n, v) :: r, m, h => by
    unfold bindL
    rw [bindL_out fun w hw => h w (List.mem_cons_of_mem _ hw)]
    split
    · have : x ≠ n := by rintro rfl; exact h v List.mem_cons_self
      simp [this]
    · rfl
theorem bindC_out {kindOf : Str → Option NameKind} {x : Str} : ∀ {binds : List (Str × Value)} {m : Str → Option Value}, (∀ v, (x, v) ∉ binds) → bindC kindOf binds m x = m x
  | [], _, _ => rfl
  | (n, v) :: r, m, h => by
    unfold bindC
    rw [bindC_out fun w hw => h w (List.mem_cons_of_mem _ hw)]
    split
    · rfl
    · have : x ≠ n := by rintro rfl; exact h v List.mem_cons_self
      simp [this]
theorem bindL_get {kindOf : Str → Option NameKind} {x : Str} {v : Value} : ∀ {P : List Str} {vs : List Value} {i : Nat} {m : Str → Option Value}, P.Nodup → P[i]? = some x → vs[i]? = some v → kindOf x = some .local →
    bindL kindOf (P.zip vs) m x = some v
  | [], _, _, _, _, h, _, _ => by simp at h
  | _ :: _, [], _, _, _, _, h, _ => by simp at h
  | p :: P, w :: vs, 0, m, nd, h1, h2, hk => by
    simp at h1 h2; subst h1; subst h2
    show bindL kindOf ((p, w) :: P.zip vs) m p = _
    unfold bindL
    rw [bindL_out fun v hv => (List.nodup_cons.mp nd).1 (List.of_mem_zip hv).1, if_pos hk]
    simp
  | p :: P, w :: vs, i + 1, m, nd, h1, h2, hk => by
    show bindL kindOf ((p, w) :: P.zip vs) m x = _
    unfold bindL
    exact bindL_get (i := i) (List.nodup_cons.mp nd).2 (by simpa using h1) (by simpa using h2) hk
theorem bindC_get {kindOf : Str → Option NameKind} {x : Str} {v : Value} : ∀ {P : List Str} {vs : List Value} {i : Nat} {m : Str → Option Value}, P.Nodup → P[i]? = some x → vs[i]? = some v → kindOf x ≠ some .local →
    bindC kindOf (P.zip vs) m x = some v
  | [], _, _, _, _, h, _, _ => by simp at h
  | _ :: _, [], _, _, _, _, h, _ => by simp at h
  | p :: P, w :: vs, 0, m, nd, h1, h2, hk => by
    simp at h1 h2; subst h1; subst h2
    show bindC kindOf ((p, w) :: P.zip vs) m p = _
    unfold bindC
    rw [bindC_out fun v hv => (List.nodup_cons.mp nd).1 (List.of_mem_zip hv).1, if_neg hk]
    simp
  | p :: P, w :: vs, i + 1, m, nd, h1, h2, hk => by
    show bindC kindOf ((p, w) :: P.zip vs) m x = _
    unfold bindC
    exact bindC_get (i := i) (List.nodup_cons.mp nd).2 (by simpa using h1) (by simpa using h2) hk
def start (N : List Str) (vs : List V) : St := vs.map some ++ List.replicate (N.length - vs.length) none
def cxOf (CX : CXT) (P : Program) (w : World) (K : PySem.W.Frag) (mg : Str → Option Value) (base : Heap) (N : List Str) (qual : Str) (scope : Scope) (f : Addr) (cd : Value) (A : Around) (outer : List Env) (s : Shared) (H : Hp) (E : XK) : Cx where
  prog := P
  w := w
  K := K
  mg := mg
  base := base
  A := A.deeper (envOfC qual scope s.heap.objs.size f cd)
  N := N
  s₀ := s
  H₀ := H
  env := envOfC qual scope s.heap.objs.size f cd
  outer := outer
  stack := envOfC qual scope s.heap.objs.size f cd :: outer
  ex := []
  calm := true
  fn := fun _ => true
  pn := []
  xe := fun e s' => wpAny (model P w) (A.deeper (envOfC qual scope s.heap.objs.size f cd)) (leaving (envOfC qual scope s.heap.objs.size f cd) e) (fun _ s'' => CX outer H s E e s'') (fun e' s'' => CX outer H s E e' s'') s'
theorem cell_has {sc : Scope} {n : Nat} {x : Str} (h : sc.names.lookup x = some .cell) : ∃ c, (cellsFrom n sc.names []).lookup x = some c := by
  have q := PySem.W.cellsFrom_some sc.names n [] (.inl h)
  exact Option.isSome_iff_exists.mp q
theorem newEnv_tok {M : Model} {A : Around} {E : Value → Shared → Prop} {s0 : Shared} {sc : Scope} {gl : Addr} {bi : List (Str × Value)} {ql : Str} {fo : Option Addr} {co : Value} {bl : Addr} {Q : Env → Shared → Prop}
    (hk : sc.kind = .function)
    (hkind : ∀ x ∈ bi, sc.names.lookup x.1 = some .local ∨ (sc.names.lookup x.1 = some .cell ∧ ((cellsFrom (s0.heap.objs.size + 1) sc.names []).lookup x.1).isSome = true))
    (ht : 1 ≤ s0.toks ∨ ∃ n v r, bi = (n, v) :: r ∧ sc.names.lookup n = some .local)
    (hQ : ∀ env, env = newEnv sc s0.heap.objs.size gl (cellsFrom (s0.heap.objs.size + 1) sc.names []) ql fo co none bl →
      ∀ s', InCallC s0 env.locals (bindL env.kindOf bi fun _ => none) env.cells (bindC env.kindOf bi fun _ => none) s' → 1 ≤ s'.toks → Q env s') :
    wpAny M A (newFunctionEnv sc gl [] bi ql fo co none bl) Q E s0 := by
  rcases ht with ht | ⟨n, v, r, rfl, hl⟩
  · exact wpAny_with_toks ht (wpAny_newFunctionEnv_cells hk hkind hQ)
  simp only [Option.isSome_none, if_false, newFunctionEnv, Bool.false_eq_true]
  refine wpAny_bind (wpAny_alloc ?_)
  refine wpAny_bind (wpAny_layCells _ (fun a b d => by cases hb : b == NameKind.cell <;> simp [hb]) _ _ _ _ ?_)
  have ok := cellsFrom_ok sc.names (s0.heap.push { cls := .type "frame", data := .dict #[] }) (s0.heap.objs.size + 1) [] ⟨fun _ _ hm => (nomatch hm), List.Pairwise.nil⟩ (by rw [Heap.size_push]; exact Nat.le_refl _)
  rw [Heap.size_push] at ok
  rw [show ({ s0 with heap := s0.heap.push { cls := .type "frame", data := .dict #[] } } : Shared).heap.objs.size = s0.heap.objs.size + 1 from Heap.size_push ..]
  have x : InCallC s0 (newEnv sc s0.heap.objs.size gl (cellsFrom (s0.heap.objs.size + 1) sc.names []) ql fo co none bl).locals (fun _ => none) (newEnv sc s0.heap.objs.size gl (cellsFrom (s0.heap.objs.size + 1) sc.names []) ql fo co none bl).cells (fun _ => none) { s0 with heap := pushCells (s0.heap.push { cls := .type "frame", data := .dict #[] }) sc.names } :=
    ⟨⟨⟨_, _, rfl⟩, (Heap.Ns.new s0.heap (.type "frame")).keeps (pushCells_keeps _ _), fun b o e => pushCells_keeps _ _ b o (Heap.get?_push_of_some _ e), Nat.le_refl _⟩,
      fun n c hc => (ok.empty n c (mem_of_lookup hc)).1, ok.apart, fun n c hm => (ok.empty n c hm).2⟩
  refine wpAny_bind ?_
  rw [List.forIn_cons]
  refine wpAny_bind (wpAny_bind (wpAny_storeName_local (env := newEnv sc s0.heap.objs.size gl (cellsFrom (s0.heap.objs.size + 1) sc.names []) ql fo co none bl) hl x.toInCall.ns (fun h' hn' hs' => ?_) (by show (sc.kind == _ || (sc.kind == _ && _)) = false; rw [hk]; rfl)))
  refine wpAny_pure ?_
  have x2 : InCallC s0 (newEnv sc s0.heap.objs.size gl (cellsFrom (s0.heap.objs.size + 1) sc.names []) ql fo co none bl).locals (fun y => if y = n then some v else none) (newEnv sc s0.heap.objs.size gl (cellsFrom (s0.heap.objs.size + 1) sc.names []) ql fo co none bl).cells (fun _ => none) { s0 with heap := h', toks := s0.toks + 1 } := by
    refine ⟨⟨⟨h', _, rfl⟩, hn', fun b o e => ?_, x.toInCall.fresh⟩, fun k c hc => ?_, x.apart, x.above⟩
    · exact hs'.extBut b o (Nat.ne_of_lt (Nat.lt_of_lt_of_le (Heap.lt_size e) x.toInCall.fresh)) (x.toInCall.keep b o e)
    · exact (x.cell k c hc).sameBut hs' (Nat.ne_of_gt (x.above k c (mem_of_lookup hc)))
  refine wpAny_with_toks (n := 1) (Nat.le_add_left _ _) ?_
  refine wpAny_bindParams (s₀ := s0) (env := newEnv sc s0.heap.objs.size gl (cellsFrom (s0.heap.objs.size + 1) sc.names []) ql fo co none bl)
    _ (fun _ _ _ => rfl) hk r _ _ _ _ x2 (fun y hy => hkind y (List.mem_cons_of_mem _ hy)) fun s' x' ht' => wpAny_pure (hQ _ rfl s' ?_ ht')
  unfold bindL bindC; rw [if_pos (show (newEnv sc s0.heap.objs.size gl (cellsFrom (s0.heap.objs.size + 1) sc.names []) ql fo co none bl).kindOf n = some .local from hl), if_pos (show (newEnv sc s0.heap.objs.size gl (cellsFrom (s0.heap.objs.size + 1) sc.names []) ql fo co none bl).kindOf n = some .local from hl)]; exact x'
theorem first_of {s : Shared} {ps : List Str} {us : List Value} {vs : List V} {sc : Scope} (hl : vs.length = ps.length) (r : Vals vs us) (h : 1 ≤ s.toks ∨ ∃ x r, ps = x :: r ∧ sc.names.lookup x = some .local) : 1 ≤ s.toks ∨ ∃ n v r, ps.zip us = (n, v) :: r ∧ sc.names.lookup n = some .local := by
  rcases h with h | ⟨x, ps', rfl, h⟩
  · exact .inl h
  · cases r with
    | nil => cases hl
    | cons a b => exact .inr ⟨x, _, _, rfl, h⟩
end L2
namespace L2
open PySem PySem.Spec PyProof.Rows
section
variable {X : Cx} {x : Str} {p pos : Pos} {e : Expr} {es : List Expr} {t : TA} {id T : String} {r : List V → Hp → VK → Prop}
def tCB (r : List V → Hp → VK → Prop) (t : TA) : TE := fun σ H Q => t σ H fun vs H1 => r vs H1 Q
theorem pe_callB (hc : CallR X (.builtin id) r) (hg : Gl X x) (hm : X.mg x = none) (hv : bootBuiltins x = some (.builtin id)) (ha : PA X (e :: es) t) (hn : x ≠ "__name__" := by decide) (hdb : (x == ("__debug__" : Str)) = false := by decide)
    (he : starEach (e :: es) X.env = (false, eval e X.env) :: starEach es X.env := by rfl) (hpl : (backTo pos (starEach es X.env)).any (·.1) = false := by rfl) : PE X (.Call (.Name x p) (e :: es) [] pos) (tCB r t) := by
  intro pins s σ H Q I h
  refine wpAny_Call_Name_kw (ld_blt I hg hm hv ?_ hn hdb)
  exact PyProof.Rows.callWith_builtin1 (thn (ha pos pins s σ H _ I h) fun us s1 ⟨vs, H1, I1, r1, q1⟩ => hc pins s1 σ H1 vs us Q I1 r1 q1) he hpl
theorem pe_callTy (hc : CallR X (.type T) r) (hg : Gl X x) (hm : X.mg x = none) (hv : bootBuiltins x = some (.type T)) (ha : PA X (e :: es) t) (hn : x ≠ "__name__" := by decide) (hdb : (x == ("__debug__" : Str)) = false := by decide)
    (he : starEach (e :: es) X.env = (false, eval e X.env) :: starEach es X.env := by rfl) (hpl : (backTo pos (starEach es X.env)).any (·.1) = false := by rfl) : PE X (.Call (.Name x p) (e :: es) [] pos) (tCB r t) := by
  intro pins s σ H Q I h
  refine wpAny_Call_Name_kw (ld_blt I hg hm hv ?_ hn hdb)
  exact PyProof.Rows.callWith_type1 (thn (ha pos pins s σ H _ I h) fun us s1 ⟨vs, H1, I1, r1, q1⟩ => hc pins s1 σ H1 vs us Q I1 r1 q1) he hpl
end
end L2
namespace HT
open PySem PyProof.Rows
section
variable {prog : Program} {w : World} {A : Around} {E : Value → Shared → Prop} {s : Shared}
def sIx (n d : Nat) : Option Int → Nat
  | none => d
  | some v => if v < 0 then (v + (n : Int)).toNat else min v.toNat n
theorem sIx_none (n d : Nat) : sIx n d none = d := rfl
theorem sIx_nat (n d k : Nat) : sIx n d (some (k : Int)) = min k n := by
  show (if (k : Int) < 0 then ((k : Int) + (n : Int)).toNat else min (k : Int).toNat n) = min k n
  rw [if_neg (by omega), Int.toNat_natCast]
theorem sIx_le (n d : Nat) (hd : d ≤ n) (o : Option Int) : sIx n d o ≤ n := by
  cases o with
  | none => exact hd
  | some v =>
    show (if v < 0 then (v + (n : Int)).toNat else min v.toNat n) ≤ n
    by_cases hv : v < 0
    · rw [if_pos hv]; omega
    · rw [if_neg hv]; exact Nat.min_le_right _ _
theorem clip_eq (v : Int) (n d : Nat) : (if v < 0 then max (v + (n : Int)) 0 else min v (n : Int)) = ((sIx n d (some v) : Nat) : Int) := by
  show (if v < 0 then max (v + (n : Int)) 0 else min v (n : Int)) = (((if v < 0 then (v + (n : Int)).toNat else min v.toNat n) : Nat) : Int)
  by_cases hv : v < 0
  · simp only [if_pos hv]; omega
  · simp only [if_neg hv]; omega
theorem adjust_gen (lo hi : Option Int) (n : Nat) : Builtin.Slice.sliceAdjust lo hi 1 (n : Int) = (((sIx n 0 lo : Nat) : Int), ((sIx n n hi : Nat) : Int)) := by
  have h1 : ¬ ((1 : Int) < 0) := by omega
  unfold Builtin.Slice.sliceAdjust
  simp only [h1, if_false]
  refine Prod.ext ?_ ?_
  · cases lo with
    | none => rfl
    | some v => exact clip_eq v n 0
  · cases hi with
    | none => rfl
    | some v => exact clip_eq v n n
theorem places_gen (i j : Nat) : Builtin.Slice.slicePlaces (i : Int) (j : Int) 1 = j - i := by
  unfold Builtin.Slice.slicePlaces
  have h1 : (1 : Int) > 0 := by omega
  simp only [h1, if_true, Int.ediv_one]
  split <;> omega
theorem slicePart_ {v : Value} {o : Option Int} {Q : Option Int → Shared → Prop} (p : IsPart v o) (h : Q o s) : wpAny (model prog w) A (Builtin.Slice.slicePartIndex v) Q E s := by
  cases p with
  | none => exact slicePart_none h
  | int i t => exact slicePart_int h
theorem sliceApplied_gen {sl : Addr} {vl vu : Value} {lo hi : Option Int} {n : Nat} {Q : Int × Int × Nat → Shared → Prop} (hs : s.heap.IsSliceOf sl vl vu .none) (pl : IsPart vl lo) (pu : IsPart vu hi)
    (h : Q (((sIx n 0 lo : Nat) : Int), 1, sIx n n hi - sIx n 0 lo) s) : wpAny (model prog w) A (Builtin.Slice.sliceApplied (.ref sl) (pure (n : Int))) Q E s := by
  obtain ⟨os, hos, hcs, hds⟩ := id hs
  unfold Builtin.Slice.sliceApplied Builtin.Slice.sliceFields
  refine wpAny_bind (wpAny_bind (wpAny_field hos hds (x := vl) rfl (wpAny_bind (wpAny_field hos hds (x := vu) rfl (wpAny_bind (wpAny_field hos hds (x := .none) rfl (wpAny_pure ?_)))))))
  refine wpAny_bind (slicePart_none ?_)
  show wpAny _ _ (if ((1 : Int) == 0) = true then _ else _) _ _ s
  rw [if_neg (by decide)]
  refine wpAny_bind (slicePart_ pl (wpAny_bind (slicePart_ pu (wpAny_bind (wpAny_pure ?_)))))
  show wpAny _ _ (match Builtin.Slice.sliceAdjust lo hi 1 (n : Int) with | (lo, hi) => pure (lo, (1 : Int), Builtin.Slice.slicePlaces lo hi 1)) _ _ s
  rw [adjust_gen lo hi n]
  show wpAny _ _ (pure (((sIx n 0 lo : Nat) : Int), (1 : Int), Builtin.Slice.slicePlaces ((sIx n 0 lo : Nat) : Int) ((sIx n n hi : Nat) : Int) 1)) _ _ s
  rw [places_gen]
  exact wpAny_pure h
theorem pick_gen (xs : Array Value) (i k : Nat) : ((List.range k).filterMap fun (m : Nat) => xs[((i : Int) + (m : Int) * 1).toNat]?).toArray = ((xs.toList.drop i).take k).toArray := by
  have e : (fun (m : Nat) => xs[((i : Int) + (m : Int) * 1).toNat]?) = fun m => xs[i + m]? := by
    funext m
    have : ((i : Int) + (m : Int) * 1).toNat = i + m := by omega
    rw [this]
  rw [e]
  have := pick_run xs i k
  rw [List.filterMap_map] at this
  have e2 : ((fun x => xs[x]?) ∘ fun x => i + x) = fun m => xs[i + m]? := rfl
  rw [e2] at this
  rw [this]
theorem getItem_tuple_cut {t sl : Addr} {items : Array Value} {vl vu : Value} {lo hi : Option Int} {Q : Value → Shared → Prop} (ht : IsTup s.heap t items) (hs : s.heap.IsSliceOf sl vl vu .none) (pl : IsPart vl lo) (pu : IsPart vu hi)
    (hw : ¬ (sIx items.size 0 lo = 0 ∧ sIx items.size items.size hi = items.size))
    (h : Q (.ref s.heap.objs.size) { s with heap := s.heap.push { cls := .type "tuple", data := .seq ((items.toList.drop (sIx items.size 0 lo)).take (sIx items.size items.size hi - sIx items.size 0 lo)).toArray } })
    (hsz : items.size ≤ sizeLine) : wpAny (model prog w) A (getItem (.ref t) (.ref sl)) Q E s := by
  have htake : sizeOk (.seq ((items.toList.drop (sIx items.size 0 lo)).take (sIx items.size items.size hi - sIx items.size 0 lo)).toArray) := by
    show ((items.toList.drop (sIx items.size 0 lo)).take (sIx items.size items.size hi - sIx items.size 0 lo)).toArray.size ≤ sizeLine
    rw [List.size_toArray, List.length_take, List.length_drop, Array.length_toList]
    omega
  have hj : sIx items.size items.size hi ≤ items.size := sIx_le _ _ (Nat.le_refl _) hi
  obtain ⟨os, hos, hcs, hds⟩ := id hs
  have hTs : s.TypeIs (.ref sl) "slice" := ⟨os, hos, hcs⟩
  unfold getItem
  try with_reducible refine wpAny_holding ?_
  first | refine wpAny_bind (wpAny_pure ?_) | skip
  refine wpAny_bind (wpAny_sequenceKey ht.typeIs (by decide) ?_)
  refine wpAny_bind (wpAny_callSpecial?_slot (name := Str.ofString "__getitem__") ht.typeIs PyProof.Rows.slot_tuple_getitem
    (wpAny_call_entry PyProof.Rows.slot_tuple_getitem ht.typeIs entry_tuple_getitem ?_ (args_tuple_getitem _ _)))
  show wpAny _ _ (Builtin.Tuple.tupleItemsOf (.ref t) >>= _) _ _ s
  refine wpAny_bind (tupleItemsOf_ ht ?_)
  refine wpAny_bind (wpAny_typeOf hTs ?_)
  rw [if_pos (by decide)]
  refine wpAny_bind (sliceApplied_gen hs pl pu ?_)
  have hno : ¬ ((((sIx items.size 0 lo : Nat) : Int) == 0 && (1 : Int) == 1 && (sIx items.size items.size hi - sIx items.size 0 lo) == items.size) = true) := by
    intro q
    rw [Bool.and_eq_true, Bool.and_eq_true] at q
    have q1 : ((sIx items.size 0 lo : Nat) : Int) = 0 := eq_of_beq q.1.1
    have q2 : sIx items.size items.size hi - sIx items.size 0 lo = items.size := eq_of_beq q.2
    exact hw ⟨by omega, by omega⟩
  show wpAny _ _ (if (((sIx items.size 0 lo : Nat) : Int) == 0 && (1 : Int) == 1 && (sIx items.size items.size hi - sIx items.size 0 lo) == items.size) = true then _ else _) _ _ s
  rw [if_neg hno, pick_gen]
  first
    | exact wpAny_bind (m := Builtin.Tuple.tupleExact _) (wpAny_newObj_type (wpAny_pure ⟨_, rfl, wpAny_pure h⟩) htake)
    | exact wpAny_bind (m := Builtin.Tuple.tupleExact _) (wpAny_newObj_type (wpAny_bind (wpAny_pure (wpAny_pure ⟨_, rfl, wpAny_pure h⟩))) htake)
    | exact wpAny_bind (wpAny_bind (m := Builtin.Tuple.tupleExact _) (wpAny_newObj_type (wpAny_pure (wpAny_pure ⟨_, rfl, wpAny_pure h⟩)) htake))
    | exact wpAny_bind (wpAny_bind (m := Builtin.Tuple.tupleExact _) (wpAny_newObj_type (wpAny_pure ⟨_, rfl, wpAny_pure h⟩) htake))
end
end HT
namespace L2
open PySem PySem.Spec PyProof.Rows
abbrev TO := St → Hp → (Option Int → Hp → Prop) → Prop
def PO (X : Cx) (e : Option Expr) (t : TO) : Prop :=
  ∀ (pins : List (Addr × Obj)) (s : Shared) (σ : St) (H : Hp) (Q : Option Int → Hp → Prop), Inv X pins σ H s → t σ H Q →
    wpAny (model X.prog X.w) X.A (evalPart e X.env) (fun u s' => ∃ o H', Inv X pins σ H' s' ∧ IsPart u o ∧ Q o H') X.xe s
def tNoPart : TO := fun _ H Q => Q none H
def tPart (t : TE) : TO := fun σ H Q => t σ H fun x H1 => ∃ i, x = .int i ∧ Q (some i) H1
section
variable {X : Cx} {e : Expr} {te : TE} {lo hi : Option Expr} {tl th : TO} {pos p2 : Pos}
theorem po_none : PO X none tNoPart := by
  intro pins s σ H Q I h
  rw [evalPart_none]
  exact wpAny_pure ⟨none, H, I, .none, h⟩
theorem po_some (h : PE X e te) : PO X (some e) (tPart te) := by
  intro pins s σ H Q I hw
  rw [evalPart_some]
  refine thn (h pins s σ H _ I hw) fun u s1 ⟨x, H1, I1, r1, q1⟩ => ?_
  obtain ⟨i, rfl, q⟩ := q1
  obtain ⟨t, rfl⟩ := r1
  exact ⟨some i, H1, I1, .int i t, q⟩
def SlR (X : Cx) (r : V → Option Int → Option Int → Hp → VK → Prop) : Prop :=
  ∀ (pins : List (Addr × Obj)) (s : Shared) (σ : St) (H : Hp) (x : V) (v vl vu : Value) (lo hi : Option Int) (sl : Addr) (Q : VK), Inv X pins σ H s → RelV x v → s.heap.IsSliceOf sl vl vu .none → IsPart vl lo → IsPart vu hi → r x lo hi H Q →
    ∃ T id, typeLookup (.type T) "__getitem__" = pure (some (.builtin id)) ∧ s.TypeIs v T ∧ wpAny (model X.prog X.w) X.A (getItem v (.ref sl)) (EP X pins σ Q) X.xe s
def tSl (r : V → Option Int → Option Int → Hp → VK → Prop) (te : TE) (tl th : TO) : TE := fun σ H Q => te σ H fun x H1 => tl σ H1 fun l H2 => th σ H2 fun u H3 => r x l u H3 Q
theorem pe_slice {r : V → Option Int → Option Int → Hp → VK → Prop} (hr : SlR X r) (he : PE X e te) (hl : PO X lo tl) (hu : PO X hi th) : PE X (.Subscript e (.Slice lo hi none p2) pos) (tSl r te tl th) := by
  intro pins s σ H Q I h
  refine Subscript_ (thn (he pins s σ H _ I h) fun v s1 ⟨x, H1, I1, r1, q1⟩ => ?_)
  refine wpAny_Slice (thn (hl pins s1 σ H1 _ I1 q1) fun vl s2 ⟨l, H2, I2, pl, q2⟩ => thn (hu pins s2 σ H2 _ I2 q2) fun vu s3 ⟨u, H3, I3, pu, q3⟩ => ?_)
  rw [evalPart_none]
  refine wpAny_pure ?_
  have I4 : Inv X pins σ H3 { s3 with heap := s3.heap.push { cls := .type "slice", data := .fields #[vl, vu, .none] } } := I3.kept (t' := s3.toks) fun b ob q => Heap.get?_push_of_some _ q
  obtain ⟨T, id, hT, ht, hg⟩ := hr pins { s3 with heap := s3.heap.push { cls := .type "slice", data := .fields #[vl, vu, .none] } } σ H3 x v vl vu l u s3.heap.objs.size Q I4 r1 (Heap.IsSliceOf.new ..) pl pu q3
  show wpAny (model X.prog X.w) X.A (subscriptTail e (.Slice lo hi none p2) v (.ref s3.heap.objs.size)) (EP X pins σ Q) X.xe { s3 with heap := s3.heap.push { cls := .type "slice", data := .fields #[vl, vu, .none] } }
  exact tail_any (ops := [.ref s3.heap.objs.size, v]) ht hT hg (by with_unfolding_all rfl)
def cutV (xs : List V) (lo hi : Option Int) : List V := (xs.drop (HT.sIx xs.length 0 lo)).take (HT.sIx xs.length xs.length hi - HT.sIx xs.length 0 lo)
theorem cutV_length (xs : List V) (lo hi : Option Int) : (cutV xs lo hi).length ≤ xs.length := by
  unfold cutV
  rw [List.length_take, List.length_drop]
  omega
def rSlT (K : PySem.W.Frag) : V → Option Int → Option Int → Hp → VK → Prop := fun x lo hi H Q => ∃ a xs, x = .ref a ∧ SqT K H a xs ∧
  ¬ (HT.sIx xs.length 0 lo = 0 ∧ HT.sIx xs.length xs.length hi = xs.length) ∧ ∀ p, H p = none → Q (.ref p) (upd H p (.tup (cutV xs lo hi)))
theorem sl_tup : SlR X (rSlT X.K) := by
  intro pins s σ H x v vl vu lo hi sl Q I rx hs pl pu h
  obtain ⟨a, xs, rfl, hx, hw, q⟩ := h
  cases rx
  obtain ⟨its, r, ht, hz⟩ := I.tuple hx
  have hlen : its.toArray.size = xs.length := by rw [List.size_toArray]; exact r.length.symm
  refine ⟨"tuple", _, PyProof.Rows.slot_tuple_getitem.lookup, ht.typeIs, ?_⟩
  refine HT.getItem_tuple_cut ht hs pl pu (by rw [hlen]; exact hw) ?_ (by rw [hlen]; exact hz)
  rw [hlen]
  refine ⟨.ref s.heap.objs.size, _, I.laid (t' := s.toks) (o := .tup (cutV xs lo hi)) (fun b ob q => Heap.get?_push_of_some _ q) (Nat.le_refl _) ?_, rfl, q _ (I.hok.fresh (Nat.le_refl _))⟩
  exact ⟨Nat.le_trans (cutV_length xs lo hi) hz, _, (r.drop (HT.sIx xs.length 0 lo)).take (HT.sIx xs.length xs.length hi - HT.sIx xs.length 0 lo), IsTup.new _ _⟩
end
end L2
namespace L2
open PySem PySem.Spec PyProof.Rows
def ixN (n : Nat) (i : Int) : Option Nat := if 0 ≤ i then (if i < n then some i.toNat else none) else if -(n : Int) ≤ i then some (i + n).toNat else none
def atI {α : Type} (xs : List α) (i : Int) : Option α := (ixN xs.length i).bind fun j => xs[j]?
theorem ixN_seq {n : Nat} {i : Int} {j : Nat} (h : ixN n i = some j) : seqIndex? i n = some j ∧ j < n ∧ -(n : Int) ≤ i ∧ i < n := by
  unfold ixN at h
  by_cases h0 : 0 ≤ i
  · rw [if_pos h0] at h
    by_cases h1 : i < n
    · rw [if_pos h1] at h
      have e : i.toNat = j := Option.some.inj h
      exact ⟨by rw [seqIndex_of h0 h1, e], by omega, by omega, h1⟩
    · rw [if_neg h1] at h; cases h
  · rw [if_neg h0] at h
    by_cases h1 : -(n : Int) ≤ i
    · rw [if_pos h1] at h
      have e : (i + n).toNat = j := Option.some.inj h
      exact ⟨by rw [seqIndex_neg (by omega) h1, e], by omega, h1, by omega⟩
    · rw [if_neg h1] at h; cases h
theorem atI_get {α : Type} {xs : List α} {i : Int} {v : α} (h : atI xs i = some v) : ∃ j, seqIndex? i xs.length = some j ∧ xs[j]? = some v ∧ j < xs.length ∧ -(xs.length : Int) ≤ i ∧ i < xs.length := by
  unfold atI at h
  cases e : ixN xs.length i with
  | none => rw [e] at h; cases h
  | some j =>
    rw [e] at h
    obtain ⟨h1, h2, h3, h4⟩ := ixN_seq e
    exact ⟨j, h1, h, h2, h3, h4⟩
theorem atI_nat {α : Type} {xs : List α} {j : Nat} {v : α} (h : xs[j]? = some v) : atI xs (j : Int) = some v := by
  have hj : j < xs.length := (List.getElem?_eq_some_iff.mp h).1
  have e : ixN xs.length (j : Int) = some j := by
    unfold ixN
    rw [if_pos (by omega), if_pos (by omega)]; simp
  unfold atI; rw [e]; exact h
def PlainIx (b : Expr) : Prop := ∀ o i, subscripted b false o i = operate [o, i] (getItem o i)
def IxR (X : Cx) (r : R2) : Prop :=
  ∀ (value slice : Expr) (pins : List (Addr × Obj)) (s : Shared) (σ : St) (H : Hp) (x y : V) (v u : Value) (Q : VK), Inv X pins σ H s → RelV x v → RelV y u → r x y H Q →
    subscripted slice false v u = operate [v, u] (getItem v u) → wpAny (model X.prog X.w) X.A (subscriptTail value slice v u) (EP X pins σ Q) X.xe s
def MtR (X : Cx) (id : String) (r : V → List V → Hp → VK → Prop) : Prop :=
  ∀ (pins : List (Addr × Obj)) (s : Shared) (σ : St) (H : Hp) (x : V) (xs : List V) (v : Value) (us : List Value) (Q : VK), Inv X pins σ H s → RelV x v → Vals xs us → r x xs H Q →
    wpAny (model X.prog X.w) X.A (call (.builtin id) (v :: us)) (EP X pins σ Q) X.xe s
section
variable {X : Cx} {a b : Expr} {ta tb : TE} {pos : Pos}
theorem pe_ix {r : R2} (hr : IxR X r) (ha : PE X a ta) (hb : PE X b tb) (hs : PlainIx b) : PE X (.Subscript a b pos) (tOp r ta tb) := by
  intro pins s σ H Q I h
  exact Subscript_ (binT ha hb I h fun v u s2 x y H2 I2 rx ry q => hr a b pins s2 σ H2 x y v u Q I2 rx ry q (hs _ _))
def rIxL (K : PySem.W.Frag) : R2 := fun x y H Q => ∃ p xs i v, x = .ref p ∧ y = .int i ∧ SqL K H p xs ∧ atI xs i = some v ∧ Q v H
def rIxT (K : PySem.W.Frag) : R2 := fun x y H Q => ∃ p xs i v, x = .ref p ∧ y = .int i ∧ SqT K H p xs ∧ atI xs i = some v ∧ Q v H
theorem ix_list : IxR X (rIxL X.K) := by
  intro value slice pins s σ H x y v u Q I rx ry h hs
  obtain ⟨p, xs, i, z, rfl, rfl, hq, he, q⟩ := h
  cases rx
  obtain ⟨t, rfl⟩ := ry
  obtain ⟨its, r, pl, hz⟩ := I.list hq
  obtain ⟨j, h1, h2, h3, h4, h5⟩ := atI_get he
  obtain ⟨w, ew, rw'⟩ := r.get h2
  have hl := r.length
  have hn := line63
  have fin : EP X pins σ Q w s := ⟨z, H, I, rw', q⟩
  by_cases h0 : 0 ≤ i
  · have hj : i.toNat = j := by
      rw [seqIndex_of h0 h5] at h1
      exact Option.some.inj h1
    exact item_listR pl.isList h0 (by omega) (by rw [hj]; simpa using ew) fin hs
  · have hj : (i + (its.toArray.size : Int)).toNat = j := by
      rw [seqIndex_neg (by omega) h4] at h1
      rw [List.size_toArray, ← hl]
      exact Option.some.inj h1
    exact subscriptTail_builtinR (x := w) pl.isList.typeIs slot_list_getitem.lookup
      (wpAny_getItem_list_neg (Q := fun r s' => r = w ∧ EP X pins σ Q r s') pl.isList (by omega) (by rw [List.size_toArray] <;> omega) (by omega) (by rw [hj]; simpa using ew) ⟨rfl, fin⟩) hs
theorem ix_tup : IxR X (rIxT X.K) := by
  intro value slice pins s σ H x y v u Q I rx ry h hs
  obtain ⟨p, xs, i, z, rfl, rfl, hq, he, q⟩ := h
  cases rx
  obtain ⟨t, rfl⟩ := ry
  obtain ⟨its, r, pl, hz⟩ := I.tuple hq
  obtain ⟨j, h1, h2, h3, h4, h5⟩ := atI_get he
  obtain ⟨w, ew, rw'⟩ := r.get h2
  have hl := r.length
  have hn := line63
  have fin : EP X pins σ Q w s := ⟨z, H, I, rw', q⟩
  exact subscriptTail_builtinR (x := w) pl.typeIs slot_tuple_getitem.lookup
    (getItem_tuple (j := j) (Q := fun r s' => r = w ∧ EP X pins σ Q r s') pl (by omega) (by omega) (by rw [List.size_toArray, ← hl]; exact h1) (by simpa using ew) ⟨rfl, fin⟩) hs
theorem mapSeq_set (its : List Value) (n j : Nat) (u : Value) : Obj.mapSeq (·.setIfInBounds j u) { cls := .type "list", data := .seq its.toArray n } = { cls := .type "list", data := .seq (its.set j u).toArray n } := by
  simp [Obj.mapSeq]
theorem Inv.lst {pins : List (Addr × Obj)} {σ : St} {H : Hp} {s : Shared} {p : Addr} {xs : List V} (I : Inv X pins σ H s) (h : H p = some (.lst xs)) :
    ∃ (its : List Value) (n : Nat), Vals xs its ∧ s.heap.get? p = some { cls := .type "list", data := .seq its.toArray n } ∧ xs.length ≤ sizeLine := by
  obtain ⟨z, its, n, r, e⟩ := I.hok p _ h
  exact ⟨its, n, r, e, z⟩
theorem Inv.lstUpd {pins : List (Addr × Obj)} {σ : St} {H : Hp} {s : Shared} {p : Addr} {xs ys : List V} {its its' : List Value} {n n' : Nat} {f : Obj → Obj} (I : Inv X pins σ H s) (h : H p = some (.lst xs))
    (ho : s.heap.get? p = some { cls := .type "list", data := .seq its.toArray n }) (hf : f { cls := .type "list", data := .seq its.toArray n } = { cls := .type "list", data := .seq its'.toArray n' }) (r : Vals ys its') (hz : ys.length ≤ sizeLine) (t : Nat) (ht : 1 ≤ t := by first | assumption | exact Inv.tk (by assumption) | exact Nat.le_add_left _ _ | omega) :
    Inv X pins σ (upd H p (.lst ys)) { s with heap := s.heap.update p f, toks := t } := by
  have e : (s.heap.update p f).get? p = some { cls := .type "list", data := .seq its'.toArray n' } := by
    rw [Heap.get?_update_self f ho (by rw [hf] <;> rfl), hf]
  refine I.write (x := p) (e := p) (by rw [h]; trivial) (.inl rfl) (fun b u hb q => (Heap.get?_update_other _ _ (Ne.symm hb)).trans q) ⟨_, e⟩ ?_
  exact ⟨hz, its', n', r, e⟩
def rSetL : V → V → V → Hp → (Hp → Prop) → Prop := fun o i v H Q => ∃ p xs k j, o = .ref p ∧ i = .int k ∧ H p = some (.lst xs) ∧ ixN xs.length k = some j ∧ Q (upd H p (.lst (xs.set j v)))
theorem set_list : PSet X rSetL := by
  intro pins s σ H o i v ov iv u Q I ro ri rv h
  obtain ⟨p, xs, k, j, rfl, rfl, hp, hj, q⟩ := h
  cases ro
  obtain ⟨t, rfl⟩ := ri
  obtain ⟨its, n, r, ho, hz⟩ := I.lst hp
  obtain ⟨h1, h2, h3, h4⟩ := ixN_seq hj
  have hl := r.length
  have hn := line63
  have I' : Inv X pins σ (upd H p (.lst (xs.set j v))) { s with heap := s.heap.update p (Obj.mapSeq (·.setIfInBounds j u)) } :=
    I.lstUpd hp ho (mapSeq_set its n j u) (r.set rv j) (by rw [List.length_set]; exact hz) s.toks
  by_cases h0 : 0 ≤ k
  · have hk : k.toNat = j := by
      rw [seqIndex_of h0 h4] at h1
      exact Option.some.inj h1
    exact PySem.W.ki_setAt ho h0 (by omega) (by rw [List.size_toArray, ← hl]; exact h4) (by rw [hk]; exact ⟨_, I', q⟩)
  · have hk : (k + (its.toArray.size : Int)).toNat = j := by
      rw [seqIndex_neg (by omega) h3] at h1
      rw [List.size_toArray, ← hl]
      exact Option.some.inj h1
    exact PySem.W.ki_setBack ho (by omega) (by rw [List.size_toArray, ← hl]; exact h3) (by omega) (by rw [hk]; exact ⟨_, I', q⟩)
theorem slice_bounds (lo hi : Option Int) (n : Nat) : (sliceBounds lo hi none n).1 = ((HT.sIx n 0 lo : Nat) : Int) ∧ (sliceBounds lo hi none n).2.1 = ((HT.sIx n n hi : Nat) : Int) ∧ (sliceBounds lo hi none n).2.2 = 1 := by
  refine ⟨?_, ?_, rfl⟩
  · cases lo with
    | none => simp [sliceBounds, HT.sIx]
    | some i =>
      simp only [sliceBounds, HT.sIx, Option.getD_none, show (1 : Int) > 0 by decide, if_true]
      by_cases h : i < 0
      · simp only [h, if_true] <;> omega
      · simp only [h, if_false] <;> omega
  · cases hi with
    | none => simp [sliceBounds, HT.sIx]
    | some i =>
      simp only [sliceBounds, HT.sIx, Option.getD_none, show (1 : Int) > 0 by decide, if_true]
      by_cases h : i < 0
      · simp only [h, if_true] <;> omega
      · simp only [h, if_false] <;> omega
theorem slicePick_cut (its : List Value) (lo hi : Option Int) : slicePick its.toArray lo hi none = ((its.drop (HT.sIx its.length 0 lo)).take (HT.sIx its.length its.length hi - HT.sIx its.length 0 lo)).toArray := by
  obtain ⟨h1, h2, h3⟩ := slice_bounds lo hi its.toArray.size
  unfold slicePick
  rw [h1, h2, h3]
  simp only [sliceRange_one, pick_run, List.size_toArray] <;> rfl
def rSlL (K : PySem.W.Frag) : V → Option Int → Option Int → Hp → VK → Prop := fun x lo hi H Q => ∃ a xs, x = .ref a ∧ SqL K H a xs ∧ ∀ p, H p = none → Q (.ref p) (upd H p (.lst (cutV xs lo hi)))
theorem sl_list : SlR X (rSlL X.K) := by
  intro pins s σ H x v vl vu lo hi sl Q I rx hs pl pu h
  obtain ⟨a, xs, rfl, hx, q⟩ := h
  cases rx
  obtain ⟨its, r, ht, hz⟩ := I.list hx
  have hlen := r.length
  refine ⟨"list", _, slot_list_getitem.lookup, ht.isList.typeIs, ?_⟩
  refine wpAny_getItem_list_slice ht.isList hs pl pu .none (by simp) ?_ (by rw [List.size_toArray] <;> omega)
  rw [slicePick_cut, ← hlen]
  refine ⟨.ref s.heap.objs.size, _, I.laid (t' := s.toks) (o := .lst (cutV xs lo hi)) (fun b ob q => Heap.get?_push_of_some _ q) (Nat.le_refl _) ?_, rfl, q _ (I.hok.fresh (Nat.le_refl _))⟩
  exact ⟨Nat.le_trans (cutV_length xs lo hi) hz, _, 0, (r.drop (HT.sIx xs.length 0 lo)).take (HT.sIx xs.length xs.length hi - HT.sIx xs.length 0 lo), Heap.get?_push_size _ rfl⟩
def flatV : V → Bool
  | .non => true
  | .bl _ => true
  | .int _ => true
  | .str _ => true
  | _ => false
def eqV : V → V → Bool
  | .non, .non => true
  | .bl a, .bl b => a == b
  | .bl a, .int b => (if a then 1 else 0) == b
  | .int a, .bl b => a == (if b then 1 else 0)
  | .int a, .int b => a == b
  | .str a, .str b => a == b
  | _, _ => false
theorem eqAt_V {A : Around} {s : Shared} {y x : V} {u v : Value} (ry : RelV y u) (rx : RelV x v) (fy : flatV y = true) (fx : flatV x = true) : SeqAt.EqAt A s u v (eqV y x) := by
  cases y with
  | non =>
    cases ry
    cases x with
    | non => cases rx; exact SeqAt.EqAt.same _
    | bl b => cases rx; exact SeqAt.EqAt.none_bool b
    | int b => obtain ⟨t, rfl⟩ := rx; exact SeqAt.EqAt.none_int b t
    | str b => obtain ⟨t, rfl⟩ := rx; exact SeqAt.EqAt.none_str b t
    | _ => exact absurd (show false = true from fx) Bool.false_ne_true
  | bl a =>
    cases ry
    cases x with
    | non => cases rx; exact SeqAt.EqAt.bool_none a
    | bl b => cases rx; exact SeqAt.EqAt.bool_bool a b
    | int b => obtain ⟨t, rfl⟩ := rx; exact SeqAt.EqAt.bool_int a b t
    | str b => obtain ⟨t, rfl⟩ := rx; exact SeqAt.EqAt.bool_str a b t
    | _ => exact absurd (show false = true from fx) Bool.false_ne_true
  | int a =>
    obtain ⟨t', rfl⟩ := ry
    cases x with
    | non => cases rx; exact SeqAt.EqAt.int_none a t'
    | bl b => cases rx; exact SeqAt.EqAt.int_bool a t' b
    | int b => obtain ⟨t, rfl⟩ := rx; exact SeqAt.EqAt.int_int a t' b t
    | str b => obtain ⟨t, rfl⟩ := rx; exact SeqAt.EqAt.int_str a t' b t
    | _ => exact absurd (show false = true from fx) Bool.false_ne_true
  | str a =>
    obtain ⟨t', rfl⟩ := ry
    cases x with
    | non => cases rx; exact SeqAt.EqAt.str_none a t'
    | bl b => cases rx; exact SeqAt.EqAt.str_bool a t' b
    | int b => obtain ⟨t, rfl⟩ := rx; exact SeqAt.EqAt.str_int a t' b t
    | str b => obtain ⟨t, rfl⟩ := rx; exact SeqAt.EqAt.str_str a t' b t
    | _ => exact absurd (show false = true from fx) Bool.false_ne_true
  | _ => exact absurd (show false = true from fy) Bool.false_ne_true
def eqU (x : V) (u : Value) : Bool := match u with
  | .none => eqV .non x
  | .bool b => eqV (.bl b) x
  | .int i _ => eqV (.int i) x
  | .str z _ => eqV (.str z) x
  | _ => false
theorem eqU_of {x y : V} {u : Value} (r : RelV y u) (f : flatV y = true) : eqU x u = eqV y x := by
  cases y with
  | non => cases r; rfl
  | bl b => cases r; rfl
  | int i => obtain ⟨t, rfl⟩ := r; rfl
  | str z => obtain ⟨t, rfl⟩ := r; rfl
  | _ => exact absurd (show false = true from f) Bool.false_ne_true
theorem any_eqU {x : V} : ∀ {xs : List V} {us : List Value}, Vals xs us → xs.all flatV = true → us.any (eqU x) = xs.any fun y => eqV y x
  | _, _, .nil, _ => rfl
  | y :: xs, u :: us, .cons r t, f => by
    rw [List.all_cons, Bool.and_eq_true] at f
    rw [List.any_cons, List.any_cons, eqU_of r f.1, any_eqU t f.2]
theorem mem_eqAt {A : Around} {s : Shared} {x : V} {v : Value} (rx : RelV x v) (fx : flatV x = true) : ∀ {xs : List V} {us : List Value}, Vals xs us → xs.all flatV = true → ∀ u ∈ us, SeqAt.EqAt A s u v (eqU x u)
  | _, _, .nil, _ => fun u hu => by cases hu
  | y :: xs, u :: us, .cons r t, f => fun u' hu => by
    rw [List.all_cons, Bool.and_eq_true] at f
    rcases List.mem_cons.mp hu with rfl | hu
    · rw [eqU_of r f.1]; exact eqAt_V r rx f.1 fx
    · exact mem_eqAt rx fx t f.2 u' hu
def inV (x : V) (xs : List V) : Bool := xs.any fun y => eqV y x
def rIn (K : PySem.W.Frag) (neg : Bool) : R2 := fun x y H Q => ∃ p xs, y = .ref p ∧ (SqL K H p xs ∨ SqT K H p xs) ∧ flatV x = true ∧ xs.all flatV = true ∧ Q (.bl (if neg then !inV x xs else inV x xs)) H
theorem op_in_seq : OpR X (compareOp .In) (rIn X.K false) := by
  intro pins s σ H x y v u Q I rx ry h
  obtain ⟨p, xs, rfl, hq, fx, fs, q⟩ := h
  cases ry
  rcases hq with hq | hq
  · obtain ⟨its, r, pl, hz⟩ := I.list hq
    refine SeqAt.in_listAt (eqU x) pl.isList (fun w hw => mem_eqAt rx fx r fs w (by simpa using hw)) ⟨.bl _, H, I, rfl, ?_⟩
    rw [show its.toArray.any (eqU x) = its.any (eqU x) by simp, any_eqU r fs]
    exact q
  · obtain ⟨its, r, pl, hz⟩ := I.tuple hq
    refine SeqAt.in_tupleAt (eqU x) pl (fun w hw => mem_eqAt rx fx r fs w (by simpa using hw)) ⟨.bl _, H, I, rfl, ?_⟩
    rw [show its.toArray.any (eqU x) = its.any (eqU x) by simp, any_eqU r fs]
    exact q
theorem call_len_seq : CallR X (.builtin "len") (fun xs H Q => ∃ p ys, xs = [.ref p] ∧ (SqL X.K H p ys ∨ SqT X.K H p ys) ∧ Q (.int ys.length) H) := by
  intro pins s σ H xs us Q I r h
  obtain ⟨p, ys, rfl, hq, q⟩ := h
  obtain ⟨u, rfl, rx⟩ := vals1 r
  cases rx
  have hn := line63
  rcases hq with hq | hq
  · obtain ⟨its, r', pl, hz⟩ := I.list hq
    have hlen := r'.length
    exact Calls.call_len_list pl.isList (by simp only [List.size_toArray] <;> omega) ⟨.int ys.length, H, I.tok _, ⟨s.toks + 1, by rw [List.size_toArray, hlen]⟩, q⟩
  · obtain ⟨its, r', pl, hz⟩ := I.tuple hq
    have hlen := r'.length
    exact len_tuple pl (by simp only [List.size_toArray] <;> omega) ⟨.int ys.length, H, I.tok _, ⟨s.toks + 1, by rw [List.size_toArray, hlen]⟩, q⟩
theorem call_len_str : CallR X (.builtin "len") (fun xs H Q => ∃ z, xs = [.str z] ∧ z.length ≤ sizeLine ∧ Q (.int z.length) H) := by
  intro pins s σ H xs us Q I r h
  obtain ⟨z, rfl, hz, q⟩ := h
  obtain ⟨u, rfl, t, rfl⟩ := vals1 r
  have hn := line63
  exact len_str (by omega) ⟨.int z.length, H, I.tok _, ⟨_, rfl⟩, q⟩
def tyV (K : PySem.W.Frag) (T : String) (x : V) (H : Hp) : Prop := match x with
  | .str _ => T = "str"
  | .int _ => T = "int"
  | .ref p => (T = "list" ∧ ∃ xs, SqL K H p xs) ∨ (T = "tuple" ∧ ∃ o, K.lookup p = some o ∧ o.cls = .type "tuple" ∧ o.dict = none) ∨
      (T = "dict" ∧ ((∃ kvs, H p = some (.dK kvs)) ∨ ∃ kvs, H p = some (.dT kvs))) ∨ (T = "set" ∧ ∃ S n, H p = some (.set S n))
  | _ => False
theorem tyV_is {pins : List (Addr × Obj)} {σ : St} {H : Hp} {s : Shared} {T : String} {x : V} {v : Value} (I : Inv X pins σ H s) (r : RelV x v) (ty : tyV X.K T x H) :
    s.TypeIs v T ∧ ∀ a, v = .ref a → ∃ ob, s.heap.get? a = some ob ∧ ob.dict = none := by
  cases x with
  | str z =>
    obtain ⟨t, rfl⟩ := r
    cases (show T = "str" from ty)
    exact ⟨typeIs_str s z t, fun _ e => nomatch e⟩
  | int i =>
    obtain ⟨t, rfl⟩ := r
    cases (show T = "int" from ty)
    exact ⟨typeIs_int s i t, fun _ e => nomatch e⟩
  | ref p =>
    cases r
    rcases ty with ⟨rfl, xs, hq⟩ | ⟨rfl, o, hk, hc, hd⟩ | ⟨rfl, hk⟩ | ⟨rfl, S, n, hk⟩
    · obtain ⟨its, _, pl, _⟩ := I.list hq
      refine ⟨pl.isList.typeIs, fun a e => ?_⟩
      cases e
      obtain ⟨o, n, e, c, hd, _⟩ := pl
      exact ⟨o, e, hd⟩
    · refine ⟨⟨o, I.kIn p o hk, hc⟩, fun a e => ?_⟩
      cases e
      exact ⟨o, I.kIn _ o hk, hd⟩
    · have z : ∃ o, s.heap.get? p = some o ∧ o.ExactDict := by
        rcases hk with ⟨kvs, hk⟩ | ⟨kvs, hk⟩
        · obtain ⟨_, _, _, _, o, _, _, e, ex, _⟩ := I.hok p _ hk
          exact ⟨o, e, ex⟩
        · obtain ⟨_, _, _, _, o, _, _, e, ex, _⟩ := I.hok p _ hk
          exact ⟨o, e, ex⟩
      obtain ⟨o, e, ex⟩ := z
      refine ⟨⟨o, e, ex.1⟩, fun a e2 => ?_⟩
      cases e2
      exact ⟨o, e, ex.2.1⟩
    · obtain ⟨o, _, _, _, e, ex, _⟩ := I.hok p _ hk
      refine ⟨⟨o, e, ex.1⟩, fun a e2 => ?_⟩
      cases e2
      exact ⟨o, e, ex.2.1⟩
  | _ => exact False.elim ty
def tBM0 (K : PySem.W.Frag) (T : String) (r : V → List V → Hp → VK → Prop) (to : TE) : TE := fun σ H Q => to σ H fun x H1 => tyV K T x H1 ∧ r x [] H1 Q
def tBM (K : PySem.W.Frag) (T : String) (r : V → List V → Hp → VK → Prop) (to : TE) (t : TA) : TE := fun σ H Q => to σ H fun x H1 => tyV K T x H1 ∧ t σ H1 fun xs H2 => r x xs H2 Q
variable {o e : Expr} {es : List Expr} {to : TE} {t : TA} {name : Str} {apos cpos : Pos} {T id : String} {r : V → List V → Hp → VK → Prop}
theorem pe_bm0 (pa : PlainAttrs T) (slot : Slot T name id) (hty : typeOf (.builtin id) = pure (.type "method_descriptor")) (hm : MtR X id r) (ho : PE X o to)
    (hbase : attributeBase o name X.env (eval o X.env) = eval o X.env := by rfl) (hline : (apos.endLine == cpos.line) = true := by rfl) : PE X (.Call (.Attribute o name apos) [] [] cpos) (tBM0 X.K T r to) := by
  intro pins s σ H Q I h
  refine wpAny_Call_method0_late hbase hline (thn (ho pins s σ H _ I h) fun v s1 ⟨x, H1, I1, r1, ty, q1⟩ => ?_)
  obtain ⟨h1, h2⟩ := tyV_is I1 r1 ty
  exact ⟨T, id, pa, slot, hty, h1, h2, Calls.callWith_builtin rfl (PySem.evalArgs_none (hm pins s1 σ H1 x [] v [] Q I1 r1 .nil q1))⟩
theorem pe_bm (pa : PlainAttrs T) (slot : Slot T name id) (hty : typeOf (.builtin id) = pure (.type "method_descriptor")) (hm : MtR X id r) (ho : PE X o to) (ha : PA X (e :: es) t)
    (hbase : attributeBase o name X.env (eval o X.env) = eval o X.env := by rfl)
    (hfew : ((backTo cpos (starEach (e :: es) X.env)).all (fun x => !x.1) && (backToKw cpos (keywordEach [] X.env)).all (fun x => x.1.isSome)
      && decide ((e :: es).length + ([] : List Keyword).length + (if ([] : List Keyword).isEmpty then 0 else 1) < 30)) = true := by rfl)
    (hline : (apos.endLine == cpos.line) = true := by rfl) (hs : starEach (e :: es) X.env = (false, eval e X.env) :: starEach es X.env := by rfl) (hplain : (backTo cpos (starEach es X.env)).any (·.1) = false := by rfl) :
    PE X (.Call (.Attribute o name apos) (e :: es) [] cpos) (tBM X.K T r to t) := by
  intro pins s σ H Q I h
  refine wpAny_Call_method_late hbase hfew hline rfl (thn (ho pins s σ H _ I h) fun v s1 ⟨x, H1, I1, r1, ty, q1⟩ => ?_)
  obtain ⟨h1, h2⟩ := tyV_is I1 r1 ty
  refine ⟨T, id, pa, slot, hty, h1, h2, ?_⟩
  have hA := ha cpos pins s1 σ H1 _ I1 q1
  rw [hs] at hA ⊢
  refine Calls.callWith_builtin (by show (false || (backTo cpos (starEach es X.env)).any (·.1)) = false; rw [hplain] <;> rfl) (Calls.evalArgs_plain ?_)
  exact thn hA fun us s2 ⟨vs, H2, I2, r2, q2⟩ => hm pins s2 σ H2 x vs v us Q I2 r1 r2 q2
end
end L2
namespace L2
open PySem PySem.Spec PyProof.Rows
def MtM (X : Cx) (id : String) (r : V → List V → Hp → VK → Prop) : Prop :=
  ∀ (pins : List (Addr × Obj)) (s : Shared) (σ : St) (H : Hp) (x : V) (xs : List V) (v : Value) (us : List Value) (Q : VK), Inv X pins σ H s → RelV x v → Vals xs us → r x xs H Q →
    wpAny (model X.prog X.w) X.A (call (.builtin id) (v :: us)) (EP X pins σ Q) X.xe s
theorem Vals.one : ∀ {x : V} {us : List Value}, Vals [x] us → ∃ u, us = [u] ∧ RelV x u
  | _, _, .cons r .nil => ⟨_, rfl, r⟩
theorem Vals.rep {xs : List V} {us : List Value} (h : Vals xs us) : ∀ k : Nat, Vals (List.replicate k xs).flatten (List.replicate k us).flatten
  | 0 => .nil
  | k + 1 => by
    rw [List.replicate_succ, List.replicate_succ, List.flatten_cons, List.flatten_cons]
    exact Vals.append h (Vals.rep h k)
theorem foldl_rep (its : List Value) : ∀ (k : Nat) (acc : List Value),
    List.foldl (fun x1 x2 => x1 ++ x2) acc.toArray (List.replicate k its.toArray) = (acc ++ (List.replicate k its).flatten).toArray
  | 0, acc => by simp
  | k + 1, acc => by
    have e : acc.toArray ++ its.toArray = (acc ++ its).toArray := by simp
    have e2 : (acc ++ its) ++ (List.replicate k its).flatten = acc ++ (List.replicate (k + 1) its).flatten := by
      rw [List.replicate_succ, List.flatten_cons, List.append_assoc]
    rw [← e2, ← foldl_rep its k (acc ++ its), ← e, List.replicate_succ, List.foldl_cons]
section
variable {X : Cx} {pins : List (Addr × Obj)} {σ : St} {H : Hp} {s : Shared} {l b : Addr} {xs ys zs : List V}
theorem Inv.lset {its its' : List Value} {n : Nat} {f : Array Value → Array Value} {t' : Nat} (I : Inv X pins σ H s) (hH : H l = some (.lst xs))
    (e : s.heap.get? l = some { cls := .type "list", data := .seq its.toArray n }) (hf : f its.toArray = its'.toArray) (hv : Vals ys its') (hz : ys.length ≤ sizeLine) (ht : 1 ≤ t' := by first | assumption | exact Inv.tk (by assumption) | exact Nat.le_add_left _ _ | omega) :
    Inv X pins σ (upd H l (.lst ys)) { s with heap := s.heap.update l (Obj.mapSeq f), toks := t' } := by
  have q := PySem.IsL.update e f
  rw [hf] at q
  refine I.write (x := l) (e := l) (by rw [hH]; exact trivial) (.inl rfl) (fun b' u hb hu => (Heap.get?_update_other s.heap (Obj.mapSeq f) (Ne.symm hb)).trans hu) ⟨_, q⟩ ?_
  exact ⟨hz, its', _, hv, q⟩
theorem Inv.lnew {its : List Value} {t' : Nat} (I : Inv X pins σ H s) (hv : Vals ys its) (hz : ys.length ≤ sizeLine) (ht : 1 ≤ t' := by first | assumption | exact Inv.tk (by assumption) | exact Nat.le_add_left _ _ | omega) :
    Inv X pins σ (upd H s.heap.objs.size (.lst ys)) { s with heap := s.heap.push { cls := .type "list", data := .seq its.toArray }, toks := t' } :=
  I.laid (fun _ _ q => Heap.get?_push_of_some _ q) (Nat.le_refl _) ⟨hz, its, 0, hv, Heap.get?_push_size _ rfl⟩
theorem Inv.fresh (I : Inv X pins σ H s) : H s.heap.objs.size = none := I.hok.fresh (Nat.le_refl _)
theorem Inv.lstM (I : Inv X pins σ H s) (hH : H l = some (.lst xs)) : xs.length ≤ sizeLine ∧ ∃ (its : List Value) (n : Nat), Vals xs its ∧ xs.length = its.length ∧ s.heap.get? l = some { cls := .type "list", data := .seq its.toArray n } := by
  obtain ⟨z, its, n, r, e⟩ := I.hok l _ hH
  exact ⟨z, its, n, r, r.length, e⟩
theorem notLongL {n : Nat} (h : n ≤ sizeLine) : Builtin.List.listTooLong n = false := by
  unfold Builtin.List.listTooLong
  exact decide_eq_false (by omega)
end
section
variable {X : Cx}
def rAppend : V → List V → Hp → VK → Prop := fun x vs H Q => ∃ l xs y, x = .ref l ∧ vs = [y] ∧ H l = some (.lst xs) ∧ xs.length < sizeLine ∧ Q .non (upd H l (.lst (xs ++ [y])))
theorem mt_append : MtM X "list.append" rAppend := by
  intro pins s σ H x vs v us Q I rx rv h
  obtain ⟨l, xs, y, rfl, rfl, hH, hz, q⟩ := h
  cases rx
  obtain ⟨u, rfl, ru⟩ := rv.one
  obtain ⟨z, its, n, r, hl, e⟩ := I.lstM hH
  refine call_meets F.slot_list_append ⟨_, e, rfl⟩ F.entry_list_append (F.args_list_append_2 _ _) (PySem.list_append l its.toArray n u (by rw [List.size_toArray]; omega)) ⟨e, ?_⟩
  refine ⟨.non, _, I.lset (its' := its ++ [u]) hH e (by simp) (r.append (.cons ru .nil)) ?_, rfl, q⟩
  rw [List.length_append, List.length_singleton]
  omega
def rExtend : V → List V → Hp → VK → Prop := fun x vs H Q => ∃ l b xs zs, x = .ref l ∧ vs = [.ref b] ∧ H l = some (.lst xs) ∧ H b = some (.lst zs) ∧ xs.length + zs.length ≤ sizeLine ∧ Q .non (upd H l (.lst (xs ++ zs)))
theorem mt_extend : MtM X "list.extend" rExtend := by
  intro pins s σ H x vs v us Q I rx rv h
  obtain ⟨l, b, xs, zs, rfl, rfl, hH, hB, hz, q⟩ := h
  cases rx
  obtain ⟨u, rfl, ru⟩ := rv.one
  cases ru
  obtain ⟨z, its, n, r, hl, e⟩ := I.lstM hH
  obtain ⟨z2, its2, n2, r2, hl2, e2⟩ := I.lstM hB
  have hsz : its.toArray.size + its2.toArray.size ≤ sizeLine := by rw [List.size_toArray, List.size_toArray]; omega
  have hlong : ¬ (!its.toArray.isEmpty && Builtin.List.listTooLong (its.toArray.size + its2.toArray.size)) = true := by
    rw [notLongL hsz, Bool.and_false]
    exact Bool.false_ne_true
  refine call_meets F.slot_list_extend ⟨_, e, rfl⟩ F.entry_list_extend (F.args_list_extend_2 _ _)
    (AutoSeq1.list_extend_list_list_0 l its.toArray n b its2.toArray n2 hlong (by rw [List.size_toArray]; omega) (by omega)) ⟨e, e2, ?_⟩
  refine ⟨.non, _, I.lset (its' := its ++ its2) hH e (by simp) (r.append r2) ?_, rfl, q⟩
  rw [List.length_append]
  omega
def rCat : R2 := fun x y H Q => ∃ l b xs zs, x = .ref l ∧ y = .ref b ∧ H l = some (.lst xs) ∧ H b = some (.lst zs) ∧ xs.length + zs.length ≤ sizeLine ∧ ∀ p, H p = none → Q (.ref p) (upd H p (.lst (xs ++ zs)))
theorem op_cat : OpR X (binaryOp .Add) rCat := by
  intro pins s σ H x y v u Q I rx ry h
  obtain ⟨l, b, xs, zs, rfl, rfl, hH, hB, hz, q⟩ := h
  cases rx
  cases ry
  obtain ⟨z, its, n, r, hl, e⟩ := I.lstM hH
  obtain ⟨z2, its2, n2, r2, hl2, e2⟩ := I.lstM hB
  refine PySem.P.add_list e e2 ?_ (by rw [List.size_toArray, List.size_toArray]; omega)
  have ea : its.toArray ++ its2.toArray = (its ++ its2).toArray := by simp
  rw [ea]
  exact ⟨.ref _, _, I.lnew (t' := s.toks) (r.append r2) (by rw [List.length_append]; omega), rfl, q _ I.fresh⟩
def rRep : R2 := fun x y H Q => ∃ l k xs, x = .ref l ∧ y = .int k ∧ H l = some (.lst xs) ∧ -(2 ^ 63) ≤ k ∧ k < 2 ^ 63 ∧ xs.length * k.toNat ≤ sizeLine ∧
  ∀ p, H p = none → Q (.ref p) (upd H p (.lst (List.replicate k.toNat xs).flatten))
theorem len_rep {α : Type} (xs : List α) (k : Nat) : (List.replicate k xs).flatten.length = k * xs.length := by
  induction k with
  | zero => simp
  | succ k ih => rw [List.replicate_succ, List.flatten_cons, List.length_append, ih, Nat.succ_mul, Nat.add_comm]
theorem op_rep : OpR X (binaryOp .Mult) rRep := by
  intro pins s σ H x y v u Q I rx ry h
  obtain ⟨l, k, xs, rfl, rfl, hH, h1, h2, hz, q⟩ := h
  cases rx
  obtain ⟨t, rfl⟩ := ry
  obtain ⟨z, its, n, r, hl, e⟩ := I.lstM hH
  have hlen : its.toArray.size * k.toNat ≤ sizeLine := by rw [List.size_toArray, ← hl]; exact hz
  have hcap : ¬ its.toArray.size * k.toNat > (2 ^ 63 - 1) / 8 := by
    have : (sizeLine : Nat) ≤ (2 ^ 63 - 1) / 8 := by decide
    omega
  have hfit : ¬ (!Builtin.List.listFitsIndex k) = true := by
    rw [fitsIndex_both h1 h2]
    exact Bool.false_ne_true
  have hlong : ¬ Builtin.List.listTooLong (its.toArray.size * k.toNat) = true := by
    rw [notLongL hlen]
    exact Bool.false_ne_true
  have hnew : List.foldl (fun x1 x2 => x1 ++ x2) #[] (List.replicate (if its.toArray.isEmpty = true then 0 else k.toNat) its.toArray) = (List.replicate k.toNat its).flatten.toArray := by
    have f0 : ∀ m : Nat, List.foldl (fun x1 x2 => x1 ++ x2) #[] (List.replicate m its.toArray) = (List.replicate m its).flatten.toArray := fun m => by
      have := foldl_rep its m []
      rw [List.nil_append] at this
      exact this
    rw [f0]
    cases its with
    | nil => simp
    | cons a r' => rw [if_neg (by simp)]
  refine wpAny_binaryOp_repeat_ref (T := "list") (U := "int") (by decide) ⟨_, e, rfl⟩ (fun s' => typeIs_int s' k t) noFill_list_mul F.fills_int_mul F.slot_int_rmul repeat_list F.slot_int_index.lookup
    (call_meets F.slot_int_rmul (typeIs_int s k t) F.entry_int_rmul (F.args_int_rmul_2 _ _) (int___rmul___int_list k t l its.toArray n)
      ⟨e, rfl, ⟨_, e, rfl⟩, call_meets F.slot_list_mul ⟨_, e, rfl⟩ F.entry_list_mul (F.args_list_mul_2 _ _) (AutoListH.list___mul___list_int_3 l its.toArray n k t hfit hcap hlong) ⟨e, ?_⟩⟩)
  rw [hnew]
  exact ⟨.ref _, _, I.lnew (t' := s.toks) (r.rep k.toNat) (by rw [len_rep, Nat.mul_comm]; exact hz), rfl, q _ I.fresh⟩
end
end L2
namespace Att
open PySem PySem.W PySem.Calls PyProof.Rows
theorem ints_of_wellAll {P : Params} {h : Heap} : ∀ (ns : List Int) (vs : List Value), WellAll P h vs (ns.map WData.int) → IntsAre vs ns := by
  intro ns
  induction ns with
  | nil =>
    intro vs w
    rw [List.map_nil] at w
    cases w
    exact .nil
  | cons n ns ih =>
    intro vs w
    rw [List.map_cons] at w
    cases w with
    | cons a b =>
      cases a
      exact .cons _ _ (ih _ b)
theorem script_of {l : OpenLaw} {n : Nat} (hn : l.most = some n) {P : Params} {h : Heap} {args : List WData} {vals : List Value}
    (hpre : l.row.toRowW.claim.pre args = true) (hwl : WellAll P h vals args) :
    ∃ a vs ns, vals = [Value.ref a] ∧ args = [WData.list (ns.map WData.int)] ∧ h.get? a = some { cls := .type "list", data := .seq vs.toArray } ∧ IntsAre vs ns ∧ ns.length ≤ n := by
  have hsh : WShape.hasAll [] args [.list .int] = true := (pre_splitW hpre).1
  have hc : l.pre.holds [] { args := args } = true := (pre_splitW hpre).2
  obtain ⟨d, r, rfl, h1, h2⟩ := hasAllW_cons hsh
  obtain rfl := hasAllW_nil h2
  obtain ⟨xs, rfl, h3⟩ := hasW_list h1
  obtain ⟨ns, rfl⟩ := items_int h3
  have hlen : ns.length ≤ n := by
    unfold OpenLaw.pre at hc
    have h4 : (WTm.not (.lt (.lit (.int (n : Int))) (.len (.arg 0)))).holds [] { args := [.list (ns.map .int)] } = true := by
      have h4 := (holds_andW hc).1
      rw [hn] at h4
      exact h4
    have h5 := condW_of h4 (w_not (w_lt w_lit (w_len_list (w_arg rfl))))
    rw [List.length_map] at h5
    refine Nat.le_of_not_lt fun q => ?_
    have q' : (n : Int) < ((ns.length : Nat) : Int) := by omega
    first
      | (rw [decide_eq_true q'] at h5; exact absurd h5 (by decide))
      | (simp at h5; omega)
  cases hwl with
  | cons w1 w2 =>
    cases w2
    cases w1 with
    | list ho hall => exact ⟨_, _, ns, rfl, rfl, ho, ints_of_wellAll ns _ hall, hlen⟩
theorem post_true (l : OpenLaw) (args : List WData) : l.row.toRowW.claim.post args (.bool true) args = true :=
  postW_of (r := l.row.toRowW) (X := (true == true))
    (show WShape.has [] (.bool true) .bool = true by first | rfl | decide | simp [WShape.has, WShape.arms, WShape.armsAll])
    (show (WTm.eq .res (.lit (.bool true))).value [] { args := args, res := some (.bool true), after := args } = some (.bool (true == true)) from w_eq_bool (w_res rfl) w_lit) rfl
theorem attach_call {l : OpenLaw} {n : Nat} {q : Program} {loose : List Str} {XP : (Str → Option Value) → Heap → Prop} {YP : World → Heap → Prop} {d : DefRec}
    (hn : l.most = some n) (hdf : d.params.defaults = [])
    (call : ∀ (w : World) (s₀ s₁ : Shared) (mg mb : Str → Option Value) (fa : Addr) (o : Obj) (pm cd doc : Value) (a : Addr) (vs : List Value) (ns : List Int),
      Ground q loose [] XP w s₀ mg mb s₁.heap → YP w s₁.heap →
      s₁.heap.get? fa = some o → o.data = .func (docDef d.name d.params d.body d.scope pm cd doc) → s₁.heap.CodeRec cd d.name → mg d.name = some (.ref fa) →
      s₁.heap.get? a = some { cls := .type "list", data := .seq vs.toArray } → IntsAre vs ns → ns.length ≤ n → s₁.gens = #[] →
      codeAny (model l.prog w) callerA (.call (.ref fa) ⟨[.ref a], []⟩) (fun r s' => r = .ok (.ret (.bool true)) ∧ OldK s₁.heap s'.heap ∧ s'.os = s₁.os ∧ AllBare s'.gens) s₁) :
    WalkO q loose XP YP l.row.toRowW d [] (fun f vs => PySem.call f vs) := by
  intro w s₀ s₁ mg mb G Y fa o pm cd doc dV kV ho hd hcd hD hmg hg args vals as hpre hlay hrd hwl hlo
  obtain rfl : dV = .none := Dflts.none hD hdf
  obtain rfl : kV = .none := Dflts.noKw hD
  obtain ⟨a, vs, ns, rfl, rfl, hobj, hints, hlen⟩ := script_of hn hpre hwl
  refine enter_call (codeAny_mono (call w s₀ s₁ mg mb fa o pm cd doc a vs ns G Y ho (fd_plain hd) hcd hmg hobj hints hlen hg) fun r s' hq => ?_)
  obtain ⟨rfl, h2, h3, h4⟩ := hq
  exact ⟨.inl ⟨.bool true, .bool true, [], rfl, fun _ => rfl, .bool true, post_true l _, fun _ => ⟨List.Pairwise.nil, fun _ hm => (nomatch hm)⟩⟩, h2, h3, h4⟩
end Att
namespace L2
open PySem PySem.Spec PyProof.Rows
theorem vals_ints : ∀ {vs : List Value} {ns : List Int}, IntsAre vs ns → Vals (ns.map V.int) vs
  | _, _, .nil => .nil
  | _, _, .cons n t h => .cons ⟨t, rfl⟩ (vals_ints h)
def Only (H : Hp) : Prop := ∀ b, H b = none ∨ ∃ o xs, H b = some (.frz o (.lst xs))
theorem law_call {P : Program} {w : World} {K : PySem.W.Frag} {mg mb : Str → Option Value} {CX : CXT} {k : Nat} {fa a : Addr} {fd : FuncData} {x : Str} {sp : Sp} {s₁ : Shared} {vs : List Value} {ns : List Int}
    (KX : K.In s₁.heap) (hns : s₁.heap.Ns mainGlobals mg) (hb : s₁.heap.Ns builtinsNs mb) (hbb : ∀ x : Str, x ≠ "__name__" → mb x = bootBuiltins x) (hlim : s₁.heap.NoLimit) (hg : s₁.gens = #[])
    (ha : s₁.heap.get? a = some { cls := .type "list", data := .seq vs.toArray }) (hi : IntsAre vs ns) (hl : ns.length ≤ sizeLine) (hr : Room k callerA)
    (F : ∀ base : Heap, K.In base → base.Ns mainGlobals mg → FnOk P w K mg base CX k fa fd [x] sp) (hbind : ∀ (s : Shared) (u : Value), BindsTo s fd ⟨[u], []⟩ [(x, u)])
    (hsp : ∀ H : Hp, Only H → SqL K H a (ns.map V.int) → sp [.ref a] H (fun v _ => v = .bl true) fun _ _ _ => False)
    (hCX : ∀ H e s', CX [] H s₁ (fun _ _ _ => False) e s' → False) (hloc : fd.scope.names.lookup x = some .local) :
    codeAny (model P w) callerA (.call (.ref fa) ⟨[.ref a], []⟩) (fun r s' => r = .ok (.ret (.bool true)) ∧ OldK s₁.heap s'.heap ∧ s'.os = s₁.os ∧ AllBare s'.gens) s₁ := by
  have rv := vals_ints hi
  have lenV := hi.length
  -- from an abstract heap in which nothing but the script may be tracked
  have core : ∀ H : Hp, Only H → SqL K H a (ns.map V.int) → HOk P w H s₁.heap → (∀ b, H b ≠ none → b = a) → (H a ≠ none → K.lookup a = none) →
      codeAny (model P w) callerA (.call (.ref fa) ⟨[.ref a], []⟩) (fun r s' => r = .ok (.ret (.bool true)) ∧ OldK s₁.heap s'.heap ∧ s'.os = s₁.os ∧ AllBare s'.gens) s₁ := by
    intro H hO hS hok hA hK
    have base_of : ∀ {b : Addr} {o : Obj}, s₁.heap.get? b = some o → H b = none → (hidT s₁.heap H).get? b = some o := fun e n => hidT_get e n
    have noA : ∀ {b : Addr} {o : Obj} {es : Array DictEntry} {ep : Nat}, s₁.heap.get? b = some o → o.data = .dict es ep → H b = none := fun {b o es ep} e d => by
      cases q : H b with
      | none => rfl
      | some u =>
        have e' : b = a := hA b (by rw [q]; simp)
        subst e'
        rw [ha] at e; cases e
        have d' : Data.seq vs.toArray _ = Data.dict es ep := d
        cases d'
    have nsK : ∀ {b : Addr} {m : Str → Option Value}, s₁.heap.Ns b m → (hidT s₁.heap H).Ns b m := fun {b m} ⟨o, es, ep, e, d, r⟩ => ⟨o, es, ep, base_of e (noA e d), d, r⟩
    have hKb : K.In (hidT s₁.heap H) := fun b o e => base_of (KX b o e) (by
      cases q : H b with
      | none => rfl
      | some u =>
        have e' : b = a := hA b (by rw [q]; simp)
        subst e'
        rw [hK (by rw [q]; simp)] at e; cases e)
    have hM : Mod K mg (hidT s₁.heap H) := ⟨hKb, nsK hns, ⟨mb, nsK hb, hbb⟩, let ⟨mc, h1, h2⟩ := hlim; ⟨mc, nsK h1, h2⟩⟩
    have e0 : Env0 P w K mg (hidT s₁.heap H) callerA [] s₁ H := ⟨rfl, hM, fun b o e => of_hidT e, Nat.le_of_eq (hidT_size _ _), trivial, fun b hb => absurd (show b ∈ ([] : List Addr) from hb) (by simp), hok, .of_eq hg⟩
    refine codeAny_mono ((F _ hKb (nsK hns)).run callerA [] s₁ H ⟨[.ref a], []⟩ [.ref a] [.ref a] _ _ hr e0 (hbind s₁ (.ref a)) (.cons rfl .nil) (hsp H hO hS) (.inr ⟨x, [], rfl, hloc⟩)) fun r s' h => ?_
    cases r with
    | error e => exact (hCX H e s' h).elim
    | ok fl =>
      cases fl with
      | next => exact False.elim h
      | brk => exact False.elim h
      | cont => exact False.elim h
      | ret u =>
        obtain ⟨v, H', os, bare, un, hok', r', q⟩ := h
        have q' : v = .bl true := q
        subst q'
        obtain rfl : u = Value.bool true := r'
        refine ⟨rfl, OldK.of_keep fun b o e => ?_, os, bare⟩
        cases q : H b with
        | none => exact un.keep b o e q (by intro z; exact absurd (show b ∈ ([] : List Addr) from z) (by simp)) (by simp)
        | some u =>
          rcases hO b with z | ⟨ob, xs, z⟩
          · rw [q] at z; cases z
          · have z2 := un.frzs b ob _ z
            obtain ⟨e1, _⟩ := hok b _ z
            obtain ⟨e2, _⟩ := hok' b _ z2
            rw [e] at e1; cases e1
            exact e2
  cases hk : K.lookup a with
  | some o =>
    -- the script is one of the module's own objects
    have e := KX a o hk
    rw [ha] at e
    cases e
    refine core (fun _ => none) (fun _ => .inl rfl) (.inr ⟨_, vs.toArray, _, hk, rfl, rfl, rfl, by rw [List.size_toArray, lenV]; exact hl, by simpa using rv⟩) (fun b u z => by have z' : (none : Option HO) = some u := z; cases z') (fun b z => absurd rfl z) fun z => absurd rfl z
  | none =>
    refine core (fun b => if b = a then some (.frz { cls := .type "list", data := .seq vs.toArray } (.lst (ns.map V.int))) else none) (fun b => ?_) (.inl (.inr ⟨{ cls := .type "list", data := .seq vs.toArray }, if_pos rfl⟩)) (fun b u z => ?_) (fun b z => ?_) fun _ => hk
    · by_cases hb : b = a
      · exact .inr ⟨_, _, if_pos hb⟩
      · exact .inl (if_neg hb)
    · by_cases hb : b = a
      · have z' := (if_pos hb).symm.trans z
        cases z'
        subst hb
        exact ⟨ha, by rw [List.length_map]; exact hl, vs, _, rv, ha⟩
      · have z' := (if_neg hb).symm.trans z
        cases z'
    · by_cases hb : b = a
      · exact hb
      · exact absurd (if_neg hb) z
end L2
namespace L2
open PySem PySem.Spec PyProof.Rows
abbrev KOf {K : PySem.W.Frag} {h : Heap} (_ : K.In h) : PySem.W.Frag := K
theorem walk_of {l : PySem.W.OpenLaw} {n k : Nat} {q : Program} {loose : List Str} {XP : (Str → Option Value) → Heap → Prop} {YP : World → Heap → Prop} {d : DefRec} {K : Params → PySem.W.Frag} {CX : World → CXT} {sp : World → Sp} {x : Str}
    (hn : l.most = some n) (hn2 : n ≤ sizeLine) (hdf : d.params.defaults = []) (hr : Room k callerA)
    (hY : ∀ (w : World) (h : Heap), YP w h → (K w.params).In h)
    (F : ∀ (w : World) (mg : Str → Option Value) (fa : Addr) (h : Heap), (K w.params).In h → h.Ns mainGlobals mg → mg d.name = some (.ref fa) →
      ∃ fd : FuncData, ((∀ (s : Shared) (u : Value), BindsTo s fd ⟨[u], []⟩ [(x, u)]) ∧ fd.scope.names.lookup x = some .local) ∧
        ∀ base : Heap, (K w.params).In base → base.Ns mainGlobals mg → FnOk l.prog w (K w.params) mg base (CX w) k fa fd [x] (sp w))
    (hsp : ∀ (w : World) (H : Hp) (a : Addr) (ns : List Int), ns.length ≤ n → Only H → SqL (K w.params) H a (ns.map V.int) → sp w [.ref a] H (fun v _ => v = .bl true) fun _ _ _ => False)
    (hCX : ∀ (w : World) (H : Hp) (s : Shared) (e : Value) (s' : Shared), CX w [] H s (fun _ _ _ => False) e s' → False) :
    PySem.W.WalkO q loose XP YP l.row.toRowW d [] (fun f vs => PySem.call f vs) := by
  refine Att.attach_call hn hdf fun w s₀ s₁ mg mb fa o pm cd doc a vs ns G Y ho hd hcd hmg hobj hints hlen hg => ?_
  have KX := hY w _ Y
  obtain ⟨fd, ⟨hb, hloc⟩, hF⟩ := F w mg fa _ KX G.T.g hmg
  exact law_call KX G.T.g G.T.b G.T.builtins G.T.nolimit hg hobj hints (Nat.le_trans hlen hn2) hr hF hb (fun H hO hS => hsp w H a ns hlen hO hS) (fun H e s' => hCX w H s₁ e s') hloc
end L2
namespace L2
open PySem PySem.Spec PyProof.Rows
def inClass (s : Stmt) (j : Nat) : Stmt := match s with
  | .ClassDef _ _ _ body _ _ _ _ _ _ _ => body.getD j (.Pass ⟨0, 0, 0, 0⟩)
  | _ => .Pass ⟨0, 0, 0, 0⟩
def defArgs (s : Stmt) : Arguments := match s with
  | .FunctionDef _ a _ _ _ _ _ _ _ _ => a
  | _ => { posonlyargs := [], args := [], vararg := none, kwonlyargs := [], kw_defaults := [], kwarg := none, defaults := [] }
def defBody (s : Stmt) : List Stmt := match s with
  | .FunctionDef _ _ b _ _ _ _ _ _ _ => b
  | _ => []
def defScope (s : Stmt) : Scope := match s with
  | .FunctionDef _ _ _ _ _ _ sc _ _ _ => sc
  | _ => { kind := .function, names := [], isGenerator := false, isCoroutine := false }
abbrev E0 : XK := fun _ _ _ => False
structure Fun (K : PySem.W.Frag) (x qual : Str) (st : Stmt) (f : Addr) (fd : FuncData) : Prop where
  ex : ∃ (oc : Value) (od : Option Addr) (kV doc pm : Value) (an : Option Addr) (cdv ct : Value) (osl : Array (Option Value)),
    fd = PySem.W.fnOf x qual (defArgs st) (defBody st) (defScope st) .none kV doc pm an cdv ct ∧ K.lookup f = some ⟨oc, od, .func fd, osl⟩ ∧ PySem.W.codeIn K cdv qual = true
  kp : PySem.W.keepIn K (.ref f) = true
section
variable {P : Program} {w : World} {K : PySem.W.Frag} {mg : Str → Option Value} {base : Heap}
theorem Fun.binds {x qual : Str} {st : Stmt} {f : Addr} {fd : FuncData} {ps : List Str} (F : Fun K x qual st f fd)
    (h : ∀ (kV doc pm : Value) (an : Option Addr) (cdv ct : Value) (us : List Value), us.length = ps.length → bindArgs (PySem.W.fnOf x qual (defArgs st) (defBody st) (defScope st) .none kV doc pm an cdv ct) ⟨us, []⟩ = pure (ps.zip us)) : Binds K fd ps [] := by
  obtain ⟨oc, od, kV, doc, pm, an, cdv, ct, osl, rfl, lk, hcd⟩ := F.ex
  exact .all (h kV doc pm an cdv ct)
theorem fun_mk {x qual : Str} {st : Stmt} {f : Addr} {oc : Value} {od an : Option Addr} {osl : Array (Option Value)} {kV doc pm cdv ct : Value} (l : K.lookup f = some ⟨oc, od, .func (PySem.W.fnOf x qual (defArgs st) (defBody st) (defScope st) .none kV doc pm an cdv ct), osl⟩)
    (c : PySem.W.codeIn K cdv qual = true) (k : PySem.W.keepIn K (.ref f) = true) : Fun K x qual st f (PySem.W.fnOf x qual (defArgs st) (defBody st) (defScope st) .none kV doc pm an cdv ct) := ⟨⟨oc, od, kV, doc, pm, an, cdv, ct, osl, rfl, l, c⟩, k⟩
end
theorem small1000 {n : Nat} (h : n ≤ 1000) : n < sizeLine := Nat.lt_of_le_of_lt h (by decide)
section
variable {X : Cx}
theorem pv (i : Nat) {x : Str} {pos : Pos} (hN : X.N[i]? = some x := by rfl) (hv : Vis X.env.scope x := by first | exact Or.inl rfl | exact Or.inr (Or.inl rfl) | exact Or.inr (Or.inr rfl)) (hd : (x == ("__debug__" : Str)) = false := by decide)
    (hcd : (x == ("__classdict__" : Str)) = false := by decide) : PE X (.Name x pos) (tVar i) := pe_var hN hv hd hcd
end
theorem iteF {A B : Prop} (h : B) : if false = true then A else B := by
  rw [if_neg Bool.false_ne_true]
  exact h
theorem iteT {A B : Prop} (h : A) : if true = true then A else B := by
  rw [if_pos rfl]
  exact h
theorem ite2 {c A B : Prop} [Decidable c] (h1 : c → A) (h2 : ¬ c → B) : if c then A else B := by
  by_cases h : c
  · rw [if_pos h]
    exact h1 h
  · rw [if_neg h]
    exact h2 h
theorem iteNS {c A B : Prop} [Decidable c] (hc : c) (h : B) : if (!decide c) = true then A else B := by
  rw [decide_eq_true hc]
  exact iteF h
def Same (H H' : Hp) : Prop := ∀ b o, H b = some o → H' b = some o
theorem Same.refl (H : Hp) : Same H H := fun _ _ h => h
theorem Same.trans {H H1 H2 : Hp} (a : Same H H1) (b : Same H1 H2) : Same H H2 := fun c o h => b c o (a c o h)
theorem Same.free {H H' : Hp} (e : Same H H') {l : Addr} (h : H' l = Option.none) : H l = Option.none := by
  cases q : H l with
  | none => rfl
  | some o =>
    rw [e l o q] at h
    cases h
theorem Same.seq {K : PySem.W.Frag} {H H' : Hp} {a : Addr} {xs : List V} (e : Same H H') (h : SqL K H a xs) : SqL K H' a xs := by
  rcases h with (h | ⟨o, h⟩) | h
  · exact .inl (.inl (e _ _ h))
  · exact .inl (.inr ⟨o, e _ _ h⟩)
  · exact .inr h
end L2
namespace L2
open PySem PySem.Spec PyProof.Rows
section
variable {X : Cx}
def CDivW (_ j : Int) : Prop := j ≠ 0 ∧ j.natAbs.log2 < 9000
theorem op_fdivW : OpR X (binaryOp .FloorDiv) (rI CDivW fun i j => .int (i.fdiv j)) := opI fun _ _ _ _ _ _ _ hc q => floordiv_int hc.1 q (.inl (PyProof.noPylong_of_log2 hc.2))
theorem bits_le {i : Int} {k : Nat} (h : i.natAbs < 2 ^ k) : Builtin.Int.intBits i ≤ k := by
  unfold Builtin.Int.intBits
  split
  · exact Nat.zero_le _
  · rename_i z
    have z' : i.natAbs ≠ 0 := fun e => z (beq_iff_eq.mpr (Int.natAbs_eq_zero.mp e))
    exact (Nat.log2_lt z').mpr h
def CMulW (i j : Int) : Prop := i.natAbs < 2 ^ 10000 ∧ j.natAbs < 2 ^ 10000
theorem CMulW.ok {i j : Int} (h : CMulW i j) : IntMulOk i j := .of_bits (Nat.le_trans (bits_le h.1) (by decide)) (Nat.le_trans (bits_le h.2) (by decide))
theorem op_mulW : OpR X (binaryOp .Mult) (rI CMulW fun i j => .int (i * j)) := opI fun _ _ _ _ _ _ _ hc q => mul_int q hc.ok
end
mutual
inductive DV (K : PySem.W.Frag) (H : Hp) : V → PyData → Prop
  | non : DV K H .non .none
  | bl (b : Bool) : DV K H (.bl b) (.bool b)
  | int (i : Int) : DV K H (.int i) (.int i)
  | str (x : Str) : DV K H (.str x) (.str x)
  | lst {a : Addr} {xs : List V} {ds : List PyData} : SqL K H a xs → DVs K H xs ds → DV K H (.ref a) (.list ds)
  | tup {a : Addr} {xs : List V} {ds : List PyData} : SqT K H a xs → DVs K H xs ds → DV K H (.ref a) (.tuple ds)
  | dct {a : Addr} {kvs : List (Key × V)} : H a = some (.dK kvs) → DV K H (.ref a) (.dict [])
inductive DVs (K : PySem.W.Frag) (H : Hp) : List V → List PyData → Prop
  | nil : DVs K H [] []
  | cons {v : V} {vs : List V} {d : PyData} {ds : List PyData} : DV K H v d → DVs K H vs ds → DVs K H (v :: vs) (d :: ds)
end
section
variable {X : Cx} {pins : List (Addr × Obj)} {σ : St} {H : Hp} {s : Shared}
mutual
theorem DV.reads (I : Inv X pins σ H s) : ∀ {v : V} {d : PyData}, DV X.K H v d → d.canLay0 = true → ∀ {u : Value}, RelV v u → ∃ as, Reads s.heap u d as
  | _, _, .non, _, _, r => by cases r; exact ⟨_, .none⟩
  | _, _, .bl b, _, _, r => by cases r; exact ⟨_, .bool b⟩
  | _, _, .int i, _, _, r => by obtain ⟨t, rfl⟩ := r; exact ⟨_, .int i t⟩
  | _, _, .str x, _, _, r => by obtain ⟨t, rfl⟩ := r; exact ⟨_, .str x t⟩
  | _, _, .lst h q, c, _, r => by
    cases r
    obtain ⟨its, rv, pl, _⟩ := I.list h
    obtain ⟨as, ra⟩ := DVs.reads I q c rv
    obtain ⟨o, ho, hc, n, hd⟩ := id pl.isList
    exact ⟨_, .list ho hc hd ra⟩
  | _, _, .tup h q, c, _, r => by
    cases r
    obtain ⟨its, rv, pl, _⟩ := I.tuple h
    obtain ⟨as, ra⟩ := DVs.reads I q c rv
    obtain ⟨o, ho, hc, n, hd⟩ := id pl
    exact ⟨_, .tuple ho hc hd ra⟩
  | _, _, .dct h, c, _, r => nomatch c
theorem DVs.reads (I : Inv X pins σ H s) : ∀ {vs : List V} {ds : List PyData}, DVs X.K H vs ds → PyData.canLayAll0 ds = true → ∀ {us : List Value}, Vals vs us → ∃ as, ReadsAll s.heap us ds as
  | _, _, .nil, _, _, r => by cases r; exact ⟨_, .nil⟩
  | _, _, .cons h q, c, _, r => by
    rw [PyData.canLayAll0] at c
    cases r with
    | cons r1 r2 =>
      obtain ⟨a1, z1⟩ := DV.reads I h (Bool.and_eq_true_iff.mp c).1 r1
      obtain ⟨a2, z2⟩ := DVs.reads I q (Bool.and_eq_true_iff.mp c).2 r2
      exact ⟨_, .cons z1 z2⟩
end
end
section
variable {X : Cx}
def rEqD (K : PySem.W.Frag) : R2 := fun x y H Q => ∃ d e, DV K H x d ∧ DV K H y e ∧ SeqAt.shaped d = true ∧ SeqAt.shaped e = true ∧ Q (.bl (PyData.eqv d e)) H
def rNeD (K : PySem.W.Frag) : R2 := fun x y H Q => ∃ d e, DV K H x d ∧ DV K H y e ∧ SeqAt.shaped d = true ∧ SeqAt.shaped e = true ∧ Q (.bl (!PyData.eqv d e)) H
theorem op_eqD (hu : X.A.units + 64 < cLine) : OpR X (compareOp .Eq) (rEqD X.K) := by
  intro pins s σ H x y v u Q I rx ry h
  obtain ⟨d, e, hd, he, sd, se, q⟩ := h
  obtain ⟨a1, r1⟩ := hd.reads I (SeqAt.canLay_of_shaped sd) rx
  obtain ⟨a2, r2⟩ := he.reads I (SeqAt.canLay_of_shaped se) ry
  exact eq_dataH r1 r2 sd se hu ⟨.bl _, H, I, rfl, q⟩
theorem op_neD (hu : X.A.units + 64 < cLine) : OpR X (compareOp .NotEq) (rNeD X.K) := by
  intro pins s σ H x y v u Q I rx ry h
  obtain ⟨d, e, hd, he, sd, se, q⟩ := h
  obtain ⟨a1, r1⟩ := hd.reads I (SeqAt.canLay_of_shaped sd) rx
  obtain ⟨a2, r2⟩ := he.reads I (SeqAt.canLay_of_shaped se) ry
  exact ne_dataH r1 r2 sd se hu ⟨.bl _, H, I, rfl, q⟩
end
section
variable {X : Cx} {pos : Pos}
theorem Inv.big2 {pins : List (Addr × Obj)} {σ : St} {H : Hp} {s : Shared} (I : Inv X pins σ H s) : sysModules < s.heap.objs.size := by
  have h : mainGlobals < s.heap.objs.size := (I.mod.glob.keeps I.bk).lt
  exact Nat.lt_trans (by decide) h
end
structure TopFn (K : PySem.W.Frag) (mg : Str → Option Value) (x : Str) (st : Stmt) : Prop where
  ex : ∃ (f : Addr) (fd : FuncData), Fun K x x st f fd ∧ mg x = some (.ref f)
theorem same_new {H : Hp} {p : Addr} (h : H p = none) (o : HO) : Same H (upd H p o) := fun b u q => by rw [upd_ne (ne_of_none q h)]; exact q
end L2
namespace L2
open PySem PySem.Spec PyProof.Rows
theorem bt_int : bootBuiltins "int" = some (.type "int") := by decide +kernel
theorem bt_bool : bootBuiltins "bool" = some (.type "bool") := by decide +kernel
theorem bt_tuple : bootBuiltins "tuple" = some (.type "tuple") := by decide +kernel
theorem bt_str : bootBuiltins "str" = some (.type "str") := by decide +kernel
theorem bt_len : bootBuiltins "len" = some (.builtin "len") := by decide +kernel
theorem bt_abs : bootBuiltins "abs" = some (.builtin "abs") := by decide +kernel
theorem bt_all : bootBuiltins "all" = some (.builtin "all") := by decide +kernel
theorem bt_isinstance : bootBuiltins "isinstance" = some (.builtin "isinstance") := by decide +kernel
def bsub (t T : String) : Option Bool := if (Value.type t == Value.type T) = true then some true else if PySem.W.kitMeta T = true then (fastBuiltinMro t).map (·.contains (Value.type T)) else none
theorem kit_b {K : PySem.W.Frag} {t T : String} {b : Bool} (h : bsub t T = some b) : PySem.W.kitOne K (.type t) (.type T) = some b := h
theorem topFn_mk {K : PySem.W.Frag} {h : Heap} {mg : Str → Option Value} {x : Str} {st : Stmt} {f : Addr} {oc : Value} {od an : Option Addr} {sl : Array (Option Value)} {kV dc pm cd ct : Value} (X : K.In h) (G : h.Ns mainGlobals mg)
    (a : PySem.W.nsIn K mainGlobals x = some (some (.ref f))) (l : K.lookup f = some ⟨oc, od, .func (PySem.W.fnOf x x (defArgs st) (defBody st) (defScope st) .none kV dc pm an cd ct), sl⟩) (c : PySem.W.codeIn K cd x = true) (k : PySem.W.keepIn K (.ref f) = true) : TopFn K mg x st :=
  ⟨f, _, fun_mk l c k, PySem.W.mg_of X G a⟩
section
variable {X : Cx} {es : List Expr} {te : TE} {t : TA}
theorem pa_const {c : Const} {j : Nat} {p : Pos} (ha : PE X (.Constant c j p) te) (hr : PA X es t) : PA X (.Constant c j p :: es) (tCons te t) := pa_cons ha hr (by rfl)
theorem pa_name {x : Str} {p : Pos} (ha : PE X (.Name x p) te) (hr : PA X es t) : PA X (.Name x p :: es) (tCons te t) := pa_cons ha hr (by rfl)
theorem pa_list {xs : List Expr} {p : Pos} (ha : PE X (.List xs p) te) (hr : PA X es t) : PA X (.List xs p :: es) (tCons te t) := pa_cons ha hr (by rfl)
theorem pa_tuple {xs : List Expr} {k : Nat} {p : Pos} (ha : PE X (.Tuple xs k p) te) (hr : PA X es t) : PA X (.Tuple xs k p :: es) (tCons te t) := pa_cons ha hr (by rfl)
theorem pa_dict {ks : List (Option Expr)} {vs : List Expr} {p : Pos} (ha : PE X (.Dict ks vs p) te) (hr : PA X es t) : PA X (.Dict ks vs p :: es) (tCons te t) := pa_cons ha hr (by rfl)
theorem pa_call {f : Expr} {as : List Expr} {kw : List Keyword} {p : Pos} (ha : PE X (.Call f as kw p) te) (hr : PA X es t) : PA X (.Call f as kw p :: es) (tCons te t) := pa_cons ha hr (by rfl)
theorem pa_bin {a : Expr} {o : Operator} {b : Expr} {p : Pos} (ha : PE X (.BinOp a o b p) te) (hr : PA X es t) : PA X (.BinOp a o b p :: es) (tCons te t) := pa_cons ha hr (by rfl)
theorem pa_cmp {a : Expr} {os : List CmpOp} {bs : List Expr} {p : Pos} (ha : PE X (.Compare a os bs p) te) (hr : PA X es t) : PA X (.Compare a os bs p :: es) (tCons te t) := pa_cons ha hr (by rfl)
theorem pa_sub {a b : Expr} {p : Pos} (ha : PE X (.Subscript a b p) te) (hr : PA X es t) : PA X (.Subscript a b p :: es) (tCons te t) := pa_cons ha hr (by rfl)
theorem pa_if {a b c : Expr} {p : Pos} (ha : PE X (.IfExp a b c p) te) (hr : PA X es t) : PA X (.IfExp a b c p :: es) (tCons te t) := pa_cons ha hr (by rfl)
end
end L2
namespace L2
open PySem PySem.Spec PyProof.Rows
theorem dict_mf (o : Obj) (f : Array Value → Array Value) : (o.mapFields f).dict = o.dict := by
  obtain ⟨c, d, dt, sl⟩ := o; cases dt <;> rfl
inductive Chn (h : Heap) : Value → Prop
  | none : Chn h .none
  | ref {b : Addr} {o : Obj} {vs : Array Value} {cx : Value} : h.get? b = some o → o.data = .fields vs → vs[2]? = some cx → Chn h cx → Chn h (.ref b)
theorem Chn.mono {h h' : Heap} (k : ∀ b o vs, h.get? b = some o → o.data = .fields vs → ∃ o' vs', h'.get? b = some o' ∧ o'.data = .fields vs' ∧ vs'[2]? = vs[2]?) {v : Value} (c : Chn h v) : Chn h' v := by
  induction c with
  | none => exact .none
  | ref e d t _ ih =>
    obtain ⟨o', vs', e', d', t'⟩ := k _ _ _ e d
    exact .ref e' d' (t'.trans t) ih
def Trc (base : Heap) (e : Addr) (c : Value) (d : Option Addr) (fl : Value) (h : Heap) : Prop :=
  ∃ (o oT : Obj) (vs ts : Array Value) (T : Addr), h.get? e = some o ∧ o.cls = c ∧ o.dict = d ∧ o.data = .fields vs ∧ vs[1]? = some (.ref T) ∧ base.get? T = none ∧ T ≠ e ∧ h.get? T = some oT ∧ oT.data = .fields ts ∧ ts[3]? = some fl ∧ ∃ cx, vs[2]? = some cx ∧ Chn h cx
def FlyD (base : Heap) (l : List Env) (e : Addr) (c : Value) (d : Option Addr) (fl : Value) (h : Heap) : Prop :=
  base.StaysIn h ∧ base.get? e = none ∧ h.FunFrames base l ∧ Trc base e c d fl h
theorem FlyD.there {base h : Heap} {l : List Env} {e : Addr} {c : Value} {d : Option Addr} {fl : Value} (x : FlyD base l e c d fl h) : ∃ ob, h.get? e = some ob ∧ ob.cls = c ∧ ob.dict = d ∧ ∃ vs, ob.data = .fields vs := by
  obtain ⟨_, _, _, o, _, vs, _, _, h1, h2, h3, h4, _⟩ := x
  exact ⟨o, h1, h2, h3, vs, h4⟩
theorem FlyD.pop {base h : Heap} {env : Env} {l : List Env} {e : Addr} {c : Value} {d : Option Addr} {fl : Value} (x : FlyD base (env :: l) e c d fl h) : FlyD base l e c d fl h := ⟨x.1, x.2.1, x.2.2.1.2.2, x.2.2.2⟩
section
variable {M : Model} {A : Around} {E : Value → Shared → Prop} {s : Shared} {base : Heap} {env : Env} {outer l : List Env} {L e : Addr} {c : Value} {d : Option Addr}
theorem note_new {o : Obj} {vs : Array Value} {head : Value} {hn : Bool} {Q : Unit → Shared → Prop} (hfr : A.frames = some (env :: outer)) (hf : env.frame = some L) (st : base.StaysIn s.heap) (ne : base.get? e = none)
    (fr : s.heap.FunFrames base (env :: outer)) (he : s.heap.get? e = some o) (hd : o.data = .fields vs) (hz : 1 < vs.size) (hcx : ∃ cx, vs[2]? = some cx ∧ Chn s.heap cx)
    (h : ∀ h', FlyD base (env :: outer) e o.cls o.dict (rawInt L) h' → s.heap.UpToSlots h' → Q () { s with heap := h' }) :
    wpAny M A (frameOf env >>= fun a => entryPlaceOf L hn >>= fun pl => EntryCells.newEntry head a .none (rawInt L) .none pl >>= fun b => setField (.ref e) 1 b) Q E s := by
  have eL : e ∉ (env :: outer).filterMap (·.frame) := fun m => by
    obtain ⟨_, u, hu, nf⟩ := fr.mem m
    rw [he] at hu; cases hu; exact nf vs hd
  refine wpAny_bind (wpAny_frameOf_fun hfr fr hf fun h1 so => wpAny_bind (wpAny_entryPlaceOf fun pl hp => ?_))
  have he1 : h1.get? e = some o := (so.2.1 e eL).trans he
  have Te : h1.objs.size ≠ e := Nat.ne_of_gt (Heap.lt_size he1)
  have st1 : base.StaysIn h1 := fun b u q => (so.2.1 b fun m => by rw [(fr.mem m).1] at q; cases q).trans (st b u q)
  have key : ∀ (oT : Obj) (ts : Array Value), oT.data = .fields ts → ts[3]? = some (rawInt L) → wpAny M A (setField (.ref e) 1 (.ref h1.objs.size)) Q E { s with heap := h1.push oT } := by
    intro oT ts dT t3
    have he2 := Heap.get?_push_of_some (h := h1) oT he1
    have hT2 : (h1.push oT).get? h1.objs.size = some oT := Heap.get?_push_size h1 (Obj.isFreed_of_fields dT)
    have oth : ∀ b u, b ≠ e → h1.get? b = some u → ((h1.push oT).update e (Obj.mapFields (·.setIfInBounds 1 (Value.ref h1.objs.size)))).get? b = some u := fun b u n q => by
      rw [Heap.get?_update_other _ _ (Ne.symm n)]; exact Heap.get?_push_of_some _ q
    have nrec : ∀ b u, s.heap.get? b = some u → (∀ xs, u.data ≠ .fields xs) → b ≠ e := fun b u q nf z => by
      subst z; rw [he] at q; cases q; exact nf vs hd
    refine wpAny_setField he2 hd hz (h _ ⟨fun b u q => oth b u (fun z => by rw [z, ne] at q; cases q) (st1 b u q), ne, fr.of_keeps fun b u q nf => ?_, _, oT, _, ts, h1.objs.size,
      Heap.get?_update_self _ he2 (Obj.isFreed_of_fields (Obj.data_mapFields hd _)), Obj.cls_mapFields _ _, dict_mf _ _, Obj.data_mapFields hd _, by simp [hz], st1.fresh, Te, ?_, dT, t3, ?_⟩ fun b u q nf => ?_)
    · obtain ⟨sl, z⟩ := so.2.2 b u q
      exact ⟨_, oth b _ (nrec b u q nf) z, rfl⟩
    · rw [Heap.get?_update_other _ _ (Ne.symm Te)]; exact hT2
    · obtain ⟨cx, c1, c2⟩ := hcx
      refine ⟨cx, by rw [Array.getElem?_setIfInBounds_ne (by decide)]; exact c1, c2.mono fun b u us q d => ?_⟩
      by_cases hb : b = e
      · subst hb
        rw [he] at q
        cases q
        rw [hd] at d
        cases d
        exact ⟨_, _, Heap.get?_update_self _ he2 (Obj.isFreed_of_fields (Obj.data_mapFields hd _)), Obj.data_mapFields hd _, Array.getElem?_setIfInBounds_ne (by decide)⟩
      · have nb : b ∉ (env :: outer).filterMap (·.frame) := fun m => by
          obtain ⟨_, u', hu, nf⟩ := fr.mem m
          rw [q] at hu; cases hu; exact nf us d
        exact ⟨u, us, oth b u hb ((so.2.1 b nb).trans q), d, rfl⟩
    · obtain ⟨sl, z⟩ := so.2.2 b u q
      exact ⟨sl, oth b _ (nrec b u q nf) z⟩
  unfold EntryCells.newEntry newFields; refine wpAny_bind (wpAny_newObj_type (key _ _ rfl ?_) (hp.sizeOk5 _ _ _ _ _))
  rcases hp with rfl | ⟨_, _, _, _, _, _, _, rfl⟩ <;> simp
theorem fl_none {fl : Value} {Q : Unit → Shared → Prop} (x : FlyD base l e c d fl s.heap) (h : ∀ h', FlyD base l e c d .none h' → s.heap.UpToSlots h' → Q () { s with heap := h' }) :
    wpAny M A (setFlight (.ref e) none) Q E s := by
  obtain ⟨st, ne, fr, o, oT, vs, ts, T, he, hc, hdd, hd, h1, nT, Te, hT, dT, h3, cx, c1, c2⟩ := x
  have z3 : 3 < ts.size := (Array.getElem?_eq_some_iff.mp h3).1
  have oth : ∀ b, b ≠ T → (s.heap.update T (Obj.mapFields (·.setIfInBounds 3 Value.none))).get? b = s.heap.get? b := fun b n => Heap.get?_update_other _ _ (Ne.symm n)
  have nrec : ∀ b u, s.heap.get? b = some u → (∀ xs, u.data ≠ .fields xs) → b ≠ T := fun b u q nf z => by
    subst z; rw [hT] at q; cases q; exact nf ts dT
  have kT : Chn (s.heap.update T (Obj.mapFields (·.setIfInBounds 3 Value.none))) cx := c2.mono fun b u us q d => by
    by_cases hb : b = T
    · subst hb
      rw [hT] at q
      cases q
      exact ⟨_, _, Heap.get?_update_self _ hT (Obj.isFreed_of_fields (Obj.data_mapFields d _)), Obj.data_mapFields d _, Array.getElem?_setIfInBounds_ne (by decide)⟩
    · exact ⟨u, us, (oth b hb).trans q, d, rfl⟩
  unfold setFlight; refine wpAny_bind (wpAny_field he hd h1 ?_)
  rw [if_pos (show (Value.ref T != Value.none) = true by simp)]
  refine wpAny_setField hT dT z3 (h _ ⟨fun b u q => (oth b fun z => by rw [z, nT] at q; cases q).trans (st b u q), ne, fr.of_keeps fun b u q nf => ⟨u, (oth b (nrec b u q nf)).trans q, rfl⟩,
    o, _, vs, _, T, (oth e (Ne.symm Te)).trans he, hc, hdd, hd, h1, nT, Te, Heap.get?_update_self _ hT (Obj.isFreed_of_fields (Obj.data_mapFields dT _)), Obj.data_mapFields dT _, by simp [z3], cx, c1, kT⟩ fun b u q nf => ⟨u.slots, (oth b (nrec b u q nf)).trans q⟩)
theorem note_next {Q : Unit → Shared → Prop} (hfr : A.frames = some (env :: outer)) (hf : env.frame = some L) (x : FlyD base (env :: outer) e c d .none s.heap)
    (h : ∀ h', FlyD base (env :: outer) e c d (rawInt L) h' → s.heap.UpToSlots h' → Q () { s with heap := h' }) : wpAny M A (noteFrame (.ref e) env) Q E s := by
  obtain ⟨st, ne, fr, o, oT, vs, ts, T, he, hc, hdd, hd, h1, nT, Te, hT, dT, h3, cx, c1, c2⟩ := x
  subst hc hdd
  have oth : ∀ b, b ≠ T → (s.heap.update T (Obj.mapFields (·.setIfInBounds 3 Value.none))).get? b = s.heap.get? b := fun b n => Heap.get?_update_other _ _ (Ne.symm n)
  have nrec : ∀ b u, s.heap.get? b = some u → (∀ xs, u.data ≠ .fields xs) → b ≠ T := fun b u q nf z => by
    subst z; rw [hT] at q; cases q; exact nf ts dT
  have kT : Chn (s.heap.update T (Obj.mapFields (·.setIfInBounds 3 Value.none))) cx := c2.mono fun b u us q d => by
    by_cases hb : b = T
    · subst hb
      rw [hT] at q
      cases q
      exact ⟨_, _, Heap.get?_update_self _ hT (Obj.isFreed_of_fields (Obj.data_mapFields d _)), Obj.data_mapFields d _, Array.getElem?_setIfInBounds_ne (by decide)⟩
    · exact ⟨u, us, (oth b hb).trans q, d, rfl⟩
  unfold noteFrame; simp only [hf]; refine wpAny_bind (wpAny_field he hd h1 ?_)
  rw [if_pos (show (Value.ref T != Value.none) = true by simp)]; refine wpAny_bind (wpAny_field hT dT h3 ?_)
  rw [if_neg (show ¬ ((Value.none == rawInt L) = true) by simp [rawInt])]; refine wpAny_bind (wpAny_setField hT dT (Array.getElem?_eq_some_iff.mp h3).1 ?_)
  refine note_new (s := { s with heap := s.heap.update T (Obj.mapFields (·.setIfInBounds 3 Value.none)) }) hfr hf (fun b u q => (oth b fun z => by rw [z, nT] at q; cases q).trans (st b u q)) ne (fr.of_keeps fun b u q nf => ⟨u, (oth b (nrec b u q nf)).trans q, rfl⟩)
    ((oth e (Ne.symm Te)).trans he) hd (Array.getElem?_eq_some_iff.mp h1).1 ⟨cx, c1, kT⟩ fun h' f up => h h' f fun b u q nf => up b u ((oth b (nrec b u q nf)).trans q) nf
theorem note_first {o : Obj} {vs : Array Value} {Q : Unit → Shared → Prop} (hfr : A.frames = some (env :: outer)) (hf : env.frame = some L) (st : base.StaysIn s.heap) (ne : base.get? e = none)
    (fr : s.heap.FunFrames base (env :: outer)) (he : s.heap.get? e = some o) (hd : o.data = .fields vs) (h1 : vs[1]? = some .none) (hcx : ∃ cx, vs[2]? = some cx ∧ Chn s.heap cx)
    (h : ∀ h', FlyD base (env :: outer) e o.cls o.dict (rawInt L) h' → s.heap.UpToSlots h' → Q () { s with heap := h' }) : wpAny M A (noteFrame (.ref e) env) Q E s := by
  unfold noteFrame; simp only [hf]; refine wpAny_bind (wpAny_field he hd h1 ?_)
  rw [if_neg (by decide)]
  exact note_new hfr hf st ne fr he hd (Array.getElem?_eq_some_iff.mp h1).1 hcx h
theorem leave_first {o : Obj} {vs : Array Value} {Q : Unit → Shared → Prop} (hfr : A.frames = some (env :: outer)) (hf : env.frame = some L) (st : base.StaysIn s.heap) (ne : base.get? e = none)
    (fr : s.heap.FunFrames base (env :: outer)) (he : s.heap.get? e = some o) (hd : o.data = .fields vs) (h1 : vs[1]? = some .none) (hcx : ∃ cx, vs[2]? = some cx ∧ Chn s.heap cx)
    (h : ∀ h', FlyD base outer e o.cls o.dict .none h' → s.heap.UpToSlots h' → Q () { s with heap := h' }) : wpAny M A (leaving env (.ref e)) Q E s :=
  wpAny_bind (note_first hfr hf st ne fr he hd h1 hcx fun h1 f1 u1 => fl_none (s := { s with heap := h1 }) f1 fun h2 f2 u2 => h h2 f2.pop (u1.trans u2))
theorem leave_next {Q : Unit → Shared → Prop} (hfr : A.frames = some (env :: outer)) (hf : env.frame = some L) (x : FlyD base (env :: outer) e c d .none s.heap)
    (h : ∀ h', FlyD base outer e c d .none h' → s.heap.UpToSlots h' → Q () { s with heap := h' }) : wpAny M A (leaving env (.ref e)) Q E s :=
  wpAny_bind (note_next hfr hf x fun h1 f1 u1 => fl_none (s := { s with heap := h1 }) f1 fun h2 f2 u2 => h h2 f2.pop (u1.trans u2))
end
end L2
namespace L2
open PySem PySem.Spec PyProof.Rows
def ExcAt (a C : Addr) (h : Heap) : Prop := ∃ o, h.get? a = some o ∧ o.cls = .ref C
abbrev excO (a C : Addr) : HO := .ext (ExcAt a C)
theorem ObjOk.some_of {P : Program} {w : World} {H : Hp} {h : Heap} {a : Addr} {o : HO} (x : ObjOk P w H h a o) : ∃ u, h.get? a = some u := by
  cases o with
  | lst xs => obtain ⟨_, _, _, _, e⟩ := x; exact ⟨_, e⟩
  | tup xs => obtain ⟨_, _, _, p⟩ := x; obtain ⟨o, e, _⟩ := p; exact ⟨_, e⟩
  | dK kvs => obtain ⟨_, _, _, _, o, _, _, e, _⟩ := x; exact ⟨_, e⟩
  | dT kvs => obtain ⟨_, _, _, _, o, _, _, e, _⟩ := x; exact ⟨_, e⟩
  | set S n => obtain ⟨o, _, _, _, e, _⟩ := x; exact ⟨_, e⟩
  | ins C dx fs => obtain ⟨_, _, _, e, _⟩ := x; exact ⟨_, e⟩
  | own y => obtain ⟨_, e⟩ := x; exact ⟨_, e⟩
  | xd fs => obtain ⟨_, ⟨_, _, _, e, _⟩, _⟩ := x; exact ⟨_, e⟩
  | rng lo hi => obtain ⟨_, _, _, e⟩ := x; exact ⟨_, e⟩
  | frz ob u => obtain ⟨e, _⟩ := x; exact ⟨_, e⟩
  | tbl ps => exact ⟨_, (show h.get? a = some _ from x)⟩
  | met f y => exact ⟨_, (show h.get? a = some _ from x)⟩
  | ext φ => obtain ⟨_, ⟨_, e⟩, _⟩ := x; exact ⟨_, e⟩
theorem HOk.none_of {P : Program} {w : World} {H : Hp} {h : Heap} {a : Addr} (x : HOk P w H h) (e : h.get? a = none) : H a = none := by
  cases q : H a with
  | none => rfl
  | some o =>
    obtain ⟨u, z⟩ := (x a o q).some_of
    rw [e] at z
    cases z
def CX1 (P : Program) (w : World) : CXT := fun outer H s E e s' => ∃ (a C : Addr) (d : Option Addr) (H' : Hp) (B : Heap), e = .ref a ∧ s'.os = s.os ∧ AllBare s'.gens ∧
  (∀ h'' : Heap, B.StaysIn h'' → s'.heap.UpToSlots h'' → Un (frs outer) [] H H' s.heap h'' ∧ HOk P w H' h'') ∧ FlyD B outer a (.ref C) d .none s'.heap ∧ H' a = none ∧ s.heap.get? a = none ∧ E (.ref C) d H'
structure BodyCx (X : Cx) (E : XK) : Prop where
  stk : X.stack = X.env :: X.outer
  fr : X.env.frame = some X.env.locals
  ex : X.ex = []
  xe : X.xe = fun e s' => wpAny (model X.prog X.w) X.A (leaving X.env e) (fun _ s'' => CX1 X.prog X.w X.outer X.H₀ X.s₀ E e s'') (fun e' s'' => CX1 X.prog X.w X.outer X.H₀ X.s₀ E e' s'') s'
section
variable {X : Cx} {pins : List (Addr × Obj)} {σ : St} {H : Hp} {s : Shared}
theorem mem_stack {E : XK} (Bd : BodyCx X E) {b : Addr} : b ∈ frs X.stack ↔ b = X.env.locals ∨ b ∈ frs X.outer := by
  rw [Bd.stk]
  show b ∈ List.filterMap (·.frame) (X.env :: X.outer) ↔ _
  rw [List.filterMap_cons, Bd.fr]
  exact List.mem_cons
theorem clo_of {E : XK} (Bd : BodyCx X E) (I : Inv X pins σ H s) {h1 h2 : Heap} (k : ∀ b o, s.heap.get? b = some o → h1.get? b = some o) (up : h1.UpToSlots h2) (h'' : Heap)
    (st : (PySem.W.hideAll s.heap (frs X.stack)).StaysIn h'') (up2 : h2.UpToSlots h'') : Un (frs X.outer) [] X.H₀ H X.s₀.heap h'' ∧ HOk X.prog X.w H h'' := by
  have inB : ∀ b o, s.heap.get? b = some o → b ∉ frs X.stack → h''.get? b = some o := fun b o e n => st b o (PySem.W.hideAll_get _ e n)
  have sl : ∀ b o, s.heap.get? b = some o → b ∈ frs X.stack → ∃ sl, h''.get? b = some { o with slots := sl } := fun b o e m => by
    obtain ⟨_, o', ho', hnf⟩ := I.stack.mem m
    rw [e] at ho'
    cases ho'
    exact (up.trans up2) b o (k b o e) hnf
  have nx : ∀ b : Addr, b ∉ X.ex := fun b z => by rw [Bd.ex] at z; cases z
  have neL : ∀ b o, X.s₀.heap.get? b = some o → b ≠ X.env.locals := fun b o e => Nat.ne_of_lt (Nat.lt_of_lt_of_le (Heap.lt_size e) I.ok.above)
  have any : ∀ b o, s.heap.get? b = some o → ∃ o', h''.get? b = some o' := fun b o e => by
    by_cases m : b ∈ frs X.stack
    · obtain ⟨z, q⟩ := sl b o e m
      exact ⟨_, q⟩
    · exact ⟨_, inB b o e m⟩
  refine ⟨⟨fun b o e n hb _ => ?_, fun b o e n hb _ => ?_, fun b o e n _ => I.base.free b o e n (nx b), fun b o e _ => ?_, I.base.tups, I.base.frzs, I.base.tbls⟩, fun a o e => ?_⟩
  · exact inB b o (I.base.keep b o e n hb (nx b)) fun m => (mem_stack Bd).mp m |>.elim (neL b o e) hb
  · obtain ⟨z, q⟩ := I.base.slot b o e n hb (nx b)
    obtain ⟨z', q'⟩ := sl b _ q ((mem_stack Bd).mpr (.inr hb))
    exact ⟨z', q'⟩
  · obtain ⟨o', q⟩ := I.base.there b o e (nx b)
    exact any b o' q
  · refine (I.hok a o e).stay (fun b u hc q => inB b u q fun m => ?_) (fun _ q => q) fun _ _ q => q
    have z := I.stkFree b m
    rcases hc with rfl | hc
    · rw [z] at e; cases e
    · rw [z] at hc; cases hc
theorem inv_behind {H' : Hp} {h'' : Heap} {s' : Shared} (I : Inv X pins σ H s) (ho : s'.os = s.os) (hg : AllBare s'.gens) (u : Un (frs X.stack) [] H H' s.heap h'' ∧ HOk X.prog X.w H' h'') (ht : 1 ≤ s'.toks := by first | assumption | exact Inv.tk (by assumption) | exact Nat.le_add_left _ _ | omega) : Inv X pins σ H' { s' with heap := h'' } :=
  I.call' (s' := { s' with heap := h'' }) (ch := []) ho u.1 u.2 hg fun b z => nomatch z
theorem new0 (I : Inv X pins σ H s) (nx : ∀ b : Addr, b ∉ X.ex) {a : Addr} (e : s.heap.get? a = none) : X.s₀.heap.get? a = none := by
  cases q : X.s₀.heap.get? a with
  | none => rfl
  | some o =>
    obtain ⟨o', z⟩ := I.base.there a o q (nx a)
    rw [e] at z
    cases z
theorem passes1 {E : XK} (Bd : BodyCx X E) : Passes (CX1 X.prog X.w) X E := by
  intro pins σ H s e s' I h ht
  obtain ⟨a, C, t, H', B, rfl, os, bare, clo, fly, na, nw, q⟩ := h
  rw [Bd.xe]
  have hfr : X.A.frames = some (X.env :: X.outer) := by rw [← Bd.stk]; exact I.ok.frames
  have fly' : FlyD B (X.env :: X.outer) a (.ref C) t .none s'.heap := by rw [← Bd.stk]; exact fly
  refine leave_next hfr Bd.fr fly' fun h' f1 up => ?_
  have nx : ∀ b : Addr, b ∉ X.ex := fun b z => by rw [Bd.ex] at z; cases z
  have J0 : ∀ h'' : Heap, B.StaysIn h'' → h'.UpToSlots h'' → Inv X pins σ H' { s' with heap := h'' } := fun h'' st up2 => inv_behind I os bare (clo h'' st (up.trans up2))
  have os0 : s'.os = X.s₀.os := os.trans I.os
  refine ⟨a, C, t, H', B, rfl, os0, bare, fun h'' st up2 => ?_, f1, na, new0 I nx nw, q⟩
  have J := J0 h'' st up2
  have u := J.base
  rw [Bd.ex] at u
  exact ⟨u, J.hok⟩
end
theorem exc_obj {K : PySem.W.Frag} {h₀ : Heap} {C : Addr} {bmB : List Value} {newId : String} (X : K.In h₀) (q : PySem.W.excIn K C bmB newId = true) :
    ∃ bm N nm q bs hdct sn sub ab col dd k0 k1 k2 k3 k5 mN, h₀.get? C = some (excClassObj nm q C N bs bm hdct sn sub ab col dd k0 k1 k2 k3 k5 newId) ∧ h₀.Ns N mN ∧ mN "__init__" = none ∧ OwnTail h₀ bmB bm := by
  unfold PySem.W.excIn at q
  split at q
  · rename_i dd cd sl ho
    split at q
    · rename_i C' bm k0 k1 k2 k3 n k5 hm hs
      simp only [Bool.and_eq_true, beq_iff_eq, Bool.not_eq_true'] at q
      obtain ⟨⟨⟨⟨⟨rfl, rfl⟩, hdel⟩, ht⟩, hok⟩, hni⟩ := q
      obtain ⟨nm, bs, mro, ns, qn, hd, sn, sub, ab, col, del⟩ := cd
      dsimp only at hm hdel hok hni
      subst hm hdel
      have hsl : sl = #[k0, k1, k2, k3, some (.builtin n), k5] := by
        obtain ⟨l⟩ := sl
        simp only at hs
        rw [hs]
      subst hsl
      exact ⟨bm, ns, nm, qn, bs, hd, sn, sub, ab, col, dd, k0, k1, k2, k3, k5, _, X _ _ ho, .of_isNs (PySem.W.isNs_of_in X hok), PySem.W.nsMap_none_of_in X hok hni, PySem.W.tail_of_in X ht⟩
    · cases q
  · cases q
structure ExcCls (K : PySem.W.Frag) (mg : Str → Option Value) (x : Str) (C : Addr) : Prop where
  mg : mg x = some (.ref C)
  ob : PySem.W.excIn K C [.type "ValueError", .type "Exception", .type "BaseException", .type "object"] "ValueError.__new__" = true
section
variable {X : Cx} {x : Str} {C : Addr} {e₀ : Expr} {t : TA} {np cpos pos : Pos}
def tRaise (E : XK) (C : Addr) (t : TA) : TS := fun _ σ H => t σ H fun vs H1 => vs.length ≤ sizeLine ∧ E (.ref C) none H1
theorem ps_raise {E : XK} (Bd : BodyCx X E) (hc : X.calm = true) (O : ExcCls X.K X.mg x C) (ha : PA X [e₀] t) (hg : Gl X x := by rfl) (hdb : (x == ("__debug__" : Str)) = false := by decide)
    (he : starEach [e₀] X.env = [(false, eval e₀ X.env)] := by rfl) :
    PS X (.Raise (some (.Call (.Name x np) [e₀] [] cpos)) none pos) (tRaise E C t) := by
  intro pins s σ H D I h
  obtain ⟨bm, N, nm, qn, bs, hdct, sn, sub, ab, col, dd, k0, k1, k2, k3, k5, mN, hC, hN, hni, TL⟩ := exc_obj I.ok.mod.kin O.ob
  have hbase : bm.contains (.type "BaseException") = true := TL.hasType (X := "BaseException") (by decide +kernel)
  have hpl : (backTo cpos (starEach [e₀] X.env)).any (·.1) = false := by rw [he]; rfl
  refine wpAny_Raise_call_subT (nm := nm) (q := qn) (N := N) (bs := bs) (hdct := hdct) (sn := sn) (sub := sub) (ab := ab) (col := col) (dd := dd) (k0 := k0) (k1 := k1) (k2 := k2) (k3 := k3) (k5 := k5) F.excBase_ValueError hbase (I.ok.hd hc) hpl hni (ld_glob I hg O.mg ⟨rfl, ?_⟩ hdb)
  have h1 := ha cpos pins s σ H _ I h
  rw [he] at h1 ⊢
  refine Calls.evalArgs_plain (thn h1 fun us s2 ⟨vs, H2, I2, r, hl, q⟩ => ⟨rfl, by rw [← r.length]; exact hl, I2.bk _ _ hC, hN.keeps I2.bk, TL.keeps I2.bk, fun h' e hm => ?_⟩)
  rw [Bd.xe]
  have hfr : X.A.frames = some (X.env :: X.outer) := by rw [← Bd.stk]; exact I.ok.frames
  have hin : ∀ env ∈ X.stack, ∀ b, env.frame = some b → b ∈ frs X.stack := fun env he b hb => List.mem_filterMap.mpr ⟨env, he, hb⟩
  have ff : s2.heap.FunFrames (PySem.W.hideAll s2.heap (frs X.stack)) (X.env :: X.outer) := by
    have z := PySem.W.funFrames_hide I2.stack hin
    rw [← Bd.stk]
    exact z
  obtain ⟨t0, he0, _, _⟩ := hm.there
  have ne0 : (PySem.W.hideAll s2.heap (frs X.stack)).get? e = none := by
    cases q0 : (PySem.W.hideAll s2.heap (frs X.stack)).get? e with
    | none => rfl
    | some o => have z := PySem.W.of_hideAll _ q0; rw [hm.new] at z; cases z
  refine leave_first (s := { s2 with heap := h' }) hfr Bd.fr (fun b o q => hm.keeps b o (PySem.W.of_hideAll _ q)) ne0 (ff.of_keeps fun b o q _ => ⟨o, hm.keeps b o q, rfl⟩) he0 rfl rfl ⟨_, rfl, .none⟩ fun h3 fly up => ?_
  refine ⟨e, C, none, H2, _, rfl, ?_, I2.bare, fun h'' st up2 => clo_of Bd I2 hm.keeps up h'' st up2, fly, I2.hok.none_of hm.new, new0 I2 (fun b z => by rw [Bd.ex] at z; cases z) hm.new, q⟩
  exact I2.os
end
end L2
namespace L2
open PySem PySem.Spec PyProof.Rows
structure RoomB (c : Bool) (k : Nat) (A : Around) : Prop where
  hd : c = true → A.handled = none
  dp : A.depth + 3 * k + 5 < recursionLimit
  un : A.units + 16 * k + 200 < cLine
theorem RoomB.mono {c : Bool} {j k : Nat} {A : Around} (r : RoomB c k A) (h : j ≤ k) : RoomB c j A := ⟨r.hd, by have := r.dp; omega, by have := r.un; omega⟩
theorem RoomB.deeper {c : Bool} {k : Nat} {A : Around} (r : RoomB c (k + 1) A) (env : Env) : RoomB c k (A.deeper env) :=
  ⟨r.hd, by have := r.dp; show A.depth + 1 + 3 * k + 5 < _; omega, by have := r.un; show A.units + 3 + 16 * k + 200 < _; omega⟩
theorem RoomB.depth {c : Bool} {k : Nat} {A : Around} (r : RoomB c k A) : A.depth < recursionLimit := by have := r.dp; omega
theorem RoomB.units {c : Bool} {k : Nat} {A : Around} (r : RoomB c k A) : A.units + 64 < cLine := by have := r.un; omega
theorem RoomB.mark {c : Bool} {k : Nat} {A : Around} (r : RoomB c k A) (v : Option Value) : RoomB false k (A.mark v) := ⟨fun z => (nomatch z), r.dp, r.un⟩
theorem Room.b {k : Nat} {A : Around} (r : Room k A) : RoomB true k A := ⟨fun _ => r.hd, r.dp, r.un⟩
structure FnB (P : Program) (w : World) (K : PySem.W.Frag) (mg : Str → Option Value) (base : Heap) (c : Bool) (k : Nat) (f : Addr) (fd : FuncData) (ps : List Str) (sp : Sp) : Prop where
  len : ∀ vs H Q E, sp vs H Q E → vs.length = ps.length
  run : ∀ (A : Around) (outer : List Env) (s : Shared) (H : Hp) (args : Args) (us : List Value) (vs : List V) (Q : VK) (E : XK), RoomB c k A → Env0 P w K mg base A outer s H → BindsTo s fd args (ps.zip us) → Vals vs us → sp vs H Q E → (1 ≤ s.toks ∨ ∃ x r, ps = x :: r ∧ fd.scope.names.lookup x = some .local) →
    codeAny (model P w) A (.call (.ref f) args) (CR (CX1 P w) outer P w H s Q E) s
theorem FnB.ok {P : Program} {w : World} {K : PySem.W.Frag} {mg : Str → Option Value} {base : Heap} {k : Nat} {f : Addr} {fd : FuncData} {ps : List Str} {sp : Sp} (F : FnB P w K mg base true k f fd ps sp) : FnOk P w K mg base (CX1 P w) k f fd ps sp :=
  ⟨F.len, fun A outer s H args us vs Q E hr => F.run A outer s H args us vs Q E hr.b⟩
def cxB (c : Bool) (P : Program) (w : World) (K : PySem.W.Frag) (mg : Str → Option Value) (base : Heap) (N : List Str) (qual : Str) (scope : Scope) (f : Addr) (cd : Value) (A : Around) (outer : List Env) (s : Shared) (H : Hp) (E : XK) : Cx :=
  { cxOf (CX1 P w) P w K mg base N qual scope f cd A outer s H E with calm := c }
theorem bodyB {c : Bool} {P : Program} {w : World} {K : PySem.W.Frag} {mg : Str → Option Value} {base : Heap} {N : List Str} {qual : Str} {scope : Scope} {f : Addr} {cd : Value} {A : Around} {outer : List Env} {s : Shared} {H : Hp} {E : XK} :
    BodyCx (cxB c P w K mg base N qual scope f cd A outer s H E) E := ⟨rfl, rfl, rfl, rfl⟩
theorem inv_startB {c : Bool} {P : Program} {w : World} {K : PySem.W.Frag} {mg : Str → Option Value} {base : Heap} {N ps : List Str} {qual : Str} {scope : Scope} {f : Addr} {cd : Value} {A : Around} {outer : List Env} {s s1 : Shared} {H : Hp} {E : XK} {us : List Value} {vs : List V}
    (S : FnScope N ps scope) (hd : c = true → A.handled = none) (e0 : Env0 P w K mg base A outer s H) (hl : vs.length = ps.length) (r : Vals vs us)
    (x : InCallC s s.heap.objs.size (bindL (envOfC qual scope s.heap.objs.size f cd).kindOf (ps.zip us) fun _ => none) (cellsFrom (s.heap.objs.size + 1) scope.names []) (bindC (envOfC qual scope s.heap.objs.size f cd).kindOf (ps.zip us) fun _ => none) s1) (ht1 : 1 ≤ s1.toks) :
    Inv (cxB c P w K mg base N qual scope f cd A outer s H E) [] (start N vs) H s1 := by
  have hpl : ps.length ≤ N.length := by have := congrArg List.length S.pre; rw [List.length_take] at this; omega
  obtain ⟨h1, tk, rfl, hk⟩ := x.done
  have noA : ∀ b : Addr, b ∉ (cxB c P w K mg base N qual scope f cd A outer s H E).ex := fun b z => absurd (show b ∈ ([] : List Addr) from z) (by simp)
  refine ⟨⟨e0.mod, S.kind, rfl, rfl, Nat.le_refl _, fun y z c h1 h2 => ?_, fun y hy => ?_, fun y c _ h => ?_, fun z => hd z, Around.frames_deeper e0.frames, .inr ⟨rfl, rfl⟩, fun b z => absurd z (noA b), e0.bs, e0.bsz, fun b _ _ => noA b, fun b z => absurd z (noA b), e0.funs, e0.frf⟩,
    rfl, e0.bare, Un.kept hk, ⟨_, x.toInCall.ns, fun i y v h1 h2 h3 => ?_⟩, fun y c h => ⟨_, x.cell y c h⟩, e0.hok.fresh (Nat.le_refl _), fun y c h => ?_, fun p hp => absurd (show p ∈ ([] : List (Addr × Obj)) from hp) (by simp), e0.hok.kept hk, ?_, ht1⟩
  · exact name_of_addr x.apart (PySem.mem_of_lookup h1) (PySem.mem_of_lookup h2)
  · have hy : scope.names.lookup y = some .cell ∨ scope.names.lookup y = some .free := hy
    rcases hy with hy | hy
    · exact cell_has hy
    · exact absurd rfl (S.nofree _ (PySem.mem_of_lookup hy))
  · exact Nat.le_of_lt (x.above y c (PySem.mem_of_lookup h))
  · have hi : i < vs.length := by
      unfold start at h2
      by_cases hi : i < vs.length
      · exact hi
      · rw [List.getElem?_append_right (by simpa using hi)] at h2
        rw [List.getElem?_replicate] at h2
        split at h2 <;> cases h2
    have ha : vs[i]? = some v := by
      unfold start at h2
      rw [List.getElem?_append_left (by simpa using hi), List.getElem?_map] at h2
      cases e : vs[i]? with
      | none => rw [e] at h2; cases h2
      | some a => rw [e] at h2; cases h2; rfl
    obtain ⟨u, hu, rv⟩ := r.get ha
    have hp : ps[i]? = some y := by
      rw [← S.pre, List.getElem?_take_of_lt (by omega)]; exact h1
    have ndP : ps.Nodup := by rw [← S.pre]; exact S.nd.sublist (List.take_sublist _ _)
    refine ⟨u, rv, ?_⟩
    rcases S.par y (List.mem_of_getElem? hp) with k | k
    · exact .inl ⟨k, bindL_get ndP hp hu k⟩
    · obtain ⟨c, e⟩ := cell_has (n := s.heap.objs.size + 1) k
      refine .inr ⟨.inl k, c, e, ?_⟩
      have q := x.cell y c e
      rw [bindC_get ndP hp hu (by show scope.names.lookup y ≠ _; rw [k]; decide)] at q
      exact q
  · exact e0.hok.fresh (Nat.le_of_lt (x.above y c (PySem.mem_of_lookup h)))
  · unfold start
    show _ = N.length
    rw [List.length_append, List.length_map, List.length_replicate]
    omega
theorem fnB_of {c : Bool} {P : Program} {w : World} {K : PySem.W.Frag} {mg : Str → Option Value} {base : Heap} {k : Nat} {f : Addr} {name qual : Str} {params : Arguments} {body : List Stmt} {scope : Scope} {dV kV doc pm cdv ct oc : Value} {an od : Option Addr}
    {osl : Array (Option Value)} {N ps : List Str} {sp : Sp} (lk : K.lookup f = some ⟨oc, od, .func (PySem.W.fnOf name qual params body scope dV kV doc pm an cdv ct), osl⟩) (hcd : PySem.W.codeIn K cdv qual = true) (S : FnScope N ps scope)
    (len : ∀ vs H Q E, sp vs H Q E → vs.length = ps.length)
    (hbody : ∀ (A : Around) (outer : List Env) (s : Shared) (H : Hp) (vs : List V) (Q : VK) (E : XK), RoomB c k (A.deeper (envOfC qual scope s.heap.objs.size f cdv)) → sp vs H Q E →
      ∃ t, PSs (cxB c P w K mg base N qual scope f cdv A outer s H E) body t ∧ t { nx := fun _ H' => Q .non H', rt := Q } (start N vs) H) :
    FnB P w K mg base c (k + 1) f (PySem.W.fnOf name qual params body scope dV kV doc pm an cdv ct) ps sp := by
  refine ⟨len, fun A outer s H args us vs Q E hr e0 hb r hsp ht0 => ?_⟩
  have hl := len _ _ _ _ hsp
  have KX : K.In s.heap := e0.mod.kin.keeps fun b o e => (e0.bs b o e).1
  have lim : s.heap.NoLimit := e0.mod.nolimit.keeps fun b o e => (e0.bs b o e).1
  have hkind : ∀ y ∈ ps.zip us, scope.names.lookup y.1 = some .local ∨ (scope.names.lookup y.1 = some .cell ∧ ((cellsFrom (s.heap.objs.size + 1) scope.names []).lookup y.1).isSome = true) := fun ⟨n, v⟩ hy => by
    rcases S.par n (List.of_mem_zip hy).1 with q | q
    · exact .inl q
    · exact .inr ⟨q, PySem.W.cellsFrom_some _ _ _ (.inl q)⟩
  refine codeAny_call_function hr.depth (KX _ _ lk) rfl S.co S.gen rfl (PySem.W.codeRec_of KX hcd) (hb _ _ _ _ ?_)
  refine newEnv_tok S.kind hkind (first_of hl r ht0) fun env he s1 x ht1 => ?_
  subst he
  refine ⟨lim.keeps x.toInCall.keep, codeAny_func ?_⟩
  obtain ⟨t, ht, hq⟩ := hbody A outer s H vs Q E (hr.deeper _) hsp
  have I : Inv (cxB c P w K mg base N qual scope f cdv A outer s H E) [] (start N vs) H s1 := inv_startB S hr.hd e0 hl r x ht1
  refine wpAny_mono (ht [] s1 (start N vs) H _ I hq) (fun fl s' hs => ?_) fun e s' hs => hs
  have fin : ∀ {σ' : St} {H' : Hp} {v : V} {u : Value}, Inv (cxB c P w K mg base N qual scope f cdv A outer s H E) [] σ' H' s' → RelV v u → Q v H' → CE outer P w H s Q u s' :=
    fun {σ' H' v u} J rv q => ⟨v, H', J.os, J.bare, J.base, J.hok, rv, q⟩
  cases fl with
  | ret u =>
    obtain ⟨v, σ', H', J, rv, q⟩ := hs
    exact fin J rv q
  | next =>
    obtain ⟨σ', H', J, q⟩ := hs
    exact fin (v := V.non) (u := Value.none) J rfl q
  | brk =>
    obtain ⟨_, _, _, q⟩ := hs
    exact False.elim q
  | cont =>
    obtain ⟨_, _, _, q⟩ := hs
    exact False.elim q
structure CalB (P : Program) (w : World) (K : PySem.W.Frag) (mg : Str → Option Value) (base : Heap) (c : Bool) (k : Nat) (x : Str) (ps : List Str) (sp : Sp) : Prop where
  ex : ∃ (f : Addr) (fd : FuncData), FnB P w K mg base c k f fd ps sp ∧ mg x = some (.ref f) ∧ PySem.W.keepIn K (.ref f) = true ∧ Binds K fd ps []
theorem TopFn.calB {c : Bool} {P : Program} {w : World} {K : PySem.W.Frag} {mg : Str → Option Value} {base : Heap} {x : Str} {st : Stmt} {N ps : List Str} {k : Nat} {sp : Sp} (T : TopFn K mg x st) (S : FnScope N ps (defScope st))
    (hb : ∀ (kV doc pm : Value) (an : Option Addr) (cdv ct : Value) (us : List Value), us.length = ps.length → bindArgs (PySem.W.fnOf x x (defArgs st) (defBody st) (defScope st) .none kV doc pm an cdv ct) ⟨us, []⟩ = pure (ps.zip us))
    (len : ∀ vs H Q E, sp vs H Q E → vs.length = ps.length)
    (hbody : ∀ (f : Addr) (cdv : Value) (A : Around) (outer : List Env) (s : Shared) (H : Hp) (vs : List V) (Q : VK) (E : XK), RoomB c k (A.deeper (envOfC x (defScope st) s.heap.objs.size f cdv)) → sp vs H Q E →
      ∃ t, PSs (cxB c P w K mg base N x (defScope st) f cdv A outer s H E) (defBody st) t ∧ t { nx := fun _ H' => Q .non H', rt := Q } (start N vs) H) : CalB P w K mg base c (k + 1) x ps sp := by
  obtain ⟨f, fd, F, hm⟩ := T.ex
  obtain ⟨oc, od, kV, doc, pm, an, cdv, ct, osl, rfl, l, cd⟩ := id F.ex
  exact ⟨f, _, fnB_of l cd S len (hbody f cdv), hm, F.kp, F.binds hb⟩
theorem pass01 {P : Program} {w : World} {X : Cx} : Passes (CX1 P w) X E0 := fun _ _ _ _ _ _ _ h => by
  obtain ⟨_, _, _, _, _, _, _, _, _, _, _, _, q⟩ := h
  exact q.elim
section
variable {X : Cx} {c : Bool} {k : Nat} {ps : List Str} {sp : Sp} {x : Str} {p pos : Pos} {e : Expr} {es : List Expr} {t : TA} {E : XK}
theorem run_fnB {pins : List (Addr × Obj)} {σ : St} {H : Hp} {s : Shared} {Q : VK} {us : List Value} {vs : List V} {f : Addr} {fd : FuncData} {E' : Value → Shared → Prop} (F : FnB X.prog X.w X.K X.mg X.base c k f fd ps sp) (hr : RoomB c k X.A) (hb : Binds X.K fd ps [])
    (I : Inv X pins σ H s) (r : Vals vs us) (h : sp (vs ++ []) H Q E) (hx : ∀ e s', CX1 X.prog X.w X.stack H s E e s' → 1 ≤ s'.toks → E' e s') : wpAny (model X.prog X.w) X.A (call (.ref f) us) (EP X pins σ Q) E' s := by
  have r2 : Vals (vs ++ []) (us ++ []) := r.append .nil
  have hl : (us ++ []).length = ps.length := by rw [← r2.length]; exact F.len _ _ _ _ h
  refine wpAny_call (codeAny_with_toks I.tk (codeAny_mono (F.run X.A X.stack s H ⟨us, []⟩ (us ++ []) (vs ++ []) Q E hr I.env0 (hb s us I.kIn hl) r2 h (.inl I.tk)) fun r s' hq ht => ?_))
  cases r with
  | error e => exact hx e s' hq ht
  | ok fl =>
    cases fl with
    | ret u => exact I.after hq
    | next => exact False.elim hq
    | brk => exact False.elim hq
    | cont => exact False.elim hq
theorem pe_cB (C : CalB X.prog X.w X.K X.mg X.base c k x ps sp) (hr : RoomB c k X.A) (hx : Passes (CX1 X.prog X.w) X E) (ha : PA X (e :: es) t) (hg : Gl X x := by rfl) (hdb : (x == ("__debug__" : Str)) = false := by decide)
    (he : starEach (e :: es) X.env = (false, eval e X.env) :: starEach es X.env := by rfl) (hpl : (backTo pos (starEach es X.env)).any (·.1) = false := by rfl) :
    PE X (.Call (.Name x p) (e :: es) [] pos) (tCall sp [] E t) := by
  obtain ⟨f, fd, F, hm, hk, hb⟩ := C.ex
  intro pins s σ H Q I h
  refine wpAny_Call_Name_kw (ld_glob I hg hm ?_ hdb)
  refine PySem.W.callWith_K (h₀ := X.base) I.ok.mod.kin hk (thn (ha pos pins s σ H _ I h) fun us s1 ⟨vs, H1, I1, r, q⟩ => ⟨I1.kIn, ?_⟩) he hpl
  exact run_fnB F hr hb I1 r q fun e s' h ht => hx pins σ H1 s1 e s' I1 h ht
end
end L2
namespace L2
open PySem PySem.Spec PyProof.Rows
abbrev Cx.hnd (X : Cx) (a : Addr) : Cx := { X with A := X.A.mark (some (.ref a)), calm := false, xe := fun _ _ => False }
section
variable {X : Cx} {pins : List (Addr × Obj)} {σ : St} {H : Hp} {s : Shared}
theorem Inv.hnd (I : Inv X pins σ H s) (a : Addr) : Inv (X.hnd a) pins σ H s :=
  ⟨⟨I.ok.mod, I.ok.kind, I.ok.glob, I.ok.blt, I.ok.above, I.ok.inj, I.ok.has, I.ok.cab, (fun z => nomatch z), I.ok.frames, I.ok.stk, I.ok.exf, I.ok.bs, I.ok.bsz, I.ok.noex, I.ok.exfs, I.ok.funs, I.ok.frf⟩, I.os, I.bare, I.base, I.loc, I.cell, I.free, I.freeC, I.pin, I.hok, I.len, I.tk⟩
theorem Inv.unhnd {a : Addr} (I0 : X.Ok) (I : Inv (X.hnd a) pins σ H s) : Inv X pins σ H s := ⟨I0, I.os, I.bare, I.base, I.loc, I.cell, I.free, I.freeC, I.pin, I.hok, I.len, I.tk⟩
theorem gone_ok {M : Model} {A : Around} {E : Value → Shared → Prop} {i : Nat} {n : Str} {pos : Pos} {Q : Unit → Shared → Prop} (I : Inv X pins σ H s) (hN : X.N.Nodup) (hi : X.N[i]? = some n) (hk : X.env.scope.names.lookup n = some .local)
    (h : ∀ s', Inv X pins (σ.set i none) H s' → Q () s') : wpAny M A (do bindName X.env n .none; unbindBehindTheSuite X.env n pos) Q E s := by
  obtain ⟨m, hn, hl⟩ := id I.loc
  have hcls : (X.env.scope.kind == .class || (X.env.scope.kind == .module && X.env.locals != X.env.globals)) = false := by rw [I.ok.kind]; rfl
  have hiσ : i < σ.length := by rw [I.len]; exact (List.getElem?_eq_some_iff.mp hi).1
  have cne := I.cne
  refine wpAny_nameGoes_keeps hk hn hcls fun h' v hn' hs => ?_
  obtain ⟨oL, _, _, hoL, _⟩ := id hn
  have tracked : HOk X.prog X.w H h' := fun b ob e => by
    refine (I.hok b ob e).stay (fun c w' hc q => (hs.2 c ?_).trans q) (fun _ q => q) fun _ _ q => q
    intro z
    have hfree := I.free
    rw [← z] at hfree
    rcases hc with hc | hc
    · rw [hc] at hfree; rw [hfree] at e; cases e
    · rw [hfree] at hc; cases hc
  refine h _ ⟨I.ok, I.os, I.bare, ⟨fun b o e n hb hx => ?_, fun b o e n hb hx => ?_, I.base.free, fun b o e hx => ?_, I.base.tups, I.base.frzs, I.base.tbls⟩, ⟨_, hn', fun j y v' e1 e2 e3 => ?_⟩, fun y c e => ?_, I.free, I.freeC, fun p hp => ?_, tracked, by simpa using I.len, Nat.le_add_left _ _⟩
  · exact (hs.2 b (Nat.ne_of_lt (Nat.lt_of_lt_of_le (Heap.lt_size e) I.ok.above))).trans (I.base.keep b o e n hb hx)
  · obtain ⟨sl, e1⟩ := I.base.slot b o e n hb hx
    exact ⟨sl, (hs.2 b (Nat.ne_of_lt (Nat.lt_of_lt_of_le (Heap.lt_size e) I.ok.above))).trans e1⟩
  · obtain ⟨o', e1⟩ := I.base.there b o e hx
    exact ⟨o', (hs.2 b (Nat.ne_of_lt (Nat.lt_of_lt_of_le (Heap.lt_size e) I.ok.above))).trans e1⟩
  · by_cases hj : j = i
    · subst hj
      rw [List.getElem?_set_self hiσ] at e2
      cases e2
    · rw [List.getElem?_set_ne (Ne.symm hj)] at e2
      obtain ⟨u', r', q⟩ := hl j y v' e1 e2 e3
      refine ⟨u', r', ?_⟩
      rcases q with ⟨k, e⟩ | ⟨k, c, e, z⟩
      · refine .inl ⟨k, ?_⟩
        have : y ≠ n := fun e => hj (nodup_ix hN e1 (e ▸ hi))
        simp [this, e]
      · exact .inr ⟨k, c, e, z.sameBut hs (cne y c e)⟩
  · obtain ⟨w', z⟩ := I.cell y c e
    exact ⟨w', z.sameBut hs (cne y c e)⟩
  · obtain ⟨e, n, ne, nf, d⟩ := I.pin p hp
    exact ⟨(hs.2 p.1 ne).trans e, n, ne, nf, d⟩
theorem inv_caughtG {H' : Hp} {h'' : Heap} {s' : Shared} {a : Addr} {φ : Heap → Prop} (I : Inv X pins σ H s) (ho : s'.os = s.os) (hg : AllBare s'.gens) (u : Un (frs X.stack) [] H H' s.heap h'' ∧ HOk X.prog X.w H' h'')
    (na : H' a = none) (nw : s.heap.get? a = none) (ex : φ h'') (hob : ∃ o, h''.get? a = some o) (sta : ∀ h1 h2 : Heap, φ h1 → (∀ o, h1.get? a = some o → h2.get? a = some o) → φ h2) (ht : 1 ≤ s'.toks := by first | assumption | exact Inv.tk (by assumption) | exact Nat.le_add_left _ _ | omega) : Inv X pins σ (upd H' a (.ext φ)) { s' with heap := h'' } := by
  refine inv_behind I ho hg ⟨⟨u.1.keep, u.1.slot, fun b o e n hx => ?_, u.1.there, fun b xs e => ?_, fun b o x e => ?_, fun b ps e => ?_⟩, fun b o e => ?_⟩
  · have : b ≠ a := fun z => by rw [z, nw] at e; cases e
    rw [upd_ne this]
    exact u.1.free b o e n hx
  · have q := u.1.tups b xs e
    rw [upd_ne (ne_of_none q na)]; exact q
  · have q := u.1.frzs b o x e
    rw [upd_ne (ne_of_none q na)]; exact q
  · obtain ⟨m, q⟩ := u.1.tbls b ps e
    exact ⟨m, by rw [upd_ne (ne_of_none q na)]; exact q⟩
  · by_cases hb : b = a
    · subst hb
      rw [upd_same] at e
      cases e
      exact ⟨ex, hob, sta⟩
    · rw [upd_ne hb] at e
      exact (u.2 b o e).stay (fun c v _ q => q) (fun c q => by rw [upd_ne (ne_of_none q na)]; exact q) fun c xs q => by rw [upd_ne (ne_of_none q na)]; exact q
theorem PA.any {es : List Expr} {t : TA} (h : PA X.nox es t) {E' : Value → Shared → Prop} (pos : Pos) {Q : List V → Hp → Prop} (I : Inv X pins σ H s) (q : t σ H Q) :
    wpAny (model X.prog X.w) X.A (spliced (backTo pos (starEach es X.env))) (AP X pins σ Q) E' s :=
  wpAny_mono (h pos pins s σ H Q (I.wish _) q) (fun us s1 ⟨vs, H1, I1, r, q1⟩ => ⟨vs, H1, I1.unwish, r, q1⟩) fun _ _ z => z.elim
end
abbrev Ends.gone (D : Ends) (i : Nat) : Ends := { nx := fun σ H => D.nx (σ.set i none) H, rt := D.rt, bk := fun σ H => D.bk (σ.set i none) H, ct := fun σ H => D.ct (σ.set i none) H }
section
variable {X : Cx} {pins : List (Addr × Obj)} {σ : St} {H H2 : Hp} {s s' : Shared} {a C Bc : Addr} {t : Option Addr} {B : Heap} {D : Ends} {xc n : Str} {np hp : Pos} {b₀ : Stmt} {suite : List Stmt} {rest : List ExceptHandler} {ts : TS} {i : Nat}
theorem handle_asG {φ : Heap → Prop} (hφ : ∀ h o, h.get? a = some o → o.cls = .ref C → o.dict = t → (∃ vs, o.data = .fields vs) → φ h) (sta : ∀ h1 h2 : Heap, φ h1 → (∀ o, h1.get? a = some o → h2.get? a = some o) → φ h2) (I : Inv X pins σ H s) (hst : X.stack = X.env :: X.outer) (hf : X.env.frame = some X.env.locals) (os : s'.os = s.os) (bare : AllBare s'.gens)
    (clo : ∀ h'' : Heap, B.StaysIn h'' → s'.heap.UpToSlots h'' → Un (frs X.stack) [] H H2 s.heap h'' ∧ HOk X.prog X.w H2 h'') (fly : FlyD B X.stack a (.ref C) t .none s'.heap) (na : H2 a = none) (nw : s.heap.get? a = none)
    (hg : Gl X xc) (hcl : X.mg xc = some (.ref Bc)) (hm : PySem.W.exmOne X.K (.ref C) (.ref Bc) = some true) (hs : PSs (X.hnd a) (b₀ :: suite) ts) (hN : X.N.Nodup) (hi : X.N[i]? = some n) (hloc : X.env.scope.names.lookup n = some .local)
    (q : ts (D.gone i) (σ.set i (some (.ref a))) (upd H2 a (.ext φ))) (hdb : (xc == ("__debug__" : Str)) = false := by decide) (ht : 1 ≤ s'.toks := by first | assumption | exact Inv.tk (by assumption) | exact Nat.le_add_left _ _ | omega) :
    wpAny (model X.prog X.w) X.A (noteFrame (.ref a) X.env) (fun _ s₂ => wpAny (model X.prog X.w) X.A (setFlight (.ref a) none) (fun _ s₃ =>
      wpAny (model X.prog X.w) X.A (handleBy (.ref a) X.env (.ExceptHandler (some (.Name xc np)) (some n) (b₀ :: suite) hp :: rest)) (SP X pins D) X.xe s₃) X.xe s₂) X.xe s' := by
  have hfr : X.A.frames = some (X.env :: X.outer) := by rw [← hst]; exact I.ok.frames
  have fly' : FlyD B (X.env :: X.outer) a (.ref C) t .none s'.heap := by rw [← hst]; exact fly
  refine note_next hfr hf fly' fun h4 held4 up4 => ?_
  refine fl_none (s := { s' with heap := h4 }) held4 fun h5 fly5 up5 => ?_
  have J5 : Inv X pins σ H2 { s' with heap := h5 } := inv_behind I os bare (clo h5 fly5.1 (up4.trans up5))
  obtain ⟨ob, hob, hobc, _⟩ := fly5.there
  have LT : PySem.W.Looks (model X.prog X.w) h5 (typeOf (.ref a)) (.ref C) := hobc ▸ (PySem.W.Looks.ld hob).andThen .now
  refine wpAny_handleBy_cons (codeAny_handlers_test (ld_glob (X := X.hnd a) (J5.hnd a) hg hcl ?_ hdb)) (by intro q; cases q)
  refine PySem.W.exm_one (K := X.K) J5.kIn LT hm _ _ _ _ (fun _ _ e => e) ?_
  refine codeAny_handlers_suite_as ?_
  refine fl_none (s := { s' with heap := h5 }) fly5 fun h6 fly6 up6 => ?_
  obtain ⟨ob6, hob6, hobc6, hobd6, hobv6⟩ := fly6.there
  have J7 : Inv X pins σ (upd H2 a (.ext φ)) { s' with heap := h6 } := inv_caughtG I os bare (clo h6 fly6.1 ((up4.trans up5).trans up6)) na nw (hφ _ _ hob6 hobc6 hobd6 hobv6) ⟨ob6, hob6⟩ sta
  refine store_ok (X := X.hnd a) (J7.hnd a) hN hi (.inl hloc) (show RelV (.ref a) (Value.ref a) from rfl) (fun s8 J8 => ?_) (.inr hloc)
  refine wpAny_mono (hs pins s8 _ _ (D.gone i) J8 q) (fun f s9 hq => ?_) (fun x s9 z => z.elim)
  cases f with
  | next =>
    obtain ⟨σ', H', J, q⟩ := hq
    exact gone_ok (J.unhnd I.ok) hN hi hloc fun s10 J10 => ⟨_, _, J10, q⟩
  | ret u =>
    obtain ⟨v, σ', H', J, r, q⟩ := hq
    exact gone_ok (J.unhnd I.ok) hN hi hloc fun s10 J10 => ⟨v, _, _, J10, r, q⟩
  | brk =>
    obtain ⟨σ', H', J, q⟩ := hq
    exact gone_ok (J.unhnd I.ok) hN hi hloc fun s10 J10 => ⟨_, _, J10, q⟩
  | cont =>
    obtain ⟨σ', H', J, q⟩ := hq
    exact gone_ok (J.unhnd I.ok) hN hi hloc fun s10 J10 => ⟨_, _, J10, q⟩
theorem handle_as (I : Inv X pins σ H s) (hst : X.stack = X.env :: X.outer) (hf : X.env.frame = some X.env.locals) (os : s'.os = s.os) (bare : AllBare s'.gens)
    (clo : ∀ h'' : Heap, B.StaysIn h'' → s'.heap.UpToSlots h'' → Un (frs X.stack) [] H H2 s.heap h'' ∧ HOk X.prog X.w H2 h'') (fly : FlyD B X.stack a (.ref C) t .none s'.heap) (na : H2 a = none) (nw : s.heap.get? a = none)
    (hg : Gl X xc) (hcl : X.mg xc = some (.ref Bc)) (hm : PySem.W.exmOne X.K (.ref C) (.ref Bc) = some true) (hs : PSs (X.hnd a) (b₀ :: suite) ts) (hN : X.N.Nodup) (hi : X.N[i]? = some n) (hloc : X.env.scope.names.lookup n = some .local)
    (q : ts (D.gone i) (σ.set i (some (.ref a))) (upd H2 a (excO a C))) (hdb : (xc == ("__debug__" : Str)) = false := by decide) (ht : 1 ≤ s'.toks := by first | assumption | exact Inv.tk (by assumption) | exact Nat.le_add_left _ _ | omega) :
    wpAny (model X.prog X.w) X.A (noteFrame (.ref a) X.env) (fun _ s₂ => wpAny (model X.prog X.w) X.A (setFlight (.ref a) none) (fun _ s₃ =>
      wpAny (model X.prog X.w) X.A (handleBy (.ref a) X.env (.ExceptHandler (some (.Name xc np)) (some n) (b₀ :: suite) hp :: rest)) (SP X pins D) X.xe s₃) X.xe s₂) X.xe s' :=
  handle_asG (φ := ExcAt a C) (fun _ o h1 h2 _ _ => ⟨o, h1, h2⟩) (fun _ _ ⟨o, e, c⟩ k => ⟨o, k o e, c⟩) I hst hf os bare clo fly na nw hg hcl hm hs hN hi hloc q hdb
end
def tTryE (K : PySem.W.Frag) (Bc : Addr) (sp : Sp) (t : TA) (i : Nat) (ts : TS) : TS := fun D σ H => t σ H fun vs H1 => sp (vs ++ []) H1 (fun _ H2 => D.nx σ H2)
  fun c _ H2 => ∃ C, c = .ref C ∧ PySem.W.exmOne K (.ref C) (.ref Bc) = some true ∧ ∀ a, H2 a = none → ts (D.gone i) (σ.set i (some (.ref a))) (upd H2 a (excO a C))
section
variable {X : Cx} {c : Bool} {k : Nat} {ps : List Str} {sp : Sp} {x xc n v : Str} {p pos cpos epos np hp vp : Pos} {e : Expr} {es : List Expr} {t : TA} {Bc : Addr} {b₀ : Stmt} {suite : List Stmt} {ts : TS} {i j : Nat}
theorem ps_tryE (C : CalB X.prog X.w X.K X.mg X.base c k x ps sp) (hr : RoomB c k X.A) (hst : X.stack = X.env :: X.outer) (hf : X.env.frame = some X.env.locals) (ha : PA X.nox (e :: es) t)
    (hcl : X.mg xc = some (.ref Bc)) (hs : ∀ a, PSs (X.hnd a) (b₀ :: suite) ts) (hN : X.N.Nodup) (hi : X.N[i]? = some n) (hloc : X.env.scope.names.lookup n = some .local) (hg : Gl X x := by rfl) (hgc : Gl X xc := by rfl) (hdb : (x == ("__debug__" : Str)) = false := by decide) (hdc : (xc == ("__debug__" : Str)) = false := by decide)
    (he : starEach (e :: es) X.env = (false, eval e X.env) :: starEach es X.env := by rfl) (hpl : (backTo cpos (starEach es X.env)).any (·.1) = false := by rfl) (hsw : swapsWith (.Call (.Name x p) (e :: es) [] cpos) none epos.line X.env = pure false := by rfl) :
    PS X (.Try [.Expr (.Call (.Name x p) (e :: es) [] cpos) epos] [.ExceptHandler (some (.Name xc np)) (some n) (b₀ :: suite) hp] [] [] pos) (tTryE X.K Bc sp t i ts) := by
  obtain ⟨f, fd, F, hm, hk, hb⟩ := C.ex
  intro pins s σ H D I h
  refine wpAny_Try_except (wpAny_execs_cons (wpAny_Expr_any (wpAny_Call_Name_kw (ld_glob I hg hm ?_ hdb)) I.quiet hsw))
  refine PySem.W.callWith_K (h₀ := X.base) I.ok.mod.kin hk (thn (PA.any ha cpos I h) fun us s1 ⟨vs, H1, I1, r, q⟩ => ⟨I1.kIn, ?_⟩) he hpl
  refine thn (run_fnB F hr hb I1 r q fun e s' hx ht => ?_) fun v s2 ⟨v', H2, I2, r2, q2⟩ => wpAny_execs_nil (wpAny_execs_nil ⟨σ, H2, I2, q2⟩)
  obtain ⟨a, C, t, H', B, rfl, os, bare, clo, fly, na, nw, C', eC, hmm, q2⟩ := hx
  cases eC
  exact handle_as I1 hst hf os bare clo fly na nw hgc hcl hmm (hs a) hN hi hloc (q2 a na) hdc
end
section
variable {prog : Program} {w : World} {A : Around} {E : Value → Shared → Prop} {s : Shared} {K : PySem.W.Frag} {x D : Addr}
theorem ExcAt.type {M : Model} {h : Heap} (I : ExcAt x D h) : PySem.W.Looks M h (typeOf (.ref x)) (.ref D) := by
  obtain ⟨o, h1, h2⟩ := I
  exact h2 ▸ (PySem.W.Looks.ld h1).andThen .now
structure ExcK (K : PySem.W.Frag) (D : Addr) : Prop where
  cl : (PySem.W.clsIn K D).isSome = true
  ga : PySem.W.findIn K (.ref D) "__getattribute__" = some (some (.builtin "BaseException.__getattribute__"))
  gt : PySem.W.findIn K (.ref D) "__getattr__" = some none
  ha : PySem.W.findIn K (.ref D) "__class__" = some (some (.builtin "object.__class__"))
  hn : PySem.W.specialIn K (.builtin "object.__class__") "__get__" = some (some (.builtin "getset_descriptor.__get__"))
  ht : PySem.W.takesIn K (.builtin "object.__class__") = some true
  hm : PySem.W.mroIn K D (.type "object") = some true
  hb : PySem.W.mroIn K D (.type "BaseException") = some true
end
end L2
namespace L2
open PySem PySem.Spec PySem.Calls PyProof.Rows PySem.W Builtin Builtin.ObjectAttr Builtin.Getset_descriptor
section
variable {prog : Program} {w : World} {A : Around} {E : Value → Shared → Prop} {s : Shared} {K : PySem.W.Frag} {x D : Addr}
theorem exc_find {M : Model} {h : Heap} (X : K.In h) (F : ExcK K D) : Looks M h (find (.ref x) (.ref D) "__class__") (.bind (.builtin "getset_descriptor.__get__") (.builtin "object.__class__")) := by
  have a1 := looks_findIn (M := M) X F.ha
  have a2 : Looks M h (getOf (some (.builtin "object.__class__"))) (some (.builtin "getset_descriptor.__get__")) := looks_specialIn X F.hn
  have a3 : Looks M h (dataDescriptor? (some (.builtin "object.__class__")) (some (.builtin "getset_descriptor.__get__"))) (some (.builtin "getset_descriptor.__get__", .builtin "object.__class__")) := (looks_takesIn (M := M) X F.ht).andThen .now
  exact a1.andThen (a2.andThen (a3.andThen (Looks.tag .now)))
theorem exc_get {R : Result → Shared → Prop} {tp : Value} (X : K.In s.heap) (I : ExcAt x D s.heap) (F : ExcK K D) (h : R (.ok (.ret (.ref D))) s) :
    codeAny (model prog w) A (.call (.builtin "getset_descriptor.__get__") ⟨[.builtin "object.__class__", .ref x, tp], []⟩) R s := by
  obtain ⟨hh, g, dr, t, os⟩ := s
  have y0 := ExcAt.type (M := model prog w) I
  have y1 := looks_mroIn (M := model prog w) X F.hm
  refine codeAny_call_builtin KF.slot_gs.plain KF.entry_gs (KF.slot_gs.check _ _ _ _ _ _ _ _ KF.type_class (KF.args_gs _ _ _) ?_)
  unfold Builtin.«getset_descriptor.__get__» descrGet
  rw [dga_obj]
  refine wpAny_bind (wpAny_pure ?_)
  unfold descrGetter descrCheckInstance descrNameAndClass isInstance
  simp only [KF.owner_class]
  repeat lk
  refine ⟨Code.quiet_builtin _ (by decide +kernel), codeAny_builtin KF.entry_class ?_⟩
  unfold Builtin.«object.__class__» shownTypeOf
  repeat lk
  exact h
theorem exc_check {M : Model} {nameV : Value} {Q : Unit → Shared → Prop} (X : K.In s.heap) (I : ExcAt x D s.heap) (F : ExcK K D) (hq : Q () s) : wpAny M A (checkBuiltinCall "BaseException.__getattribute__" ⟨[.ref x, nameV], []⟩) Q E s := by
  obtain ⟨hh, g, d, t, os⟩ := s
  have y0 := ExcAt.type (M := M) I
  have y1 := looks_mroIn (M := M) X F.hb
  have hk : builtinKind "BaseException.__getattribute__" = some .slot := by decide +kernel
  have hsplit : splitId "BaseException.__getattribute__" = some ("BaseException", "__getattribute__") := by decide +kernel
  have ha := PySem.F.args_bexc_ga (.ref x) nameV
  simp only [checkBuiltinCall, hk, hsplit]
  refine wpAny_bind ?_
  unfold isInstance
  repeat (first | lk | wp_step)
  exact hq
theorem exc_entry {Q : Fin → Shared → Prop} {tk : Tok} (X : K.In s.heap) (I : ExcAt x D s.heap) (F : ExcK K D) (hq : Q (.done (.ret (.ref D))) s) :
    wpAny (model prog w) A (Builtin.«object.__getattribute__» ⟨[.ref x, .str "__class__" tk], []⟩) Q E s := by
  obtain ⟨hh, g, d, t, os⟩ := s
  have y0 := ExcAt.type (M := model prog w) I
  have y2 := exc_find (M := model prog w) (x := x) X F
  unfold Builtin.«object.__getattribute__»
  repeat (any_goals (first | assumption | (with_reducible refine y0.at ?_) | (with_reducible refine y2.at ?_) | wp_step))
  refine exc_get (s := ⟨hh, g, d, t, os⟩) X I F ?_
  repeat (any_goals (first | assumption | (with_reducible refine y0.at ?_) | (with_reducible refine y2.at ?_) | wp_step))
theorem exc_class {Q : Option Value → Shared → Prop} (X : K.In s.heap) (I : ExcAt x D s.heap) (F : ExcK K D) (q : Q (some (.ref D)) { s with toks := s.toks + 1 }) :
    wpAny (model prog w) A (getAttr? (.ref x) "__class__") Q E s := by
  obtain ⟨hh, g, d, t, os⟩ := s
  have y0 := ExcAt.type (M := model prog w) I
  have y1 := looks_findIn (M := model prog w) X F.ga
  have y3 := looks_findIn (M := model prog w) X F.gt
  have f3 := PySem.F.excAttr_ValueError.ga.bind (.ref x)
  have hx1 : (onTheHeap (Value.ref D) && Value.builtin "BaseException.__getattribute__" == Value.builtin "object.__getattribute__") = false := by
    rw [show (Value.builtin "BaseException.__getattribute__" == Value.builtin "object.__getattribute__") = false by decide +kernel]; rfl
  unfold getAttr? getAttrBy? getAttrBy
  refine wpAny_bind (wpAny_mkText (wpAny_bind (wpAny_attempt (wpAny_holding (wpAny_bind (y0.at (wpAny_bind (y1.at ?_))))))))
  dsimp only
  rw [hx1]
  rw [if_neg Bool.false_ne_true]
  unfold getAttrByItsOwn hookBefore
  repeat (any_goals (first | assumption | wp_step | lk))
  refine codeAny_call_builtin PySem.F.excAttr_ValueError.ga.plain PySem.F.entry_bexc_ga (exc_check (s := ⟨hh, g, d, t + 1, os⟩) X I F (exc_entry (s := ⟨hh, g, d, t + 1, os⟩) X I F ?_))
  repeat (any_goals (first | assumption | wp_step | lk))
theorem kitx_exc (F : ExcK K D) : KitX K (.ref x) (.ref D) (ExcAt x D) where
  ty := fun _ _ _ I => I.type
  it := fun M h X _ => by
    obtain ⟨cd, hc⟩ := Option.isSome_iff_exists.mp F.cl
    unfold clsIn at hc
    split at hc
    · rename_i c' d' cd' sl' ho
      intro A' Q' E' s' k q
      unfold isType loadHead
      exact wpAny_bind (wpAny_loadPart (k _ _ (X _ _ ho)) (wpAny_pure q))
    · cases hc
  ne := fun h tp dd its n sl X htp => by
    obtain ⟨cd, hc⟩ := Option.isSome_iff_exists.mp F.cl
    refine Bool.eq_false_iff.mpr fun q => ?_
    have e : D = tp := Value.ref.inj (beq_iff_eq.mp q)
    subst e
    unfold clsIn at hc
    split at hc
    · rename_i c' d' cd' sl' ho
      have z := (X _ _ ho).symm.trans htp
      cases z
    · cases hc
  ca := fun X I k => exc_class X I F k
end
section
variable {X : Cx}
theorem call_isiX : CallR X (.builtin "isinstance") (fun xs H Q => ∃ a C v c b, xs = [.ref a, v] ∧ H a = some (excO a C) ∧ ExcK X.K C ∧ RelV v c ∧ kitOne X.K (.ref C) c = some b ∧ Q (.bl b) H) := by
  intro pins s σ H xs us Q I r h
  obtain ⟨a, C, v, c, b, rfl, ha, F, rc, e, q⟩ := h
  obtain ⟨u, v', rfl, ru, rv⟩ := vals2 r
  cases (show u = Value.ref a from ru)
  have ec : v' = c := by
    cases v with
    | ref D => exact (show v' = .ref D from rv).trans (show c = .ref D from rc).symm
    | ty T => exact (show v' = .type T from rv).trans (show c = .type T from rc).symm
    | non => exact (show v' = .none from rv).trans (show c = .none from rc).symm
    | bl z => exact (show v' = .bool z from rv).trans (show c = .bool z from rc).symm
    | int i => obtain ⟨t, rfl⟩ := rc; exact absurd e (by unfold kitOne kitCls; simp)
    | str i => obtain ⟨t, rfl⟩ := rc; exact absurd e (by unfold kitOne kitCls; simp)
    | byt i => obtain ⟨t, rfl⟩ := rc; exact absurd e (by unfold kitOne kitCls; simp)
    | flt i => obtain ⟨t, rfl⟩ := rc; exact absurd e (by unfold kitOne kitCls; simp)
  subst ec
  have ob : ObjOk X.prog X.w H s.heap a (excO a C) := I.hok a _ ha
  exact wpAny_with_toks I.tk (kia_one (kitx_exc F) I.kIn ob.1 e (fun z => nomatch z) fun tk htk => ⟨.bl b, H, I.tok _, rfl, q⟩)
end
end L2
namespace Fr
theorem absE (i : Int) : (if i < 0 then -i else i) = (i.natAbs : Int) := by omega
theorem gcd_turn (m n : Nat) : Nat.gcd n (m % n) = Nat.gcd m n := by
  rw [Nat.gcd_comm n (m % n), ← Nat.gcd_rec n m, Nat.gcd_comm]
def gcd (a b : Int) : Int := ((Nat.gcd a.natAbs b.natAbs : Nat) : Int)
theorem gcd_nn (a b : Int) : 0 ≤ gcd a b := Int.natCast_nonneg _
theorem gcd_pos {a b : Int} (h : b ≠ 0) : 0 < gcd a b := by
  unfold gcd
  have : 0 < Nat.gcd a.natAbs b.natAbs := Nat.gcd_pos_of_pos_right _ (by omega)
  omega
theorem gcd_le {a b : Int} (h : b ≠ 0) : gcd a b ≤ (b.natAbs : Int) := by
  unfold gcd
  have : Nat.gcd a.natAbs b.natAbs ≤ b.natAbs := Nat.gcd_le_right _ (by omega)
  omega
theorem gcd_dvd_l (a b : Int) : gcd a b ∣ a := by
  unfold gcd
  exact Int.ofNat_dvd_left.mpr (Nat.gcd_dvd_left _ _)
theorem gcd_dvd_r (a b : Int) : gcd a b ∣ b := by
  unfold gcd
  exact Int.ofNat_dvd_left.mpr (Nat.gcd_dvd_right _ _)
def sg (t b : Int) : Int := if b < 0 then 0 - gcd t b else gcd t b
def lt (t b : Int) : Int := t.fdiv (sg t b)
def lb (t b : Int) : Int := b.fdiv (sg t b)
theorem sg_ne {t b : Int} (h : b ≠ 0) : sg t b ≠ 0 := by
  unfold sg
  have := gcd_pos (a := t) h
  split <;> omega
theorem sg_abs {t b : Int} : (sg t b).natAbs = (gcd t b).natAbs := by
  unfold sg
  split <;> omega
theorem sg_dvd_t (t b : Int) : sg t b ∣ t := by
  unfold sg
  split
  · rw [Int.zero_sub]; exact Int.neg_dvd.mpr (gcd_dvd_l t b)
  · exact gcd_dvd_l t b
theorem sg_dvd_b (t b : Int) : sg t b ∣ b := by
  unfold sg
  split
  · rw [Int.zero_sub]; exact Int.neg_dvd.mpr (gcd_dvd_r t b)
  · exact gcd_dvd_r t b
theorem fdiv_mul {a g : Int} (h : g ∣ a) : a.fdiv g * g = a := by
  rw [Int.fdiv_eq_ediv_of_dvd h]
  exact Int.ediv_mul_cancel h
theorem lt_mul (t b : Int) : lt t b * sg t b = t := fdiv_mul (sg_dvd_t t b)
theorem lb_mul (t b : Int) : lb t b * sg t b = b := fdiv_mul (sg_dvd_b t b)
theorem lb_pos {t b : Int} (h : b ≠ 0) : 0 < lb t b := by
  have e := lb_mul t b
  have g := gcd_pos (a := t) h
  have hs : sg t b = if b < 0 then 0 - gcd t b else gcd t b := rfl
  rcases Int.lt_trichotomy (lb t b) 0 with z | z | z
  · exfalso
    by_cases hb : b < 0
    · rw [if_pos hb] at hs
      have : 0 < lb t b * sg t b := by
        rw [hs]
        exact Int.mul_pos_of_neg_of_neg z (by omega)
      omega
    · rw [if_neg hb] at hs
      have : lb t b * sg t b < 0 := by
        rw [hs]
        exact Int.mul_neg_of_neg_of_pos z g
      omega
  · rw [z] at e; omega
  · exact z
theorem low_same {t b : Int} (h : 0 < b) : (lt t b = t ∧ lb t b = b) ↔ gcd t b = 1 := by
  have hs : sg t b = gcd t b := if_neg (by omega)
  have g := gcd_pos (a := t) (b := b) (by omega)
  have e := lb_mul t b
  constructor
  · rintro ⟨-, h2⟩
    rw [h2, hs] at e
    have : b * gcd t b = b * 1 := by omega
    exact Int.eq_of_mul_eq_mul_left (by omega) this
  · intro h1
    unfold lt lb
    rw [hs, h1, Int.fdiv_one, Int.fdiv_one]
    exact ⟨rfl, rfl⟩
theorem log2_small {n k : Nat} (h : n < 2 ^ k) (hk : 0 < k) : n.log2 < k := by
  by_cases z : n = 0
  · subst z; simpa using hk
  · exact (Nat.log2_lt z).mpr h
theorem lb_abs {t b : Int} (h : b ≠ 0) : (lb t b).natAbs ≤ b.natAbs := by
  have e := lb_mul t b
  have g := sg_ne (t := t) h
  have h1 : (lb t b).natAbs * (sg t b).natAbs = b.natAbs := by rw [← Int.natAbs_mul, e]
  have h2 : 1 ≤ (sg t b).natAbs := by omega
  calc (lb t b).natAbs = (lb t b).natAbs * 1 := (Nat.mul_one _).symm
    _ ≤ (lb t b).natAbs * (sg t b).natAbs := Nat.mul_le_mul_left _ h2
    _ = b.natAbs := h1
end Fr
namespace Fr
theorem gcd_comm' (t b : Int) : ((b.gcd t : Nat) : Int) = gcd t b := by
  unfold gcd Int.gcd
  rw [Nat.gcd_comm]
theorem lt_num {t b : Int} (h : b ≠ 0) : lt t b = (Rat.divInt t b).num := by
  have g0 := gcd_pos (a := t) h
  rw [Rat.num_divInt, gcd_comm']
  have e := lt_mul t b
  have d : gcd t b ∣ b.sign * t := Int.dvd_mul_of_dvd_right (gcd_dvd_l t b)
  refine (Int.ediv_eq_of_eq_mul_left (by omega) ?_).symm
  have hs : sg t b = b.sign * gcd t b := by
    unfold sg
    rcases Int.lt_trichotomy b 0 with z | z | z
    · rw [if_pos z, Int.sign_eq_neg_one_of_neg z]; omega
    · exact absurd z h
    · rw [if_neg (by omega), Int.sign_eq_one_of_pos z]; omega
  have h2 : b.sign * b.sign = 1 := by
    rcases Int.lt_trichotomy b 0 with z | z | z
    · rw [Int.sign_eq_neg_one_of_neg z]; rfl
    · exact absurd z h
    · rw [Int.sign_eq_one_of_pos z]; rfl
  calc b.sign * t = b.sign * (lt t b * sg t b) := by rw [e]
    _ = (b.sign * b.sign) * (lt t b * gcd t b) := by rw [hs]; grind
    _ = lt t b * gcd t b := by rw [h2]; omega
theorem lb_den {t b : Int} (h : b ≠ 0) : lb t b = ((Rat.divInt t b).den : Int) := by
  have e1 := lt_mul t b
  have e2 := lb_mul t b
  have s0 := sg_ne (t := t) h
  have n := lt_num (t := t) h
  have c : (Rat.divInt t b).num * b = t * ((Rat.divInt t b).den : Int) := by
    have z : Rat.divInt (Rat.divInt t b).num ((Rat.divInt t b).den : Int) = Rat.divInt t b := Rat.num_divInt_den _
    have d0 : (((Rat.divInt t b).den : Nat) : Int) ≠ 0 := by
      have := (Rat.divInt t b).den_nz
      omega
    exact (Rat.divInt_eq_divInt_iff d0 h).mp z
  by_cases t0 : t = 0
  · subst t0
    have : Rat.divInt 0 b = 0 := Rat.zero_divInt b
    rw [this]
    have g : gcd 0 b = (b.natAbs : Int) := by unfold gcd; simp
    have bp := lb_pos (t := 0) h
    have a1 : (lb 0 b).natAbs * (sg 0 b).natAbs = b.natAbs := by rw [← Int.natAbs_mul, e2]
    rw [sg_abs, g] at a1
    have b0 : 0 < b.natAbs := by omega
    have a2 : (lb 0 b).natAbs = 1 := by
      have : (lb 0 b).natAbs * b.natAbs = 1 * b.natAbs := by simpa using a1
      exact Nat.eq_of_mul_eq_mul_right b0 this
    show lb 0 b = 1
    omega
  · rw [← n] at c
    have h1 : t * lb t b = t * ((Rat.divInt t b).den : Int) := by
      rw [← c]
      calc t * lb t b = (lt t b * sg t b) * lb t b := by rw [e1]
        _ = lt t b * (lb t b * sg t b) := by grind
        _ = lt t b * b := by rw [e2]
    exact Int.eq_of_mul_eq_mul_left t0 h1
theorem lt_rat (p q : Rat) : p.num * q.den < q.num * p.den ↔ p < q := (Rat.lt_iff p q).symm
end Fr
namespace Fr
theorem lt_abs (t b : Int) (h : b ≠ 0) : (lt t b).natAbs ≤ t.natAbs := by
  have e := lt_mul t b
  have g := sg_ne (t := t) h
  have h1 : (lt t b).natAbs * (sg t b).natAbs = t.natAbs := by rw [← Int.natAbs_mul, e]
  have h2 : 1 ≤ (sg t b).natAbs := by omega
  calc (lt t b).natAbs = (lt t b).natAbs * 1 := (Nat.mul_one _).symm
    _ ≤ (lt t b).natAbs * (sg t b).natAbs := Nat.mul_le_mul_left _ h2
    _ = t.natAbs := h1
end Fr
namespace L2
open PySem PySem.Spec PyProof.Rows
theorem TopFn.calN {c : Bool} {P : Program} {w : World} {K : PySem.W.Frag} {mg : Str → Option Value} {base : Heap} {x : Str} {st : Stmt} {N ps : List Str} {k : Nat} {sp : Sp} (T : TopFn K mg x st) (S : FnScope N ps (defScope st))
    (hb : ∀ (kV doc pm : Value) (an : Option Addr) (cdv ct : Value) (us : List Value), us.length = ps.length → bindArgs (PySem.W.fnOf x x (defArgs st) (defBody st) (defScope st) .none kV doc pm an cdv ct) ⟨us, []⟩ = pure (ps.zip us))
    (len : ∀ vs H Q E, sp vs H Q E → vs.length = ps.length)
    (hbody : ∀ (f : Addr) (cdv : Value) (A : Around) (outer : List Env) (s : Shared) (H : Hp) (vs : List V) (Q : VK) (E : XK), RoomB c k (A.deeper (envOfC x (defScope st) s.heap.objs.size f cdv)) → sp vs H Q E →
      ∃ t, PSs (cxB c P w K mg base N x (defScope st) f cdv A outer s H E).nox (defBody st) t ∧ t { nx := fun _ H' => Q .non H', rt := Q } (start N vs) H) : CalB P w K mg base c (k + 1) x ps sp :=
  T.calB S hb len fun f cdv A outer s H vs Q E hr h => by
    obtain ⟨t, h1, h2⟩ := hbody f cdv A outer s H vs Q E hr h
    exact ⟨t, h1.nox, h2⟩
theorem bt_ValueError : bootBuiltins "ValueError" = some (.type "ValueError") := by decide +kernel
theorem Fun.okB {c : Bool} {P : Program} {w : World} {K : PySem.W.Frag} {mg : Str → Option Value} {base : Heap} {x : Str} {st : Stmt} {f : Addr} {fd : FuncData} {N ps : List Str} {k : Nat} {sp : Sp} (F : Fun K x x st f fd) (S : FnScope N ps (defScope st))
    (len : ∀ vs H Q E, sp vs H Q E → vs.length = ps.length)
    (hbody : ∀ (cdv : Value) (A : Around) (outer : List Env) (s : Shared) (H : Hp) (vs : List V) (Q : VK) (E : XK), RoomB c k (A.deeper (envOfC x (defScope st) s.heap.objs.size f cdv)) → sp vs H Q E →
      ∃ t, PSs (cxB c P w K mg base N x (defScope st) f cdv A outer s H E).nox (defBody st) t ∧ t { nx := fun _ H' => Q .non H', rt := Q } (start N vs) H) : FnB P w K mg base c (k + 1) f fd ps sp := by
  obtain ⟨oc, od, kV, doc, pm, an, cdv, ct, osl, rfl, l, cd⟩ := id F.ex
  exact fnB_of l cd S len fun A outer s H vs Q E hr h => by
    obtain ⟨t, h1, h2⟩ := hbody cdv A outer s H vs Q E hr h
    exact ⟨t, h1.nox, h2⟩
end L2
namespace Lib
open PySem L2
def lim : Nat := 2 ^ 9000
theorem lim_log {n : Nat} (h : n < lim) : n.log2 < 9000 := Fr.log2_small h (by decide)
theorem lim_mul {n : Nat} (h : n < lim) : n < 2 ^ 10000 := Nat.lt_trans h (by unfold lim; decide +kernel)
def spDiv : Sp := fun vs H Q _ => ∃ a b : Int, vs = [.int a, .int b] ∧ Q (.int (Fr.gcd a b)) H
def spLaw (K : PySem.W.Frag) : Sp := fun vs H Q _ => ∃ (a : Addr) (ns : List Int), vs = [.ref a] ∧ SqL K H a (ns.map V.int) ∧ ns.length ≤ 63 ∧ ∀ H', Q (.bl true) H'
theorem decI (i j : Int) : decide (V.int i = V.int j) = decide (i = j) := by
  by_cases h : i = j
  · subst h; simp
  · have : ¬ V.int i = V.int j := fun z => h (V.int.inj z)
    rw [decide_eq_false h, decide_eq_false this]
theorem atI_in {xs : List V} {r : Int} (h0 : 0 ≤ r) (h1 : r < (xs.length : Int)) : ∃ v, atI xs r = some v ∧ v ∈ xs := by
  have hj : r.toNat < xs.length := by omega
  have e : ((r.toNat : Nat) : Int) = r := by omega
  have q : atI xs ((r.toNat : Nat) : Int) = some xs[r.toNat] := atI_nat (List.getElem?_eq_getElem hj)
  rw [e] at q
  exact ⟨_, q, List.getElem_mem hj⟩
theorem cut_ints (ns : List Int) (lo hi : Option Int) : ∀ x ∈ cutV (ns.map V.int) lo hi, ∃ z : Int, x = .int z := fun x hx => by
  unfold cutV at hx
  have h1 := List.mem_of_mem_drop (List.mem_of_mem_take hx)
  obtain ⟨z, _, rfl⟩ := List.mem_map.mp h1
  exact ⟨z, rfl⟩
theorem eqv_pair (a b c d : Int) : PyData.eqv (.tuple [.int a, .int b]) (.tuple [.int c, .int d]) = (decide (a = c) && decide (b = d)) := by
  simp only [PyData.eqv, PyData.eqvAll, Bool.and_true]
  by_cases h1 : a = c <;> by_cases h2 : b = d <;> simp [h1, h2]
end Lib
namespace Lib
open PySem L2
abbrev frO (q : Rat) : HO := .tup [.int q.num, .int (q.den : Int)]
def lim2 : Nat := 2 ^ 4000
theorem lim2_lim : lim2 < lim := by unfold lim lim2; decide +kernel
structure Sm (q : Rat) : Prop where
  n : q.num.natAbs < lim2
  d : q.den < lim2
theorem mulW {x y : Int} (hx : x.natAbs < lim2) (hy : y.natAbs < lim2) : CMulW x y := ⟨lim_mul (Nat.lt_trans hx lim2_lim), lim_mul (Nat.lt_trans hy lim2_lim)⟩
theorem Sm.dn {q : Rat} (h : Sm q) : ((q.den : Int)).natAbs < lim2 := by rw [Int.natAbs_natCast]; exact h.d
theorem denp (q : Rat) : (0 : Int) < ((q.den : Nat) : Int) := by have := q.den_nz; omega
theorem frO_of {t b : Int} (h : b ≠ 0) : (HO.tup [.int (Fr.lt t b), .int (Fr.lb t b)]) = frO (Rat.divInt t b) := by
  rw [Fr.lt_num h, Fr.lb_den h]
theorem frO_gcd (q : Rat) : Fr.gcd q.num (q.den : Int) = 1 := by
  unfold Fr.gcd
  have := q.reduced
  unfold Nat.Coprime at this
  rw [Int.natAbs_natCast, this]
  rfl
theorem eqv_fr (p q : Rat) : PyData.eqv (.tuple [.int p.num, .int (p.den : Int)]) (.tuple [.int q.num, .int (q.den : Int)]) = decide (p = q) := by
  rw [eqv_pair]
  by_cases h : p = q
  · subst h; simp
  · rw [decide_eq_false h]
    by_cases h1 : p.num = q.num
    · have h2 : ¬ ((p.den : Int) = (q.den : Int)) := fun z => h (Rat.ext h1 (Int.ofNat.inj z))
      simp [h2]
    · simp [h1]
end Lib
namespace Lib
open PySem L2
end Lib
namespace L2
open PySem PySem.Spec PyProof.Rows PySem.Builtin PySem.Builtin.Str
section
variable {X : Cx}
def rStarts : V → List V → Hp → VK → Prop := fun x vs H Q => ∃ i j, x = .str i ∧ vs = [.str j] ∧ Q (.bl (Txt.startswith i j)) H
theorem mt_startswith : MtM X "str.startswith" rStarts := by
  intro pins s σ H x vs v us Q I rx rv h
  obtain ⟨i, j, rfl, rfl, q⟩ := h
  obtain ⟨t, rfl⟩ := rx
  obtain ⟨u, rfl, ru⟩ := rv.one
  obtain ⟨t', rfl⟩ := ru
  exact SC.startswith ⟨.bl _, H, I, rfl, q⟩
theorem post_join_nz {s : Shared} {sep : Str} {Q : Value → Shared → Prop} : ∀ (l : List (Str × Tok)), (∀ p ∈ l, p.2 ≠ 0) → 1 ≤ s.toks → ((Txt.join sep (l.map (·.1))).length ≤ sizeLine ∧ ∀ (t' : NZ) k, 1 ≤ k → Q (.str (Txt.join sep (l.map (·.1))) t'.1) { s with toks := k }) → (joinMade sep l).post Q s
  | [], _, hn, h => ⟨h.1, h.2 ⟨_, Nat.ne_of_gt hn⟩ _ (Nat.le_add_left _ _)⟩
  | [p], nz, hn, h => h.2 ⟨p.2, nz p List.mem_cons_self⟩ s.toks hn
  | _ :: _ :: _, _, hn, h => ⟨h.1, h.2 ⟨_, Nat.ne_of_gt hn⟩ _ (Nat.le_add_left _ _)⟩
theorem nz_at {ys : List Str} {its : List Value} {n : Nat} {v : Value} {x : Str} {t : Tok} (rv : Vals (ys.map V.str) its) (e : its[n]? = some v) (h : v = Value.str x t) : t ≠ 0 := by
  have hlen := Vals.length rv
  have hb : n < (ys.map V.str).length := by rw [hlen]; exact (List.getElem?_eq_some_iff.mp e).1
  rw [List.length_map] at hb
  have e4 : (ys.map V.str)[n]? = some (.str (ys[n]'hb)) := by
    rw [List.getElem?_map, List.getElem?_eq_getElem hb]
    rfl
  obtain ⟨u, hu, ⟨t', ru⟩⟩ := rv.get e4
  rw [e] at hu
  cases hu
  rw [h] at ru
  cases ru
  exact t'.2
theorem with_tk {α : Type} {M : Model} {A : Around} {s : Shared} {t : Sem α} {Q : α → Shared → Prop} {E : Value → Shared → Prop} {n : Nat} (hn : n ≤ s.toks) (h : wpAny M A t (fun a s' => n ≤ s'.toks → Q a s') E s) : wpAny M A t Q E s := wpAny_mono (wpAny_toks_of hn h) (fun _ _ x => x.2 x.1) (fun _ _ x => x.2)
theorem vals_strs : ∀ (l : List (Str × Tok)), (∀ p ∈ l, p.2 ≠ 0) → Vals ((l.map (·.1)).map V.str) (strValues l)
  | [], _ => .nil
  | p :: r, h => .cons ⟨⟨p.2, h p List.mem_cons_self⟩, rfl⟩ (vals_strs r fun q hq => h q (List.mem_cons_of_mem _ hq))
theorem numbered_nz : ∀ (xs : List Str) (n : Nat), 1 ≤ n → ∀ p ∈ numbered n xs, p.2 ≠ 0
  | [], _, _, _, hp => nomatch hp
  | x :: r, n, hn, p, hp => by
    rcases List.mem_cons.mp hp with rfl | h
    · exact Nat.ne_of_gt hn
    · exact numbered_nz r (n + 1) (Nat.le_add_left _ _) p h
theorem post_val_or_nz {s : Shared} {c : Prop} [Decidable c] {y z : Str} {t : NZ} {Q : Value → Shared → Prop} (hn : 1 ≤ s.toks) (h : (if c then y else z).length ≤ sizeLine ∧ ∀ (t' : NZ) (k : Nat), 1 ≤ k → Q (.str (if c then y else z) t'.1) { s with toks := k }) :
    (if c then Made.val (.str y t.1) else Made.str z).post Q s := by
  by_cases hc : c
  · rw [if_pos hc]
    have q := h.2 t s.toks hn
    rw [if_pos hc] at q
    exact q
  · rw [if_neg hc]
    have q := h.2 ⟨s.toks, Nat.ne_of_gt hn⟩ (s.toks + 1) (Nat.le_add_left _ _)
    have q1 := h.1
    rw [if_neg hc] at q q1
    exact ⟨q1, q⟩
def rSplit : V → List V → Hp → VK → Prop := fun x vs H Q => ∃ i j, x = .str i ∧ vs = [.str j] ∧ (j.length == 0) = false ∧ i.length + 2 ≤ sizeLine ∧ ∀ p, H p = none → Q (.ref p) (upd H p (.lst ((Txt.split i j).map V.str)))
theorem mt_split : MtM X "str.split" rSplit := by
  intro pins s σ H x vs v us Q I rx rv h
  obtain ⟨i, j, rfl, rfl, hj, hz, q⟩ := h
  obtain ⟨t, rfl⟩ := rx
  obtain ⟨u, rfl, ru⟩ := rv.one
  obtain ⟨t', rfl⟩ := ru
  have hn : (partsBetween i (occurrences i j 0 i.length (i.length + 1)) j.length).length ≤ sizeLine := by
    have e1 := StrLaws.occ_length_le i j 0 i.length (i.length + 1)
    rw [length_partsBetween]; omega
  have fin : ∀ (l : List (Str × Tok)) (tk : Nat), l.map (·.1) = Txt.split i j → l.length ≤ sizeLine → (∀ p ∈ l, p.2 ≠ 0) → 1 ≤ tk → EP X pins σ Q (.ref s.heap.objs.size) { s with heap := s.heap.push { cls := .type "list", data := .seq (strValues l).toArray }, toks := tk } := fun l tk e hl hnz htk => by
    refine ⟨.ref s.heap.objs.size, _, ?_, rfl, q _ I.fresh⟩
    rw [← e]
    exact I.lnew (vals_strs l hnz) (by rw [List.length_map, List.length_map]; exact hl)
  cases h1 : (decide (i.length < j.length) || decide (strKind i < strKind j))
  · cases hf : (occurrences i j 0 i.length (i.length + 1)).isEmpty
    · refine call_meets F.slot_str_split (typeIs_str _ _ _) F.entry_str_split (F.args_str_split_2 _ _) (meets_str_split_sep i j t t' h1 hj hf (by omega) hn) ?_
      show wants _ _ _ { s with toks := _, heap := s.heap.push { cls := .type "list", data := .seq (strsFrom s.toks (partsBetween i (occurrences i j 0 i.length (i.length + 1)) j.length)).toArray } }
      rw [strsFrom_eq]
      refine fin (numbered s.toks _) _ ((numbered_texts _ _).trans ((if_neg (ne_true_of_eq_false h1)).trans (if_neg (ne_true_of_eq_false hf))).symm) ?_ (numbered_nz _ _ I.tk) (by have := I.tk; omega)
      have := congrArg List.length (numbered_texts s.toks (partsBetween i (occurrences i j 0 i.length (i.length + 1)) j.length))
      rw [List.length_map] at this
      omega
    · exact call_meets F.slot_str_split (typeIs_str _ _ _) F.entry_str_split (F.args_str_split_2 _ _) (meets_str_split_not_found i j t t' h1 hj hf)
        (fin [(i, t)] s.toks ((if_neg (ne_true_of_eq_false h1)).trans (if_pos hf)).symm (by show 1 ≤ sizeLine; decide) (fun p hp => by rw [List.mem_singleton.mp hp]; exact t.2) I.tk)
  · exact call_meets F.slot_str_split (typeIs_str _ _ _) F.entry_str_split (F.args_str_split_2 _ _) (meets_str_split_cannot_occur i j t t' h1)
      (fin [(i, t)] s.toks (if_pos h1).symm (by show 1 ≤ sizeLine; decide) (fun p hp => by rw [List.mem_singleton.mp hp]; exact t.2) I.tk)
def rSlS : V → Option Int → Option Int → Hp → VK → Prop := fun x lo hi H Q => ∃ z, x = .str z ∧ z.length ≤ sizeLine ∧ Q (.str (Txt.slice z lo hi)) H
theorem sl_str : SlR X rSlS := by
  intro pins s σ H x v vl vu lo hi sl Q I rx hs pl pu h
  obtain ⟨z, rfl, hz, q⟩ := h
  obtain ⟨t, rfl⟩ := rx
  refine ⟨"str", _, F.slot_str_getitem.lookup, typeIs_str _ _ _, ?_⟩
  obtain ⟨o, ho, hc, hd⟩ := hs
  have fin : ∀ (t' : NZ) k, 1 ≤ k → EP X pins σ Q (.str (Txt.slice z lo hi) t'.1) { s with toks := k } := fun t' k htk => ⟨.str _, H, I.tok _, ⟨t', rfl⟩, q⟩
  have hz' := Nat.le_trans (Txt.slice_le z lo hi) hz
  cases pl with
  | none =>
    cases pu with
    | none => exact wpAny_getItem_str_slice (l := none) (u := none) (st := none) ⟨o, ho, hc, hd⟩ rfl (post_val_or_nz I.tk ⟨hz', fin⟩)
    | int j tj => exact wpAny_getItem_str_slice (l := none) (u := some (j, tj)) (st := none) ⟨o, ho, hc, hd⟩ rfl (post_val_or_nz I.tk ⟨hz', fin⟩)
  | int i ti =>
    cases pu with
    | none => exact wpAny_getItem_str_slice (l := some (i, ti)) (u := none) (st := none) ⟨o, ho, hc, hd⟩ rfl (post_val_or_nz I.tk ⟨hz', fin⟩)
    | int j tj => exact wpAny_getItem_str_slice (l := some (i, ti)) (u := some (j, tj)) (st := none) ⟨o, ho, hc, hd⟩ rfl (post_val_or_nz I.tk ⟨hz', fin⟩)
def PJ (X : Cx) (es : List Expr) (t : Str → St → Hp → VK → Prop) : Prop :=
  ∀ (out : Str) (pins : List (Addr × Obj)) (s : Shared) (σ : St) (H : Hp) (Q : VK), Inv X pins σ H s → t out σ H Q → wpAny (model X.prog X.w) X.A (joinParts out (evalEach es X.env)) (EP X pins σ Q) X.xe s
def Fmt (x : V) (y : Str) : Prop := (∃ i : Int, x = .int i ∧ i.natAbs.log2 < 1920 ∧ y = ((toString i : String) : Str)) ∨ (x = .str y ∧ y.length ≤ sizeLine)
variable {a : Expr} {ta : TE} {es : List Expr} {tr : Str → St → Hp → VK → Prop} {p pos : Pos}
theorem pj_nil : PJ X [] (fun out _ H Q => out.length ≤ sizeLine ∧ Q (.str out) H) := fun out _ s σ H Q I h => joinParts_nil ⟨.str out, H, I.tok _, ⟨⟨_, Nat.ne_of_gt I.tk⟩, rfl⟩, h.2⟩ h.1
theorem pj_fmt (ha : PE X a ta) (hr : PJ X es tr) : PJ X (.FormattedValue a (-1) none p :: es) (fun out σ H Q => ta σ H fun x H1 => ∃ y, Fmt x y ∧ (out ++ y).length ≤ sizeLine ∧ tr (out ++ y) σ H1 Q) := by
  intro out pins s σ H Q I h
  refine joinParts_cons (FormattedValue_plain (thn (ha pins s σ H _ I h) fun v s1 ⟨x, H1, I1, r1, y, hy, hz, q⟩ => ?_))
  rcases hy with ⟨i, rfl, hl, rfl⟩ | ⟨rfl, hl⟩
  · obtain ⟨t, rfl⟩ := r1
    exact formatField_int_small hl ⟨hz, hr _ pins _ σ H1 Q (I1.tok _) q⟩
  · obtain ⟨t, rfl⟩ := r1
    exact wpAny_with_toks I1.tk (formatField_str (fun t' tk htk => ⟨hz, hr _ pins _ σ H1 Q (I1.tok _) q⟩) hl)
theorem pj_str {z : Str} {k : Nat} (hr : PJ X es tr) : PJ X (.Constant (.str z) k p :: es) (fun out σ H Q => (out ++ z).length ≤ sizeLine ∧ tr (out ++ z) σ H Q) := by
  intro out pins s σ H Q I h
  exact joinParts_cons (Calls.Constant_str ⟨h.1, hr _ pins _ σ H Q (I.tok _) h.2⟩)
theorem pe_joined {e1 e2 : Expr} {t : Str → St → Hp → VK → Prop} (h : PJ X (e1 :: e2 :: es) t) : PE X (.JoinedStr (e1 :: e2 :: es) pos) (t Str.empty) := fun pins s σ H Q I q => JoinedStr_many (h _ pins s σ H Q I q)
theorem call_int_text : CallR X (.type "int") (fun xs H Q => ∃ x n, xs = [.str x] ∧ x.length ≤ 640 ∧ PySem.intText? x = some n ∧ Q (.int n) H) := by
  intro pins s σ H xs us Q I r h
  obtain ⟨x, n, rfl, hl, hn, q⟩ := h
  obtain ⟨u, rfl, ru⟩ := vals1 r
  obtain ⟨t, rfl⟩ := ru
  exact call_int_1 (PySem.W.KIN.gives_text hl hn).meets ⟨rfl, ⟨.int n, H, I.tok _, ⟨_, rfl⟩, q⟩⟩
theorem call_all (hc : X.calm = true) : CallR X (.builtin "all") (fun xs H Q => ∃ (p : Addr) (bs : List Bool), xs = [.ref p] ∧ SqL X.K H p (bs.map V.bl) ∧ Q (.bl (bs.all id)) H) := by
  intro pins s σ H xs us Q I r h
  obtain ⟨p, bs, rfl, hp, q⟩ := h
  obtain ⟨u, rfl, ru⟩ := vals1 r
  cases ru
  obtain ⟨its, rv, pl, hz⟩ := I.list hp
  have hlen : its.toArray.size = bs.length := by
    have := rv.length
    rw [List.length_map] at this
    rw [List.size_toArray]; exact this.symm
  have hlt : p < s.heap.objs.size := by
    obtain ⟨o, e, _⟩ := pl.isList
    exact Heap.lt_size e
  have hh : X.A.in1.handled = none := I.ok.hd hc
  refine wpAny_with_toks I.tk (call_all_walk (wpAny_pyIter_list pl.isList ⟨s.heap.objs.size, _, _, _, _, _, fun i => bs.getD i false, rfl, Walks.list hh s.heap.objs.size p (Nat.ne_of_lt hlt) its.toArray, ⟨⟨_, Heap.get?_push_size _ rfl, rfl, rfl⟩, pl.isList.push _⟩, ?_, fun h' tk k htk => ?_⟩))
  · intro i v s1 Q1 E1 hP hQ
    have hg : its[i]? = some v := by simpa using hP
    have hb : bs[i]? = some (bs.getD i false) ∧ RelV (.bl (bs.getD i false)) v := by
      have hi : i < bs.length := by
        have := (List.getElem?_eq_some_iff.mp hg).1
        rw [← hlen, List.size_toArray]; exact this
      have e1 : (bs.map V.bl)[i]? = some (.bl (bs.getD i false)) := by
        rw [List.getElem?_map, List.getD_eq_getElem?_getD, List.getElem?_eq_getElem hi]; rfl
      obtain ⟨u, hu, ru⟩ := rv.get e1
      rw [hg] at hu
      cases hu
      refine ⟨?_, ru⟩
      rw [List.getD_eq_getElem?_getD, List.getElem?_eq_getElem hi]; rfl
    obtain ⟨_, ru⟩ := hb
    cases ru
    exact wpAny_truthy_bool hQ
  · have e : (List.range its.toArray.size).all (fun i => bs.getD i false) = bs.all id := by
      rw [hlen]
      clear hlen rv q k hp hz
      induction bs with
      | nil => rfl
      | cons b r ih =>
        rw [List.length_cons, List.range_succ_eq_map, List.all_cons, List.all_map, List.all_cons, ← ih]
        rfl
    rw [e]
    exact ⟨.bl _, H, I.kept (h' := h') (t' := tk) fun b o e => k b o (by
      intro hb
      have : b = s.heap.objs.size := by simpa using hb
      exact absurd (Heap.lt_size e) (by rw [this]; exact Nat.lt_irrefl _)) (Heap.get?_push_of_some _ e), rfl, q⟩
end
end L2
namespace L2
open PySem PySem.Spec PyProof.Rows PySem.Builtin PySem.Builtin.Str
theorem vals_of_signs {G : Str} : ∀ {vs : List Value} {zs : List Str} {rs : List Value}, AreOf .str vs zs → Paired (fun v r => ∃ z t, v = .str z t ∧ r = .bool (!(occurrences G z 0 G.length 1).isEmpty)) vs rs →
    Vals (zs.map fun z => V.bl (!(occurrences G z 0 G.length 1).isEmpty)) rs
  | _, _, _, .nil, r => by cases r; exact .nil
  | _, _, _, .cons h hs, r => by
    cases r with
    | cons r1 r2 =>
      obtain ⟨t, rfl⟩ := h
      obtain ⟨z, t', e, rfl⟩ := r1
      cases e
      exact .cons rfl (vals_of_signs hs r2)
section
variable {X : Cx}
theorem Inv.laidN {pins : List (Addr × Obj)} {σ : St} {H : Hp} {s : Shared} {a : Addr} {o : HO} {h' : Heap} {tk : Nat} (I : Inv X pins σ H s) (k : ∀ b u, s.heap.get? b = some u → h'.get? b = some u) (na : s.heap.get? a = none)
    (new : ObjOk X.prog X.w (upd H a o) h' a o) (ht : 1 ≤ tk := by first | assumption | exact Inv.tk (by assumption) | exact Nat.le_add_left _ _ | omega) : Inv X pins σ (upd H a o) { s with heap := h', toks := tk } := by
  have hn : H a = none := I.hok.none_of na
  refine inv_behind (s' := { s with heap := h', toks := tk }) I rfl I.bare ⟨⟨fun b u e _ _ _ => k b u e, fun b u e _ _ _ => ⟨u.slots, k b u e⟩, fun b u e n _ => ?_, fun b u e _ => ⟨u, k b u e⟩, fun b xs e => ?_, fun b u x e => ?_, fun b ps e => ?_⟩, fun b u e => ?_⟩
  · have : b ≠ a := fun z => by rw [z, na] at e; cases e
    rw [upd_ne this]
    exact n
  · rw [upd_ne (ne_of_none e hn)]; exact e
  · rw [upd_ne (ne_of_none e hn)]; exact e
  · exact ⟨#[], by rw [upd_ne (ne_of_none e hn), Array.append_empty]; exact e⟩
  · by_cases hb : b = a
    · subst hb
      rw [upd_same] at e
      cases e
      exact new
    · rw [upd_ne hb] at e
      exact (I.hok b u e).stay (fun c v _ q => k c v q) (fun c q => by rw [upd_ne (ne_of_none q hn)]; exact q) fun c xs q => by rw [upd_ne (ne_of_none q hn)]; exact q
theorem pe_compIn {x g : Str} {px p1 p2 p3 pos : Pos} {iter : Expr} {ti : TE} {scope : Scope} {G : Str} {tG : Tok} (hc : X.calm = true) (hi : PE X iter ti) (hm : X.mg g = some (.str G tG))
    (hfree : ∀ y ∈ scope.names, y.2 ≠ .free) (hcell : ∀ y ∈ scope.names, y.2 ≠ .cell) (hkind : scope.kind = .function) (hnames : ∀ y ∈ scope.names, y.2 = .local → scope.names.lookup y.1 = some .local)
    (hx : scope.names.lookup x = some .local) (hg : scope.names.lookup g = some .globalImplicit) (hd : (x == ("__debug__" : Str)) = false) (hd2 : (g == ("__debug__" : Str)) = false) (hs : ∀ x, foldedSetIterable iter X.env x = pure x := by intro _; rfl) (hmk : behindInMarks .In (.Name g p2) = false := by rfl) :
    PE X (.ListComp (.Compare (.Name x p1) [.In] [.Name g p2] p3) [⟨.Name x px, iter, [], 0⟩] scope pos)
      (fun σ H Q => ti σ H fun v H1 => ∃ y, v = .str y ∧ y.length ≤ sizeLine ∧ ∀ p, H1 p = none → Q (.ref p) (upd H1 p (.lst ((signs y).map fun z => V.bl (!(occurrences G z 0 G.length 1).isEmpty))))) := by
  intro pins s σ H Q I h
  refine with_tk I.tk (wpAny_ListComp_walk (fun _ => true) (fun v r => ∃ z t, v = .str z t ∧ r = .bool (!(occurrences G z 0 G.length 1).isEmpty)) hfree hcell hkind hnames hx (thn (hi pins s σ H _ I h) fun xv s1 ⟨v, H1, I1, r1, y, e, hz, q⟩ => ?_) hs)
  subst e
  obtain ⟨t, rfl⟩ := r1
  refine wpAny_pyIter_str fun o St W hst => ?_
  have up : ∀ (h' : Heap), (∀ b o', b ∉ [s1.heap.objs.size] → (s1.heap.push o).get? b = some o' → h'.get? b = some o') → ∀ b o', s1.heap.get? b = some o' → h'.get? b = some o' :=
    fun h' hk b o' e => hk b o' (old_not_new e) (Heap.get?_push_of_some _ e)
  refine ⟨s1.heap.objs.size, [s1.heap.objs.size], [s1.heap.objs.size], y.cps.size, SignAt y, St, rfl, W X.A (I1.ok.hd hc), hz, hst, ?_, ⟨?_, ?_⟩, ?_⟩
  · intro b hb
    show b < (s1.heap.push o).objs.size
    rw [Heap.size_push, List.mem_singleton.mp hb]
    exact Nat.lt_succ_self _
  · intro C i v s₃ m₃ E' hP hn hm' _ _
    exact wpAny_pure ⟨rfl, s₃.heap, s₃.toks, rfl, fun _ _ e => e⟩
  · intro C i v s₃ m₃ E' hP hp hn hm' k _
    obtain ⟨c, u, hcu, rfl⟩ := hP
    have ns : s₃.heap.Ns mainGlobals X.mg := (I1.mod.glob.keeps I1.bk).keeps (up s₃.heap k)
    refine wpAny_Compare1 (wpAny_Name (wpAny_loadName_local hkind hx hn hm' ?_) hd) hmk
    refine Calls.Name_function_global hkind hg (Calls.loadGlobal_global (by show s₃.heap.Ns X.env.globals X.mg; rw [I1.ok.glob]; exact ns) hm ?_) hd2
    exact in_str ⟨⟨_, _, rfl, rfl⟩, s₃.heap, s₃.toks, rfl, fun _ _ e => e⟩
  · intro D h' tk ys vs hnew hlD hplD hlen hP hF hk htk
    have hD : s1.heap.get? D = none := by
      cases e : s1.heap.get? D with
      | none => rfl
      | some ob =>
        have z : (s1.heap.push o).get? D = some ob := Heap.get?_push_of_some _ e
        have hnew' : (s1.heap.push o).get? D = none := hnew
        rw [z] at hnew'
        cases hnew'
    have hF' : Paired (fun v r => ∃ z t, v = .str z t ∧ r = .bool (!(occurrences G z 0 G.length 1).isEmpty)) vs ys.toList := by
      rw [List.filter_eq_self.mpr (fun _ _ => rfl)] at hF
      exact hF
    have rv := vals_of_signs (areOf_signs hlen hP) hF'
    obtain ⟨n0, hn0⟩ := hplD
    refine ⟨.ref D, _, I1.laidN (a := D) (o := .lst _) (tk := tk) (up h' hk) hD ⟨?_, ys.toList, n0, rv, ?_⟩, rfl, q D (I1.hok.none_of hD)⟩
    · rw [List.length_map, signs_length]; exact hz
    · rw [hn0]
end
end L2
namespace Tx
open PySem PySem.Builtin PySem.Builtin.Str PySem.NumText PyProof.Rows
abbrev cl (x : PySem.Str) : List Nat := x.cps.toList
theorem ext {x y : PySem.Str} (h : cl x = cl y) : x = y := PySem.Str.ext' (Array.toList_inj.mp h)
theorem cl_app (x y : PySem.Str) : cl (x ++ y) = cl x ++ cl y := PySem.W.KT.app_list x y
theorem cl_len (x : PySem.Str) : (cl x).length = x.length := Array.length_toList
def dg (m : Nat) : List Nat := (Nat.toDigits 10 m).map Char.toNat
theorem dg_digits (m : Nat) : AllDigits (dg m) := by
  intro c hc
  obtain ⟨ch, hch, e⟩ := List.mem_map.mp hc
  have r := digit_range (Nat.isDigit_of_mem_toDigits (by decide) (by decide) hch)
  rw [← e]
  exact r
theorem dg_ne (m : Nat) : dg m ≠ [] := by
  intro e
  have h := toDigits_len_ge 10 m
  rw [List.map_eq_nil_iff.mp e] at h
  exact absurd h (by decide)
theorem dg_val (m : Nat) : digitsVal (dg m) = m := PySem.W.KIN.val_back m
theorem cl_num (i : Int) : cl (PySem.Str.ofString (toString i)) = (if i < 0 then [45] else []) ++ dg i.natAbs := by
  cases i with
  | ofNat m =>
    rw [if_neg (by show ¬ ((m : Int) < 0); omega)]
    exact PySem.W.KIN.signs_num m
  | negSucc m =>
    rw [if_pos (by omega), cl, signs_ofString]
    show (("-" ++ Nat.repr (m + 1)).toList.map Char.toNat) = _
    rw [String.toList_append, List.map_append, Nat.toList_repr]
    rfl
def sh (q : Rat) : List Nat := (if q.num < 0 then [45] else []) ++ dg q.num.natAbs ++ (if q.den = 1 then [] else 47 :: dg q.den)
def shS (q : Rat) : PySem.Str := ⟨(sh q).toArray⟩
theorem cl_shS (q : Rat) : cl (shS q) = sh q := List.toList_toArray
def cut (c : Nat) : List Nat → List (List Nat)
  | [] => [[]]
  | a :: r => if a = c then [] :: cut c r else match cut c r with
    | [] => [[a]]
    | p :: ps => (a :: p) :: ps
theorem cut_free {c : Nat} : ∀ {p : List Nat}, c ∉ p → cut c p = [p]
  | [], _ => rfl
  | a :: r, h => by
    have h1 : a ≠ c := fun e => h (e ▸ List.mem_cons_self ..)
    have h2 : c ∉ r := fun e => h (List.mem_cons_of_mem _ e)
    unfold cut
    rw [if_neg h1, cut_free h2]
theorem cut_app {c : Nat} (r : List Nat) : ∀ {p : List Nat}, c ∉ p → cut c (p ++ c :: r) = p :: cut c r
  | [], _ => by
    show cut c (c :: r) = _
    rw [cut, if_pos rfl]
  | a :: p, h => by
    have h1 : a ≠ c := fun e => h (e ▸ List.mem_cons_self ..)
    have h2 : c ∉ p := fun e => h (List.mem_cons_of_mem _ e)
    show cut c (a :: (p ++ c :: r)) = _
    rw [cut, if_neg h1, cut_app r h2]
theorem cut_join {c : Nat} : ∀ {ps : List PySem.Str}, ps ≠ [] → (∀ p ∈ ps, c ∉ cl p) → cut c (cl (PySem.Str.join ⟨#[c]⟩ ps)) = ps.map cl
  | [], h, _ => absurd rfl h
  | [p], _, h => by
    rw [join_one, cut_free (h p (List.mem_cons_self ..))]
    rfl
  | p :: q :: r, _, h => by
    rw [join_cons_cons, cl_app, cl_app]
    show cut c (cl p ++ [c] ++ cl (PySem.Str.join ⟨#[c]⟩ (q :: r))) = _
    rw [List.append_assoc]
    show cut c (cl p ++ c :: cl (PySem.Str.join ⟨#[c]⟩ (q :: r))) = _
    rw [cut_app _ (h p (List.mem_cons_self ..)), cut_join (by simp) fun p hp => h p (List.mem_cons_of_mem _ hp)]
    rfl
theorem split_cut (x : PySem.Str) (c : Nat) : (Txt.split x ⟨#[c]⟩).map cl = cut c (cl x) := by
  have h1 := split_pos x ⟨#[c]⟩
  have h2 := cut_join (c := c) (ps := Txt.split x ⟨#[c]⟩) (fun e => by rw [e] at h1; exact absurd h1 (by decide)) (StrLaws.split_free x c)
  rw [StrLaws.join_split] at h2
  exact h2.symm
theorem starts_one (x : PySem.Str) (c : Nat) : Txt.startswith x ⟨#[c]⟩ = decide ((cl x).head? = some c) := by
  obtain ⟨⟨l⟩⟩ := x
  cases l with
  | nil => rfl
  | cons a r =>
    show (decide (0 + 1 ≤ (a :: r).toArray.size) && ((a :: r).toArray.extract 0 (0 + 1) == #[c])) = decide (some a = some c)
    by_cases h : a = c
    · subst h; simp
    · simp [h]
theorem pick_all : ∀ r : List Nat, (List.range r.length).filterMap (fun k => r[k]?) = r
  | [] => rfl
  | a :: r => by
    rw [List.length_cons, List.range_succ_eq_map, List.filterMap_cons_some (by rfl), List.filterMap_map]
    show a :: (List.range r.length).filterMap (fun k => r[k]?) = _
    rw [pick_all r]
theorem slice_tail (x : PySem.Str) : cl (Txt.slice x (some 1) none) = (cl x).drop 1 := by
  obtain ⟨⟨l⟩⟩ := x
  cases l with
  | nil => rfl
  | cons a r =>
    have e : strSliceIndices (some 1) none 1 (r.length + 1) = (List.range r.length).map (· + 1) := by
      unfold strSliceIndices sliceRange
      simp only [show (1 : Int) > 0 by decide, if_true]
      have h1 : max 0 (min (if (1 : Int) < 0 then 1 + ((r.length + 1 : Nat) : Int) else 1) ((r.length + 1 : Nat) : Int)) = 1 := by
        rw [if_neg (by decide)]
        omega
      rw [h1]
      have h2 : (if (1 : Int) < ((r.length + 1 : Nat) : Int) then (((r.length + 1 : Nat) : Int) - 1 + 1 - 1) / 1 else 0).toNat = r.length := by
        split <;> simp <;> omega
      rw [h2]
      apply List.map_congr_left
      intro k _
      omega
    have hl : (PySem.Str.mk (a :: r).toArray).length = r.length + 1 := by
      show (a :: r).toArray.size = _
      simp
    show cl (Txt.slice (PySem.Str.mk (a :: r).toArray) (some 1) none) = r
    unfold Txt.slice
    rw [hl, e]
    rw [if_neg (by simp)]
    show ((((List.range r.length).map (· + 1)).filterMap (fun k => (a :: r).toArray[k]?)).toArray).toList = r
    rw [List.toList_toArray, List.filterMap_map]
    have : ((fun k => (a :: r).toArray[k]?) ∘ fun x => x + 1) = fun k => r[k]? := by
      funext k
      simp
    rw [this, pick_all]
theorem digit_in (c : Nat) : (!(occurrences (PySem.Str.ofString "0123456789") ⟨#[c]⟩ 0 (PySem.Str.ofString "0123456789").length 1).isEmpty) = decide (48 ≤ c ∧ c ≤ 57) := by
  rw [StrLaws.found_one, signs_ofString]
  show decide (c ∈ [48, 49, 50, 51, 52, 53, 54, 55, 56, 57]) = _
  apply decide_eq_decide.mpr
  simp only [List.mem_cons, List.not_mem_nil, or_false]
  omega
end Tx
namespace Tx
open PySem PySem.Builtin PySem.Builtin.Str PySem.NumText PyProof.Rows
theorem dg_len {m k : Nat} (hk : 0 < k) : (dg m).length ≤ k ↔ m < 10 ^ k := by
  unfold dg
  rw [List.length_map]
  exact Nat.length_toDigits_le_iff (by decide) hk
theorem dg_pos (m : Nat) : 1 ≤ (dg m).length := by
  have := dg_ne m
  cases h : dg m with
  | nil => exact absurd h this
  | cons a r => simp
theorem foldl_lt : ∀ (cs : List Nat) (a : Nat), AllDigits cs → cs.foldl (fun acc c => acc * 10 + (c - 48)) a < (a + 1) * 10 ^ cs.length
  | [], a, _ => by simp
  | c :: r, a, h => by
    have h1 := h.head
    have h2 := foldl_lt r (a * 10 + (c - 48)) h.tail
    rw [List.foldl_cons, List.length_cons]
    refine Nat.lt_of_lt_of_le h2 ?_
    have : a * 10 + (c - 48) + 1 ≤ (a + 1) * 10 := by omega
    calc (a * 10 + (c - 48) + 1) * 10 ^ r.length ≤ (a + 1) * 10 * 10 ^ r.length := Nat.mul_le_mul_right _ this
      _ = (a + 1) * 10 ^ (r.length + 1) := by rw [Nat.mul_assoc, Nat.pow_succ, Nat.mul_comm 10]
theorem val_lt {cs : List Nat} (h : AllDigits cs) (hl : cs.length ≤ 15) : digitsVal cs < 10 ^ 15 := by
  have h1 := foldl_lt cs 0 h
  have h2 : (10 : Nat) ^ cs.length ≤ 10 ^ 15 := Nat.pow_le_pow_right (by decide) hl
  unfold digitsVal
  omega
structure Short (q : Rat) : Prop where
  n : q.num.natAbs < 10 ^ 15
  d : q.den < 10 ^ 15
theorem no_stroke (m : Nat) : 47 ∉ dg m := fun h => by have := dg_digits m 47 h; omega
theorem no_minus (m : Nat) : 45 ∉ dg m := fun h => by have := dg_digits m 45 h; omega
theorem head_dg (m : Nat) (r : List Nat) : (dg m ++ r).head? ≠ some 45 := by
  cases h : dg m with
  | nil => exact absurd h (dg_ne m)
  | cons a l =>
    intro e
    have e' : some a = some 45 := e
    cases e'
    exact no_minus m (by rw [h]; exact List.mem_cons_self ..)
theorem sh_head (q : Rat) : decide ((sh q).head? = some 45) = decide (q.num < 0) := by
  apply decide_eq_decide.mpr
  unfold sh
  by_cases h : q.num < 0
  · rw [if_pos h]; simp [h]
  · rw [if_neg h, List.nil_append]
    exact ⟨fun e => absurd e (head_dg _ _), fun e => absurd e h⟩
def bd (q : Rat) : List Nat := dg q.num.natAbs ++ (if q.den = 1 then [] else 47 :: dg q.den)
theorem sh_bd (q : Rat) : (if q.num < 0 then (sh q).drop 1 else sh q) = bd q := by
  unfold sh bd
  by_cases h : q.num < 0
  · rw [if_pos h, if_pos h]; rfl
  · rw [if_neg h, if_neg h]; rfl
theorem cut_bd (q : Rat) : cut 47 (bd q) = if q.den = 1 then [dg q.num.natAbs] else [dg q.num.natAbs, dg q.den] := by
  unfold bd
  by_cases h : q.den = 1
  · rw [if_pos h, if_pos h, List.append_nil, cut_free (no_stroke _)]
  · rw [if_neg h, if_neg h, cut_app _ (no_stroke _), cut_free (no_stroke _)]
theorem sh_len (q : Rat) (h : Short q) : (sh q).length ≤ 40 := by
  have h1 := (dg_len (m := q.num.natAbs) (k := 15) (by decide)).mpr h.n
  have h2 := (dg_len (m := q.den) (k := 15) (by decide)).mpr h.d
  unfold sh
  rw [List.length_append, List.length_append]
  split <;> split <;> simp only [List.length_cons, List.length_nil] <;> omega
theorem txt_frac (q : Rat) : (PySem.Str.empty ++ PySem.Str.ofString (toString q.num)) ++ (PySem.Str.ofString "/") ++ PySem.Str.ofString (toString ((q.den : Nat) : Int)) = (⟨((if q.num < 0 then [45] else []) ++ dg q.num.natAbs ++ 47 :: dg q.den).toArray⟩ : PySem.Str) := by
  apply ext
  rw [cl_app, cl_app, cl_app, cl_num, cl_num]
  show [] ++ _ ++ [47] ++ _ = _
  rw [cl, List.toList_toArray, if_neg (show ¬ (((q.den : Nat) : Int) < 0) by omega)]
  simp
end Tx
namespace Lib
open PySem L2 Tx PySem.NumText
def spPart (C : Addr) : Sp := fun vs H Q E => ∃ x : PySem.Str, vs = [.str x] ∧ x.length ≤ 100000 ∧
  ((AllDigits (cl x) ∧ 1 ≤ x.length ∧ x.length ≤ 15 ∧ ∀ H', Same H H' → Q (.int ((digitsVal (cl x) : Nat) : Int)) H') ∨
   (¬ (AllDigits (cl x) ∧ 1 ≤ x.length ∧ x.length ≤ 15) ∧ ∀ H', Same H H' → E (.ref C) none H'))
theorem all_fig (x : PySem.Str) : ((PyProof.Rows.signs x).map fun z => V.bl (!(PySem.Builtin.Str.occurrences (PySem.Str.ofString "0123456789") z 0 (PySem.Str.ofString "0123456789").length 1).isEmpty)) = ((cl x).map fun c => decide (48 ≤ c ∧ c ≤ 57)).map V.bl := by
  unfold PyProof.Rows.signs
  rw [List.map_map, List.map_map]
  apply List.map_congr_left
  intro c _
  show V.bl (!(PySem.Builtin.Str.occurrences (PySem.Str.ofString "0123456789") ⟨#[c]⟩ 0 (PySem.Str.ofString "0123456789").length 1).isEmpty) = V.bl (decide (48 ≤ c ∧ c ≤ 57))
  rw [digit_in]
theorem all_iff (l : List Nat) : ((l.map fun c => decide (48 ≤ c ∧ c ≤ 57)).all id) = true ↔ AllDigits l := by
  unfold AllDigits
  rw [List.all_map, List.all_eq_true]
  simp
end Lib
namespace Lib
open PySem L2 Tx PySem.NumText
theorem cl_num_len {i : Int} (h : i.natAbs.log2 < 1920) : (PySem.Str.ofString (toString i)).length ≤ 2000 := by
  rw [← cl_len, cl_num, List.length_append]
  have h1 : i.natAbs < 10 ^ 1900 := by
    by_cases z : i.natAbs = 0
    · rw [z]; exact Nat.pow_pos (by decide)
    · have h2 : i.natAbs < 2 ^ 1920 := (Nat.log2_lt z).mp h
      exact Nat.lt_trans h2 (by decide +kernel)
  have h3 := (dg_len (m := i.natAbs) (k := 1900) (by decide)).mpr h1
  split <;> simp only [List.length_cons, List.length_nil] <;> omega
theorem app_len (x y : PySem.Str) : (x ++ y).length = x.length + y.length := by
  rw [← cl_len, cl_app, List.length_append, cl_len, cl_len]
theorem size2 {n : Nat} (h : n ≤ 10000) : n ≤ sizeLine := Nat.le_trans h (by decide)
end Lib
namespace Tx
theorem cut_ne (c : Nat) : ∀ l : List Nat, cut c l ≠ []
  | [] => by simp [cut]
  | a :: r => by
    unfold cut
    split
    · simp
    · split <;> simp
theorem str_minus : PySem.Str.ofString "-" = ⟨#[45]⟩ := by rfl
theorem str_stroke : PySem.Str.ofString "/" = ⟨#[47]⟩ := by rfl
end Tx
namespace Lib
open PySem L2 Tx PySem.NumText
theorem log_15 {m : Nat} (h : m < 10 ^ 15) : m.log2 < 1920 := Fr.log2_small (Nat.lt_trans h (by decide +kernel)) (by decide)
theorem rat_of {i j : Int} (h1 : 1 ≤ j) (h2 : Fr.gcd i j = 1) : ∃ q : Rat, q.num = i ∧ ((q.den : Nat) : Int) = j := by
  have hj : j ≠ 0 := by omega
  obtain ⟨g1, g2⟩ := (Fr.low_same (t := i) (b := j) (by omega)).mpr h2
  exact ⟨Rat.divInt i j, by rw [← Fr.lt_num hj, g1], by rw [← Fr.lb_den hj, g2]⟩
end Lib
namespace Lib
open PySem L2 Tx
end Lib
namespace L2
open PySem PySem.Spec PyProof.Rows PySem.Builtin PySem.Builtin.Str
end L2
namespace L2
open PySem PySem.Spec PyProof.Rows PySem.Builtin PySem.Builtin.Str
end L2
namespace Tx
open PySem PySem.NumText PySem.Builtin.Str
def dz (m : Nat) : List Nat := if m = 0 then [] else dg m
theorem digit_code : ∀ d : Nat, d < 10 → (Nat.digitChar d).toNat = 48 + d := by decide
theorem dz_step {m : Nat} (h : 0 < m) : dz m = dz (m / 10) ++ [48 + m % 10] := by
  unfold dz
  rw [if_neg (by omega)]
  by_cases hm : m < 10
  · rw [if_pos (by omega), dg, Nat.toDigits_of_lt_base hm]
    show [(Nat.digitChar m).toNat] = _
    rw [digit_code m hm, Nat.mod_eq_of_lt hm]
    rfl
  · rw [if_neg (by omega)]
    have h1 : m % 10 < 10 := Nat.mod_lt m (by decide)
    have t : Nat.toDigits 10 (m / 10) ++ Nat.toDigits 10 (m % 10) = Nat.toDigits 10 (10 * (m / 10) + m % 10) := Nat.toDigits_append_toDigits (by decide) (by omega) h1
    rw [Nat.div_add_mod] at t
    unfold dg
    rw [← t, List.map_append, Nat.toDigits_of_lt_base h1]
    show _ ++ [(Nat.digitChar (m % 10)).toNat] = _
    rw [digit_code _ h1]
theorem dz_pos {m : Nat} (h : 0 < m) : dz m = dg m := by
  unfold dz
  rw [if_neg (by omega)]
theorem sh_inj {p q : Rat} (h : sh p = sh q) : p = q := by
  have hs : decide (p.num < 0) = decide (q.num < 0) := by rw [← sh_head, ← sh_head, h]
  have hb : bd p = bd q := by
    rw [← sh_bd, ← sh_bd, h]
    by_cases z : p.num < 0
    · have z' : q.num < 0 := by rw [decide_eq_true z] at hs; exact of_decide_eq_true hs.symm
      rw [if_pos z, if_pos z']
    · have z' : ¬ q.num < 0 := by rw [decide_eq_false z] at hs; exact of_decide_eq_false hs.symm
      rw [if_neg z, if_neg z']
  have hc := congrArg (cut 47) hb
  rw [cut_bd, cut_bd] at hc
  have val : ∀ m n : Nat, dg m = dg n → m = n := fun m n e => by rw [← dg_val m, ← dg_val n, e]
  have hn : p.num.natAbs = q.num.natAbs ∧ p.den = q.den := by
    by_cases a : p.den = 1 <;> by_cases b : q.den = 1
    · rw [if_pos a, if_pos b] at hc
      exact ⟨val _ _ (by simpa using hc), by rw [a, b]⟩
    · rw [if_pos a, if_neg b] at hc
      simp at hc
    · rw [if_neg a, if_pos b] at hc
      simp at hc
    · rw [if_neg a, if_neg b] at hc
      simp at hc
      exact ⟨val _ _ hc.1, val _ _ hc.2⟩
  refine Rat.ext ?_ hn.2
  have e := hn.1
  by_cases z : p.num < 0
  · have z' : q.num < 0 := by rw [decide_eq_true z] at hs; exact of_decide_eq_true hs.symm
    omega
  · have z' : ¬ q.num < 0 := by rw [decide_eq_false z] at hs; exact of_decide_eq_false hs.symm
    omega
end Tx
namespace Lib
open PySem L2 Tx PySem.NumText
end Lib
namespace Lib
end Lib
namespace L2
open PySem PySem.Spec PyProof.Rows
section
variable {X : Cx}
theorem post_made_nz {s : Shared} {c : Prop} [Decidable c] {y z : PySem.Str} {t : NZ} {Q : Value → Shared → Prop} (hn : 1 ≤ s.toks) (hz : ¬ c → z.length ≤ sizeLine) (h : ∀ (t' : NZ) (k : Nat), 1 ≤ k → Q (.str (if c then y else z) t'.1) { s with toks := k }) :
    (if c then Made.val (.str y t.1) else Made.str z).post Q s := by
  by_cases hc : c
  · rw [if_pos hc]
    have q := h t s.toks hn
    rw [if_pos hc] at q
    exact q
  · rw [if_neg hc]
    have q := h ⟨s.toks, Nat.ne_of_gt hn⟩ (s.toks + 1) (Nat.le_add_left _ _)
    rw [if_neg hc] at q
    exact ⟨hz hc, q⟩
theorem mul_nz {prog : Program} {w : World} {A : Around} {E : Value → Shared → Prop} {s : Shared} {x : PySem.Str} {t : NZ} {u : Tok} {n : Int} {Q : Value → Shared → Prop} (hn : 1 ≤ s.toks) (hok : PySem.MulOk x n) (h : ∀ (t' : NZ) (k : Nat), 1 ≤ k → Q (.str (Txt.mul x n) t'.1) { s with toks := k }) :
    wpAny (model prog w) A (binaryOp .Mult (.str x t.1) (.int n u)) Q E s := by
  refine P.mul_str hok.1 hok.2.1 hok.2.2 ?_
  unfold Txt.mul at h
  by_cases h1 : n < 1
  · rw [if_pos h1]
    have q := h ⟨s.toks, Nat.ne_of_gt hn⟩ (s.toks + 1) (Nat.le_add_left _ _)
    rw [if_pos h1] at q
    exact ⟨by decide, q⟩
  · rw [if_neg h1]
    refine post_made_nz hn (fun hc => fits_reps (hok.2.2 h1 (by simpa using hc))) fun t' k hk => ?_
    have q := h t' k hk
    rw [if_neg h1] at q
    exact q
theorem op_mul_str : OpR X (binaryOp .Mult) (fun x y H Q => ∃ z n, x = .str z ∧ y = .int n ∧ PySem.MulOk z n ∧ Q (.str (Txt.mul z n)) H) := by
  intro pins s σ H x y v u Q I rx ry h
  obtain ⟨z, n, rfl, rfl, hok, q⟩ := h
  obtain ⟨t, rfl⟩ := rx
  obtain ⟨t', rfl⟩ := ry
  exact mul_nz I.tk hok fun t' k htk => ⟨.str _, H, I.tok _, ⟨t', rfl⟩, q⟩
end
end L2
namespace Tx
open PySem PySem.NumText PySem.Builtin.Str
theorem sh_signs (q : Rat) : ∀ c ∈ sh q, (48 ≤ c ∧ c ≤ 57) ∨ c = 45 ∨ c = 47 := fun c hc => by
  unfold sh at hc
  rcases List.mem_append.mp hc with hc | hc
  · rcases List.mem_append.mp hc with hc | hc
    · split at hc
      · exact .inr (.inl (by simpa using hc))
      · cases hc
    · exact .inl (dg_digits _ _ hc)
  · split at hc
    · cases hc
    · rcases List.mem_cons.mp hc with rfl | hc
      · exact .inr (.inr rfl)
      · exact .inl (dg_digits _ _ hc)
theorem dg_inj {m n : Nat} (h : dg m = dg n) : m = n := by rw [← dg_val m, ← dg_val n, h]
end Tx
namespace Tx
open PySem PySem.NumText PySem.Builtin.Str
end Tx
namespace Lib
open PySem L2 Tx PySem.NumText
end Lib
namespace Lib
open PySem L2 Tx PySem.NumText
end Lib
namespace L2
open PySem PySem.Spec PyProof.Rows
section
variable {prog : Program} {w : World} {A : Around} {R : Result → Shared → Prop} {s : Shared}
theorem compLoop_own {elt target iter : Expr} {ifs : List Expr} {scope : Scope} {pos : Pos} {it acc : Value} {env : Env} (I : Nat → Shared → Prop)
    (turn : ∀ n s, I n s → wpAny (model prog w) A (pyNext it) (fun r s₁ => match r with
      | none => R (.ok .next) s₁
      | some v => wpAny (model prog w) A (letOwnedTupleGo target it v) (fun _ s₁' => wpAny (model prog w) A (assign target env v) (fun _ s₂ =>
          wpAny (model prog w) A (forIn ifs true fun c r => if r = true then do let ok ← isTrue c env (eval c env); pure (ForInStep.yield ok) else pure (ForInStep.yield r)) (fun ok s₃ =>
            if ok = true then wpAny (model prog w) A (eval elt env) (fun x s₄ =>
              wpAny (model prog w) A (call (.builtin "list.append") [acc, x]) (fun _ s₅ => ∃ m, m < n ∧ I m s₅) (fun _ _ => False) s₄) (fun _ _ => False) s₃
            else ∃ m, m < n ∧ I m s₃) (fun _ _ => False) s₂) (fun _ _ => False) s₁') (fun _ _ => False) s₁) (fun _ _ => False) s)
    (n : Nat) (h : I n s) :
    codeAny (model prog w) A (.compLoop (.ListComp elt [⟨target, iter, ifs, 0⟩] scope pos) 0 it acc env) R s := by
  refine codeAny_loop rfl I (fun n s hI => ?_) n h
  show wpAny _ A ((compTurn (.ListComp elt [⟨target, iter, ifs, 0⟩] scope pos) 0 it acc env).onRaise (fun x => do noteFrame x env; theTreesLotGoes x)) _ _ s
  refine wpAny_noted ?_
  rw [compTurn_list]
  refine wpAny_bind (wpAny_standAt (wpAny_bind (wpAny_mono (turn n s hI) (fun r s₁ h₁ => ?_) fun _ _ z => z.elim)))
  cases r with
  | none => exact wpAny_pure h₁
  | some v =>
    refine wpAny_bind (wpAny_mono h₁ (fun _ s₁' h₁' => ?_) fun _ _ z => z.elim)
    refine wpAny_bind (wpAny_mono h₁' (fun _ s₂ h₂ => wpAny_bind (wpAny_mono h₂ (fun ok s₃ h₃ => ?_) fun _ _ z => z.elim)) fun _ _ z => z.elim)
    cases ok with
    | false => exact wpAny_pure ⟨rfl, h₃⟩
    | true =>
      exact wpAny_bind (wpAny_bind (wpAny_mono h₃ (fun x s₄ h₄ => wpAny_bind (wpAny_mono h₄ (fun _ s₅ h₅ => wpAny_pure (wpAny_pure ⟨rfl, h₅⟩)) fun _ _ z => z.elim)) fun _ _ z => z.elim))
end
def cxC (X : Cx) (scope : Scope) (cl : List (Str × Addr)) (N' : List Str) (C : Addr) (fp : List Addr) (pins : List (Addr × Obj)) (s2 : Shared) (H2 : Hp) : Cx :=
  { X with N := N', s₀ := s2, H₀ := H2, env := compEnvC scope cl C X.env, outer := X.stack, ex := fp, fn := fun _ => false, pn := X.pn ++ pins, xe := fun _ _ => False }
structure CapOk (X : Cx) (scope : Scope) (cl : List (Str × Addr)) : Prop where
  clos : closureFor scope X.env = pure cl
  sub : ∀ y c, cl.lookup y = some c → X.env.cells.lookup y = some c
  has : ∀ y, ((relabel scope X.env).names.lookup y = some .cell ∨ (relabel scope X.env).names.lookup y = some .free) → ∃ c, cl.lookup y = some c
theorem relabel_same {scope : Scope} {env : Env} (hfree : ∀ y ∈ scope.names, y.2 ≠ .free) : (relabel scope env).names = scope.names := by
  unfold relabel
  exact map_eq_self (l := scope.names) fun x hx => by
    obtain ⟨n, k⟩ := x
    have : (k == NameKind.free) = false := by simpa using hfree _ hx
    simp [this]
theorem cap_nil {X : Cx} {scope : Scope} (hfree : ∀ y ∈ scope.names, y.2 ≠ .free) (hcell : ∀ y ∈ scope.names, y.2 ≠ .cell) : CapOk X scope [] := by
  refine ⟨closureFor_none hfree, fun y c e => (by simp at e), fun y e => ?_⟩
  rw [relabel_same hfree] at e
  exfalso
  rcases e with e | e
  · exact hcell _ (PySem.mem_of_lookup e) rfl
  · exact hfree _ (PySem.mem_of_lookup e) rfl
def capSt (caps : List (Option Nat)) (σ : St) : St := caps.map fun o => o.bind fun j => (σ[j]?).join
section
variable {X : Cx} {pins : List (Addr × Obj)} {σ : St} {H2 : Hp} {s2 : Shared} {scope : Scope} {cl : List (Str × Addr)} {N' : List Str} {C : Addr} {fp : List Addr} {caps : List (Option Nat)}
theorem notStk (I : Inv X pins σ H2 s2) {b : Addr} (h1 : b ≠ X.env.locals) (h2 : b ∉ X.fs) : b ∉ frs X.stack := fun z => (List.mem_cons.mp (I.stkSub b z)).elim h1 h2
theorem inv_comp (I : Inv X pins σ H2 s2) (hf : ∀ b ∈ fp, FpOk X pins H2 b) (hl : ∀ b ∈ fp, b < s2.heap.objs.size) (hk : scope.kind = .function) (cap : CapOk X scope cl) (hC : s2.heap.objs.size ≤ C) {s4 : Shared} (os : s4.os = s2.os) (bare : AllBare s4.gens)
    (k : ∀ b o, s2.heap.get? b = some o → s4.heap.get? b = some o) (ns : s4.heap.Ns C fun _ => none) (hN : caps.length = N'.length)
    (hcap : ∀ (i j : Nat), caps[i]? = some (some j) → ∃ y : Str, N'[i]? = some y ∧ X.N[j]? = some y ∧ (relabel scope X.env).names.lookup y = some .cell ∧ X.env.scope.names.lookup y = some .cell) (ht : 1 ≤ s4.toks := by first | assumption | exact Inv.tk (by assumption) | exact Nat.le_add_left _ _ | omega) :
    Inv (cxC X scope cl N' C fp pins s2 H2) [] (capSt caps σ) H2 s4 := by
  have neC : ∀ b : Addr, b < s2.heap.objs.size → b ≠ C := fun b h => Nat.ne_of_lt (Nat.lt_of_lt_of_le h hC)
  refine ⟨⟨I.ok.mod, ?_, I.ok.glob, I.ok.blt, hC, fun y z c h1 h2 => I.ok.inj y z c (cap.sub y c h1) (cap.sub z c h2), fun y h => cap.has y h, (fun y c z => nomatch z), I.ok.hd, I.ok.frames, .inl rfl, fun b hb => ⟨neC b (hl b hb), fun y c e => (hf b hb).2.2.2.2.1 y c (cap.sub y c e)⟩,
    fun b o e => I.bs b o e, Nat.le_trans I.ok.bsz I.sz, fun b o e hb => ?_, fun b hb => notStk I (hf b hb).2.1 (hf b hb).2.2.1, I.stack, I.stkFree⟩,
    os, bare, Un.kept k, ⟨_, ns, fun i y v h1 h2 h3 => ?_⟩, fun y c e => ?_, I.hok.fresh hC, fun y c e => I.freeC y c (cap.sub y c e), fun p hp => ?_, I.hok.kept k, ?_, ht⟩
  · show (relabel scope X.env).kind = .function
    exact hk
  · rcases (hf b hb).2.2.2.1 with z | z
    · exact I.ok.noex b o e z
    · exact absurd (Nat.lt_of_lt_of_le (Heap.lt_size e) (Nat.le_trans I.ok.bsz z)) (Nat.lt_irrefl _)
  · have h1 : N'[i]? = some y := h1
    unfold capSt at h2
    rw [List.getElem?_map] at h2
    cases hc : caps[i]? with
    | none => rw [hc] at h2; cases h2
    | some o =>
      rw [hc] at h2
      cases o with
      | none => cases h2
      | some j =>
        obtain ⟨y', e1, e2, e3, e4⟩ := hcap i j hc
        rw [h1] at e1
        cases e1
        have hj : σ[j]? = some (some v) := by
          have z : (σ[j]?).join = some v := by simpa using h2
          cases q : σ[j]? with
          | none => rw [q] at z; cases z
          | some w' => rw [q] at z; exact congrArg some z
        obtain ⟨m, hn, hm⟩ := I.loc
        obtain ⟨u, ru, lk⟩ := hm j y v e2 hj (.inr (.inl e4))
        refine ⟨u, ru, .inr ⟨.inl e3, ?_⟩⟩
        rcases lk with ⟨z, _⟩ | ⟨_, c, ec, o', ho', hd'⟩
        · rw [show X.env.kindOf y = X.env.scope.names.lookup y from rfl, e4] at z; cases z
        · obtain ⟨c', ec'⟩ := cap.has y (.inl e3)
          have := cap.sub y c' ec'
          rw [ec] at this
          cases this
          exact ⟨c, ec', o', k _ _ ho', hd'⟩
  · obtain ⟨v, o, ho, hd⟩ := I.cell y c (cap.sub y c e)
    exact ⟨v, o, k _ _ ho, hd⟩
  · have hp : p ∈ (X.pn ++ pins) ++ [] := hp
    rw [List.append_nil] at hp
    obtain ⟨e, n, ne, nf, d⟩ := I.pin p hp
    exact ⟨k _ _ e, n, neC _ (Heap.lt_size e), notStk I ne nf, d⟩
  · show (capSt caps σ).length = N'.length
    unfold capSt
    rw [List.length_map]
    exact hN
theorem comp_end {pl : List (Addr × Obj)} {σ' : St} {H' : Hp} {s' : Shared} {D : Addr} {items : Array Value} {ys : List V} {h'' : Heap} (I : Inv X pins σ H2 s2) (hf : ∀ b ∈ fp, FpOk X pins H2 b) (I' : Inv (cxC X scope cl N' C fp pins s2 H2) pl σ' H' s')
    (hpl : s'.heap.PlainList D items) (nD : H' D = none) (newD : s2.heap.get? D = none) (hDC : D ≠ C) (rv : Vals ys items.toList) (hz : ys.length ≤ sizeLine) (sb : Heap.SameBut C s'.heap h'') : Inv X pins σ (upd H' D (.lst ys)) { s' with heap := h'' } := by
  have hC : s2.heap.objs.size ≤ C := I'.ok.above
  have neC : ∀ b o, s2.heap.get? b = some o → b ≠ C := fun b o e => Nat.ne_of_lt (Nat.lt_of_lt_of_le (Heap.lt_size e) hC)
  have nC : H' C = none := I'.free
  obtain ⟨n0, ho⟩ := hpl
  refine I.call' (s' := { s' with heap := h'' }) (ch := fp) (ht := I'.tk) I'.os ⟨fun b o e n hb hx => sb.extBut b o (neC b o e) (I'.base.keep b o e n hb hx), fun b o e n hb hx => ?_, fun b o e n hx => ?_, fun b o e hx => ?_, fun b xs e => ?_, fun b o u e => ?_, fun b ps e => ?_⟩ (fun b o e => ?_) I'.bare fun b hb => ?_
  · obtain ⟨sl, q⟩ := I'.base.slot b o e n hb hx
    exact ⟨sl, sb.extBut b _ (neC b o e) q⟩
  · have : b ≠ D := fun z => by rw [z, newD] at e; cases e
    rw [upd_ne this]
    exact I'.base.free b o e n hx
  · obtain ⟨o', q⟩ := I'.base.there b o e hx
    exact ⟨o', sb.extBut b _ (neC b o e) q⟩
  · have q := I'.base.tups b xs e
    rw [upd_ne (ne_of_none q nD)]; exact q
  · have q := I'.base.frzs b o u e
    rw [upd_ne (ne_of_none q nD)]; exact q
  · obtain ⟨m, q⟩ := I'.base.tbls b ps e
    exact ⟨m, by rw [upd_ne (ne_of_none q nD)]; exact q⟩
  · by_cases hb : b = D
    · subst hb
      rw [upd_same] at e
      cases e
      exact ⟨hz, items.toList, n0, rv, sb.extBut _ _ hDC ho⟩
    · rw [upd_ne hb] at e
      refine (I'.hok b o e).stay (fun c v hc q => sb.extBut c v ?_ q) (fun c q => by rw [upd_ne (ne_of_none q nD)]; exact q) fun c xs q => by rw [upd_ne (ne_of_none q nD)]; exact q
      intro z
      subst z
      rcases hc with z | z
      · rw [← z, nC] at e; cases e
      · rw [nC] at z; cases z
  · obtain ⟨f0, f1, f2, f3, f4, f5⟩ := hf b hb
    exact ⟨f3, f1, f4, f5⟩
end
def PIfs (X : Cx) (ifs : List Expr) (t : TT) : Prop :=
  ∀ (pins : List (Addr × Obj)) (s : Shared) (σ : St) (H : Hp) (Q : Bool → Hp → Prop), Inv X pins σ H s → t σ H Q →
    wpAny (model X.prog X.w) X.A (forIn ifs true fun c r => if r = true then do let ok ← isTrue c X.env (eval c X.env); pure (ForInStep.yield ok) else pure (ForInStep.yield r)) (TP X pins σ Q) X.xe s
def tYes : TT := fun _ H Q => Q true H
theorem pifs_nil {X : Cx} : PIfs X [] tYes := fun pins s σ H Q I h => by
  simp only [List.forIn_nil]
  exact wpAny_pure ⟨H, I, h⟩
def tCompB (g : TG) (tt : TT) (te : TE) (J : It) (σ : St) (H1 : Hp) (Q : VK) : Prop := ∃ W : Nat → Nat → St → List V → Hp → Prop, (∃ m, W 0 m σ [] H1) ∧ ∀ i m σ' ys H, W i m σ' ys H → ys.length ≤ sizeLine ∧
  ((J.stop i H ∧ ∀ p, H p = none → Q (.ref p) (upd H p (.lst ys))) ∨
   (J.go i H ∧ ∀ x H', J.yld i H x H' → g x σ' H' fun σ2 H2 => tt σ2 H2 fun b H3 => if b = true then te σ2 H3 fun y H4 => ∃ m', m' < m ∧ W (i + 1) m' σ2 (ys ++ [y]) H4 else ∃ m', m' < m ∧ W (i + 1) m' σ2 ys H3))
def tComp (wi : TI) (g : TG) (tt : TT) (te : TE) (caps : List (Option Nat)) : TE := fun σ H Q => wi σ H fun J H1 => tCompB g tt te J (capSt caps σ) H1 Q
theorem comp_run {X : Cx} {tg elt iter : Expr} {ifs : List Expr} {scope : Scope} {pos : Pos} {wi : TI} {g : TG} {tt : TT} {te : TE} {cl : List (Str × Addr)} (N' : List Str) (caps : List (Option Nat)) (hc : X.calm = true) (hi : PI X tg iter wi)
    (hg : ∀ C fp pins s2 H2, PG (cxC X scope cl N' C fp pins s2 H2) tg g) (ht : ∀ C fp pins s2 H2, PIfs (cxC X scope cl N' C fp pins s2 H2) ifs tt) (he : ∀ C fp pins s2 H2, PE (cxC X scope cl N' C fp pins s2 H2) elt te)
    (cap : CapOk X scope cl) (hcell : ∀ y ∈ scope.names, y.2 ≠ .cell) (hkind : scope.kind = .function) (hnames : ∀ y ∈ scope.names, y.2 = .local → scope.names.lookup y.1 = some .local) (hN : caps.length = N'.length)
    (hcap : ∀ (i j : Nat), caps[i]? = some (some j) → ∃ y : Str, N'[i]? = some y ∧ X.N[j]? = some y ∧ (relabel scope X.env).names.lookup y = some .cell ∧ X.env.scope.names.lookup y = some .cell)
    (hs : ∀ x, foldedSetIterable iter X.env x = pure x) {pins : List (Addr × Obj)} {s : Shared} {σ : St} {H : Hp} {Q : VK} {use : Option (Value → Sem Unit)} {QQ : Value → Shared → Prop}
    (fin : ∀ (C D : Addr) (fp : List Addr) (s2 s4 : Shared) (H2 H4 : Hp) (pl : List (Addr × Obj)) (σ' : St) (items : Array Value) (ys : List V), Inv X pins σ H2 s2 → (∀ b ∈ fp, FpOk X pins H2 b) → Inv (cxC X scope cl N' C fp pins s2 H2) pl σ' H4 s4 → s4.heap.PlainList D items → H4 D = none → s2.heap.get? D = none → D ≠ C →
      Vals ys items.toList → ys.length ≤ sizeLine → (∀ p, H4 p = none → Q (.ref p) (upd H4 p (.lst ys))) → compPost (model X.prog X.w) X.A X.xe use QQ (.ref D) C (.ok .next) s4)
    (I : Inv X pins σ H s) (h : tComp wi g tt te caps σ H Q) : wpAny (model X.prog X.w) X.A (comprehension (.ListComp elt [⟨tg, iter, ifs, 0⟩] scope pos) scope X.env (firstIterPos [⟨tg, iter, ifs, 0⟩] pos) (newList []) false (eval iter X.env) use) QQ X.xe s := by
  refine wpAny_comprehension_free (use := use) rfl hs cap.clos hkind hnames (thn (hi pins s σ H _ I h) fun xv s₁ h₁ => thn h₁ fun itv s₂ h₂ => ?_)
  obtain ⟨it, fp, tn, J, H2, rfl, I2, T, st2, f2, W, ⟨m0, w0⟩, turn⟩ := h₂
  have hfp : ∀ b ∈ fp, b < s₂.heap.objs.size := fun b hb => by obtain ⟨o, e, _⟩ := T.obj _ _ st2 b hb; exact Heap.lt_size e
  refine wpAny_newObj_type (wpAny_newFunctionEnv hcell (by intro y hy; simp at hy) (fun h₁ hns₁ hsb₁ => ?_) hkind)
  dsimp only at hns₁ hsb₁ ⊢
  generalize hH2 : s₂.heap.push { cls := .type "list", dict := none, data := .seq ([] : List Value).toArray } = H2' at hns₁ hsb₁ ⊢
  have hC : H2'.objs.size = s₂.heap.objs.size + 1 := by rw [← hH2, Heap.size_push]
  have hDC : s₂.heap.objs.size ≠ H2'.objs.size := by rw [hC]; exact Nat.ne_of_lt (Nat.lt_succ_self _)
  have hCle : s₂.heap.objs.size ≤ H2'.objs.size := by rw [hC]; exact Nat.le_succ _
  have below : ∀ b, b < s₂.heap.objs.size → b ≠ H2'.objs.size := fun b hb => by rw [hC]; exact Nat.ne_of_lt (Nat.lt_succ_of_lt hb)
  have old : ∀ b o, s₂.heap.get? b = some o → h₁.get? b = some o := fun b o e => hsb₁.extBut b o (below b (Heap.lt_size e)) (Heap.get?_push_of_some _ (hH2 ▸ Heap.get?_push_of_some _ e))
  have hacc : h₁.PlainList s₂.heap.objs.size #[] := ⟨_, hsb₁.extBut _ _ hDC (Heap.get?_push_of_some _ (hH2 ▸ Heap.get?_push_size _ rfl))⟩
  have newD : s₂.heap.get? s₂.heap.objs.size = none := Heap.get?_none_of_le (Nat.le_refl _)
  have nD2 : H2 s₂.heap.objs.size = none := I2.hok.fresh (Nat.le_refl _)
  generalize hDD : s₂.heap.objs.size = D at *
  generalize hCC : H2'.objs.size = C at *
  have fpD : ∀ b ∈ fp, b ≠ D := fun b hb => Nat.ne_of_lt (hfp b hb)
  have statX : ∀ {H' : Hp} {pl : List (Addr × Obj)}, (∀ p ∈ pl, p.1 = D) → (∀ b ∈ fp, H' b = none) → ∀ b ∈ fp, FpOk (cxC X scope cl N' C fp pins s₂ H2) pl H' b := fun {H' pl} hpl hn b hb => by
    obtain ⟨f0, f1, f2', f3, f4, f5⟩ := f2 b hb
    refine ⟨hn b hb, below b (hfp b hb), notStk I2 f1 f2', .inl hb, fun y c e => f4 y c (cap.sub y c e), fun p hp => ?_⟩
    rcases List.mem_append.mp hp with hp | hp
    · exact f5 p hp
    · rw [hpl p hp]; exact (fpD b hb).symm
  have ht' : ∀ n s', (∃ i σ' ys, ∃ (items : Array Value), ∃ H', Inv (cxC X scope cl N' C fp pins s₂ H2) [] σ' H' s' ∧ tn i s'.heap ∧ (∀ b ∈ fp, H' b = none) ∧ s'.heap.PlainList D items ∧ Vals ys items.toList ∧ H' D = none ∧ W i n σ' ys H') →
      wpAny (model X.prog X.w) X.A (pyNext (.ref it)) (fun r s₁ => match r with
      | none => compPost (model X.prog X.w) X.A X.xe use QQ (.ref D) C (.ok .next) s₁
      | some v => wpAny (model X.prog X.w) X.A (letOwnedTupleGo tg (.ref it) v) (fun _ s₁' => wpAny (model X.prog X.w) X.A (assign tg (compEnvC scope cl C X.env) v) (fun _ s₂' =>
          wpAny (model X.prog X.w) X.A (forIn ifs true fun c r => if r = true then do let ok ← isTrue c (compEnvC scope cl C X.env) (eval c (compEnvC scope cl C X.env)); pure (ForInStep.yield ok) else pure (ForInStep.yield r)) (fun ok s₃ =>
            if ok = true then wpAny (model X.prog X.w) X.A (eval elt (compEnvC scope cl C X.env)) (fun x s₄ =>
              wpAny (model X.prog X.w) X.A (call (.builtin "list.append") [.ref D, x]) (fun _ s₅ => ∃ m, m < n ∧ ∃ i σ' ys, ∃ (items : Array Value), ∃ H', Inv (cxC X scope cl N' C fp pins s₂ H2) [] σ' H' s₅ ∧ tn i s₅.heap ∧ (∀ b ∈ fp, H' b = none) ∧ s₅.heap.PlainList D items ∧ Vals ys items.toList ∧ H' D = none ∧ W i m σ' ys H') (fun _ _ => False) s₄) (fun _ _ => False) s₃
            else ∃ m, m < n ∧ ∃ i σ' ys, ∃ (items : Array Value), ∃ H', Inv (cxC X scope cl N' C fp pins s₂ H2) [] σ' H' s₃ ∧ tn i s₃.heap ∧ (∀ b ∈ fp, H' b = none) ∧ s₃.heap.PlainList D items ∧ Vals ys items.toList ∧ H' D = none ∧ W i m σ' ys H') (fun _ _ => False) s₂') (fun _ _ => False) s₁') (fun _ _ => False) s₁) (fun _ _ => False) s' := by
    rintro n s3 ⟨i, σ3, ys, items, H3, I3, st3, fr3, pl3, rv3, nD3, w3⟩
    obtain ⟨hz, hw⟩ := turn i n σ3 ys H3 w3
    obtain ⟨n0, ho⟩ := id pl3
    have nfsD : D ∉ frs X.stack := fun z => by
      obtain ⟨_, o, e, _⟩ := I2.stack.mem z
      rw [newD] at e; cases e
    have I3p : Inv (cxC X scope cl N' C fp pins s₂ H2) [(D, { cls := .type "list", data := .seq items n0 })] σ3 H3 s3 := I3.pins_of fun p hp => by
      have e : p = (D, { cls := .type "list", data := .seq items n0 }) := by simpa using hp
      subst e
      exact ⟨ho, nD3, hDC, nfsD, fun v z => by cases z⟩
    have one : ∀ p ∈ [(D, ({ cls := .type "list", data := .seq items n0 } : Obj))], p.1 = D := fun p hp => by
      have e : p = (D, { cls := .type "list", data := .seq items n0 }) := by simpa using hp
      subst e; rfl
    rcases hw with ⟨stop, qn⟩ | ⟨go, step⟩
    · refine thn (T.done (cxC X scope cl N' C fp pins s₂ H2) rfl rfl rfl hc i _ s3 σ3 H3 (fun _ _ => False) I3p (statX one fr3) st3 stop) fun r s4 ⟨hr, I4⟩ => ?_
      subst hr
      obtain ⟨e4, nD4, _⟩ := I4.pin _ (List.mem_append_right _ (List.mem_singleton.mpr rfl))
      exact fin C D fp s₂ s4 H2 H3 _ σ3 items ys I2 f2 I4 ⟨n0, e4⟩ nD4 (hDD ▸ newD) hDC rv3 hz qn
    · refine thn (T.item (cxC X scope cl N' C fp pins s₂ H2) rfl rfl rfl hc i _ s3 σ3 H3 (fun _ _ => False) I3p (statX one fr3) st3 go) fun r s4 ⟨u, hr, h4⟩ => ?_
      subst hr
      refine thn h4 fun _ s5 ⟨x, H5, I5, r5, y5, st5, fr5⟩ => ?_
      have I5' := I5.pinned (statX one fr5) (T.obj _ _ st5)
      refine thn (hg C fp pins s₂ H2 _ s5 σ3 H5 x u _ I5' r5 (step x H5 y5)) fun _ s6 ⟨σ6, H6, I6, q6⟩ => ?_
      refine thn (ht C fp pins s₂ H2 _ s6 σ6 H6 _ I6 q6) fun b s7 ⟨H7, I7, q7⟩ => ?_
      have back : ∀ {H8 : Hp} {s8 : Shared}, Inv (cxC X scope cl N' C fp pins s₂ H2) ([(D, ({ cls := .type "list", data := .seq items n0 } : Obj))] ++ pinsAt fp s5.heap) σ6 H8 s8 →
          Inv (cxC X scope cl N' C fp pins s₂ H2) [] σ6 H8 s8 ∧ tn (i + 1) s8.heap ∧ (∀ b ∈ fp, H8 b = none) ∧ s8.heap.PlainList D items ∧ H8 D = none := fun {H8 s8} I8 => by
        refine ⟨I8.pins_of (fun p hp => nomatch hp), T.keep _ _ _ st5 fun b hb o e => (I8.pin (b, o) (List.mem_append_right _ (List.mem_append_right _ (mem_pinsAt hb e)))).1, fun b hb => ?_, ?_, ?_⟩
        · obtain ⟨o, e, d⟩ := T.obj _ _ st5 b hb
          exact (I8.pin (b, o) (List.mem_append_right _ (List.mem_append_right _ (mem_pinsAt hb e)))).2.1
        · exact ⟨n0, (I8.pin _ (List.mem_append_right _ (List.mem_append_left _ (List.mem_singleton.mpr rfl)))).1⟩
        · exact (I8.pin _ (List.mem_append_right _ (List.mem_append_left _ (List.mem_singleton.mpr rfl)))).2.1
      cases b with
      | false =>
        rw [if_neg Bool.false_ne_true] at q7
        obtain ⟨m', hm, w7⟩ := q7
        obtain ⟨J1, J2, J3, J4, J5⟩ := back I7
        rw [if_neg Bool.false_ne_true]
        exact ⟨m', hm, i + 1, σ6, ys, items, H7, J1, J2, J3, J4, rv3, J5, w7⟩
      | true =>
        rw [if_pos rfl] at q7
        rw [if_pos rfl]
        refine thn (he C fp pins s₂ H2 _ s7 σ6 H7 _ I7 q7) fun v s8 ⟨y, H8, I8, r8, m', hm, w8⟩ => ?_
        obtain ⟨J1, J2, J3, J4, J5⟩ := back I8
        have hit : items.size ≤ sizeLine := by
          have e : ys.length = items.size := by simpa using rv3.length
          omega
        refine wpAny_list_append_plain (hsz := hit) J4 fun h9 hl9 hs9 => ?_
        have nc : ∀ y c, cl.lookup y = some c → c ≠ D := fun y c e z => by
          obtain ⟨v, o, ho, _⟩ := I2.cell y c (cap.sub y c e)
          rw [z, newD] at ho; cases ho
        have np : ∀ p ∈ (X.pn ++ pins) ++ [], p.1 ≠ D := fun p hp z => by
          rw [List.append_nil] at hp
          have e := (I2.pin p hp).1
          rw [z, newD] at e; cases e
        have J9 : Inv (cxC X scope cl N' C fp pins s₂ H2) [] σ6 H8 { s8 with heap := h9 } := J1.turned (it := D) (t' := s8.toks) (fun b o hb e => hs9.extBut b o hb e) J5 hDC (.inr (Nat.le_of_eq hDD)) nc np
        refine ⟨m', hm, i + 1, σ6, ys ++ [y], items.push v, H8, J9, T.keep _ _ _ J2 fun b hb o e => hs9.extBut b o (fpD b hb) e, J3, hl9, ?_, J5, w8⟩
        rw [Array.toList_push]
        exact rv3.append (.cons r8 .nil)
  have I0 : Inv (cxC X scope cl N' C fp pins s₂ H2) [] (capSt caps σ) H2 { s₂ with heap := h₁, toks := s₂.toks + ([] : List (Str × Value)).length } :=
    inv_comp I2 f2 (fun b hb => hDD ▸ hfp b hb) hkind cap (by rw [hDD]; exact hCle) rfl I2.bare old hns₁ hN hcap (ht := I2.tk)
  have st0 : tn 0 h₁ := T.keep _ _ _ st2 fun b _ o e => old b o e
  have loop : ∀ s₃ : Shared, s₃ = { s₂ with heap := h₁, toks := s₂.toks + ([] : List (Str × Value)).length } →
      codeAny (model X.prog X.w) X.A (.compLoop (.ListComp elt [⟨tg, iter, ifs, 0⟩] scope pos) 0 (.ref it) (.ref D) (compEnvC scope cl C X.env)) (compPost (model X.prog X.w) X.A X.xe use QQ (.ref D) C) s₃ := by
    rintro s₃ rfl
    exact compLoop_own _ ht' m0 ⟨0, _, [], #[], H2, I0, st0, fun b hb => (f2 b hb).1, hacc, .nil, nD2, w0⟩
  exact codeAny_compStart_list (loop _ rfl) (T.self X.A 0 _ _ _ st0 (loop _ rfl))
theorem pe_comp {X : Cx} {tg elt iter : Expr} {ifs : List Expr} {scope : Scope} {pos : Pos} {wi : TI} {g : TG} {tt : TT} {te : TE} {cl : List (Str × Addr)} (N' : List Str) (caps : List (Option Nat)) (hc : X.calm = true) (hi : PI X tg iter wi)
    (hg : ∀ C fp pins s2 H2, PG (cxC X scope cl N' C fp pins s2 H2) tg g) (ht : ∀ C fp pins s2 H2, PIfs (cxC X scope cl N' C fp pins s2 H2) ifs tt) (he : ∀ C fp pins s2 H2, PE (cxC X scope cl N' C fp pins s2 H2) elt te)
    (cap : CapOk X scope cl) (hcell : ∀ y ∈ scope.names, y.2 ≠ .cell) (hkind : scope.kind = .function) (hnames : ∀ y ∈ scope.names, y.2 = .local → scope.names.lookup y.1 = some .local) (hN : caps.length = N'.length)
    (hcap : ∀ (i j : Nat), caps[i]? = some (some j) → ∃ y : Str, N'[i]? = some y ∧ X.N[j]? = some y ∧ (relabel scope X.env).names.lookup y = some .cell ∧ X.env.scope.names.lookup y = some .cell)
    (hs : ∀ x, foldedSetIterable iter X.env x = pure x := by intro _; rfl) :
    PE X (.ListComp elt [⟨tg, iter, ifs, 0⟩] scope pos) (tComp wi g tt te caps) := by
  intro pins s σ H Q I h
  rw [eval_ListComp]
  refine comp_run (use := none) N' caps hc hi hg ht he cap hcell hkind hnames hN hcap hs (fun C D fp s2 s4 H2 H4 pl σ' items ys I2 f2 I4 hpl nD newD hDC rv hz qn => ?_) I h
  obtain ⟨m, hn, _⟩ := I4.loc
  exact ⟨m, hn, fun h' sb => ⟨.ref D, _, comp_end I2 f2 I4 hpl nD newD hDC rv hz sb, rfl, qn D nD⟩⟩
def tSetC (i : Nat) (t : TE) : TS := fun D σ H => t σ H fun v H1 => D.nx (σ.set i (some v)) H1
theorem ps_comp {X : Cx} {tg elt iter : Expr} {ifs : List Expr} {scope : Scope} {pos spos py : Pos} {wi : TI} {g : TG} {tt : TT} {te : TE} {cl : List (Str × Addr)} {y : Str} {i : Nat} (hND : X.N.Nodup) (hiy : X.N[i]? = some y) (hy : Loc X.env.scope y) (N' : List Str) (caps : List (Option Nat)) (hc : X.calm = true) (hi : PI X tg iter wi)
    (hg : ∀ C fp pins s2 H2, PG (cxC X scope cl N' C fp pins s2 H2) tg g) (ht : ∀ C fp pins s2 H2, PIfs (cxC X scope cl N' C fp pins s2 H2) ifs tt) (he : ∀ C fp pins s2 H2, PE (cxC X scope cl N' C fp pins s2 H2) elt te)
    (cap : CapOk X scope cl) (hcell : ∀ y ∈ scope.names, y.2 ≠ .cell) (hkind : scope.kind = .function) (hnames : ∀ y ∈ scope.names, y.2 = .local → scope.names.lookup y.1 = some .local) (hN : caps.length = N'.length)
    (hcap : ∀ (i j : Nat), caps[i]? = some (some j) → ∃ y : Str, N'[i]? = some y ∧ X.N[j]? = some y ∧ (relabel scope X.env).names.lookup y = some .cell ∧ X.env.scope.names.lookup y = some .cell)
    (hs : ∀ x, foldedSetIterable iter X.env x = pure x := by intro _; rfl) (hsw : swapsWith (.ListComp elt [⟨tg, iter, ifs, 0⟩] scope pos) (some (.Name y py)) spos.line X.env = pure true := by rfl)
    (hfn : X.fn y = true ∨ X.env.scope.names.lookup y = some .local := by first | exact .inl rfl | exact .inr rfl | assumption) :
    PS X (.Assign [.Name y py] (.ListComp elt [⟨tg, iter, ifs, 0⟩] scope pos) spos) (tSetC i (tComp wi g tt te caps)) := by
  intro pins s σ H D I h
  rw [exec_Assign_Name_used _ _ _ _ hsw]
  refine wpAny_bind (wpAny_standAt (wpAny_bind ?_))
  show wpAny _ X.A (do let _ ← comprehension (.ListComp elt [⟨tg, iter, ifs, 0⟩] scope pos) scope X.env _ (newList []) false (eval iter X.env) (some (assign (.Name y py) X.env))) _ _ s
  refine wpAny_bind (wpAny_mono (comp_run (use := some (assign (.Name y py) X.env)) (QQ := fun _ s' => SP X pins D .next s') N' caps hc hi hg ht he cap hcell hkind hnames hN hcap hs
    (fun C Dl fp s2 s4 H2 H4 pl σ' items ys I2 f2 I4 hpl nD newD hDC rv hz qn => ?_) I h) (fun _ s' hq => wpAny_pure (wpAny_pure hq)) fun _ _ e => e)
  have hC : s2.heap.objs.size ≤ C := I4.ok.above
  obtain ⟨m, hn, _⟩ := I4.loc
  obtain ⟨oC, es, ep, hoC, hdC, hrest⟩ := id hn
  have J : Inv X pins σ (upd H4 Dl (.lst ys)) s4 := comp_end I2 f2 I4 hpl nD newD hDC rv hz (Heap.SameBut.refl ..)
  have nC : upd H4 Dl (.lst ys) C = none := by rw [upd_ne (Ne.symm hDC)]; exact I4.free
  have c1 : C ≠ X.env.locals := Nat.ne_of_gt (Nat.lt_of_lt_of_le I2.lt hC)
  have c2 : C ∉ X.fs := I2.nofs hC
  have J1 : Inv X (pins ++ [(C, oC)]) σ (upd H4 Dl (.lst ys)) s4 := J.pins_of fun p hp => by
    rcases List.mem_append.mp hp with hp | hp
    · exact J.pin p (List.mem_append_right _ hp)
    · have e : p = (C, oC) := by simpa using hp
      subst e
      exact ⟨hoC, nC, c1, c2, fun v z => by rw [hdC] at z; cases z⟩
  show wpAny _ X.A (assign (.Name y py) X.env (.ref Dl)) _ _ s4
  refine wpAny_assign_Name (store_ok J1 hND hiy hy (show RelV (.ref Dl) (Value.ref Dl) from rfl) (fun s5 J5 => ?_) hfn)
  obtain ⟨e5, _⟩ := J5.pin (C, oC) (List.mem_append_right _ (List.mem_append_right _ (List.mem_singleton.mpr rfl)))
  refine ⟨m, ⟨oC, es, ep, e5, hdC, hrest⟩, fun h' sb => ?_⟩
  have J6 : Inv X pins (σ.set i (some (.ref Dl))) (upd H4 Dl (.lst ys)) s5 := J5.unpinned
  refine ⟨_, _, J6.turned (it := C) (t' := s5.toks) (fun b o hb e => sb.extBut b o hb e) nC c1 (.inr (Nat.le_trans I2.sz hC)) (fun x c e z => ?_) (fun p hp z => ?_), qn Dl nD⟩
  · obtain ⟨v, o, ho, _⟩ := I2.cell x c e
    exact absurd (Heap.lt_size ho) (by rw [z]; exact Nat.not_lt.mpr hC)
  · have e := (I2.pin p hp).1
    exact absurd (Heap.lt_size e) (by rw [z]; exact Nat.not_lt.mpr hC)
end L2
namespace L2
open PySem PySem.Spec PyProof.Rows
theorem SqT.keep {K : PySem.W.Frag} {H H' : Hp} {a : Addr} {xs : List V} (s : Same H H') (h : SqT K H a xs) : SqT K H' a xs := by
  rcases h with (h | ⟨o, h⟩) | h
  · exact .inl (.inl (s _ _ h))
  · exact .inl (.inr ⟨o, s _ _ h⟩)
  · exact .inr h
theorem SqL.keep {K : PySem.W.Frag} {H H' : Hp} {a : Addr} {xs : List V} (s : Same H H') (h : SqL K H a xs) : SqL K H' a xs := s.seq h
mutual
theorem DV.keep {K : PySem.W.Frag} {H H' : Hp} (s : Same H H') : ∀ {v : V} {d : PyData}, DV K H v d → DV K H' v d
  | _, _, .non => .non
  | _, _, .bl b => .bl b
  | _, _, .int i => .int i
  | _, _, .str x => .str x
  | _, _, .lst h q => .lst (h.keep s) (DVs.keep s q)
  | _, _, .tup h q => .tup (h.keep s) (DVs.keep s q)
  | _, _, .dct h => .dct (s _ _ h)
theorem DVs.keep {K : PySem.W.Frag} {H H' : Hp} (s : Same H H') : ∀ {vs : List V} {ds : List PyData}, DVs K H vs ds → DVs K H' vs ds
  | _, _, .nil => .nil
  | _, _, .cons h q => .cons (DV.keep s h) (DVs.keep s q)
end
section
variable {K : PySem.W.Frag} {H : Hp} {v : V} {vs : List V} {d d1 d2 d3 d4 : PyData} {ds : List PyData}
theorem DVs.len : ∀ {vs : List V} {ds : List PyData}, DVs K H vs ds → vs.length = ds.length
  | _, _, .nil => rfl
  | _, _, .cons _ q => by rw [List.length_cons, List.length_cons, DVs.len q]
theorem DVs.nil_of (h : DVs K H vs []) : vs = [] := by cases h; rfl
theorem DVs.cons_of (h : DVs K H vs (d :: ds)) : ∃ x xs, vs = x :: xs ∧ DV K H x d ∧ DVs K H xs ds := by
  cases h with
  | cons h q => exact ⟨_, _, rfl, h, q⟩
theorem DV.tup_of (h : DV K H v (.tuple ds)) : ∃ a xs, v = .ref a ∧ SqT K H a xs ∧ DVs K H xs ds := by
  cases h with
  | tup h q => exact ⟨_, _, rfl, h, q⟩
theorem DV.lst_of (h : DV K H v (.list ds)) : ∃ a xs, v = .ref a ∧ SqL K H a xs ∧ DVs K H xs ds := by
  cases h with
  | lst h q => exact ⟨_, _, rfl, h, q⟩
theorem DVs.one (h : DVs K H vs [d1]) : ∃ x, vs = [x] ∧ DV K H x d1 := by
  cases h with
  | cons h q => cases q; exact ⟨_, rfl, h⟩
theorem DVs.two (h : DVs K H vs [d1, d2]) : ∃ x y, vs = [x, y] ∧ DV K H x d1 ∧ DV K H y d2 := by
  cases h with
  | cons h q =>
    obtain ⟨y, rfl, hy⟩ := q.one
    exact ⟨_, _, rfl, h, hy⟩
theorem DVs.three (h : DVs K H vs [d1, d2, d3]) : ∃ x y z, vs = [x, y, z] ∧ DV K H x d1 ∧ DV K H y d2 ∧ DV K H z d3 := by
  cases h with
  | cons h q =>
    obtain ⟨y, z, rfl, hy, hz⟩ := q.two
    exact ⟨_, _, _, rfl, h, hy, hz⟩
theorem DV.t2 (h : DV K H v (.tuple [d1, d2])) : ∃ a x y, v = .ref a ∧ SqT K H a [x, y] ∧ DV K H x d1 ∧ DV K H y d2 := by
  obtain ⟨a, xs, rfl, ha, q⟩ := h.tup_of
  obtain ⟨x, y, rfl, hx, hy⟩ := q.two
  exact ⟨a, x, y, rfl, ha, hx, hy⟩
theorem DV.t3 (h : DV K H v (.tuple [d1, d2, d3])) : ∃ a x y z, v = .ref a ∧ SqT K H a [x, y, z] ∧ DV K H x d1 ∧ DV K H y d2 ∧ DV K H z d3 := by
  obtain ⟨a, xs, rfl, ha, q⟩ := h.tup_of
  obtain ⟨x, y, z, rfl, hx, hy, hz⟩ := q.three
  exact ⟨a, x, y, z, rfl, ha, hx, hy, hz⟩
theorem DV.int_of {i : Int} (h : DV K H v (.int i)) : v = .int i := by cases h; rfl
theorem DV.str_of {x : Str} (h : DV K H v (.str x)) : v = .str x := by cases h; rfl
theorem DV.bl_of {b : Bool} (h : DV K H v (.bool b)) : v = .bl b := by cases h; rfl
theorem DVs.get : ∀ {vs : List V} {ds : List PyData} {i : Nat} {v : V}, DVs K H vs ds → vs[i]? = some v → ∃ d, ds[i]? = some d ∧ DV K H v d
  | _, _, _, _, .nil, e => by simp at e
  | _, _, 0, _, .cons h _, e => by simp at e; subst e; exact ⟨_, rfl, h⟩
  | _, _, i + 1, v, .cons _ q, e => by
    obtain ⟨d, h1, h2⟩ := DVs.get (i := i) (v := v) q (by simpa using e)
    exact ⟨d, by simpa using h1, h2⟩
theorem DVs.append : ∀ {vs ws : List V} {ds es : List PyData}, DVs K H vs ds → DVs K H ws es → DVs K H (vs ++ ws) (ds ++ es)
  | _, _, _, _, .nil, q => q
  | _, _, _, _, .cons h t, q => .cons h (DVs.append t q)
end
def tyD : PyData → String
  | .none => "NoneType"
  | .bool _ => "bool"
  | .int _ => "int"
  | .str _ => "str"
  | .list _ => "list"
  | .tuple _ => "tuple"
  | .dict _ => "dict"
section
variable {X : Cx}
theorem call_isiD : CallR X (.builtin "isinstance") (fun xs H Q => ∃ x d c b, xs = [x, .ty c] ∧ DV X.K H x d ∧ bsub (tyD d) c = some b ∧ Q (.bl b) H) := by
  intro pins s σ H xs us Q I r h
  obtain ⟨x, d, c, b, rfl, hd, e, q⟩ := h
  obtain ⟨u, v, rfl, ru, rv⟩ := vals2 r
  cases (show v = Value.type c from rv)
  have e' := kit_b (K := X.K) e
  refine wpAny_with_toks I.tk ?_
  have fin : ∀ tk, 1 ≤ tk → EP X pins σ Q (.bool b) { s with toks := tk } := fun tk htk => ⟨.bl b, H, I.tok _, rfl, q⟩
  cases hd with
  | non => exact isinst_ok I ru .non e' fin
  | bl b => exact isinst_ok I ru (.bl b) e' fin
  | int i => exact isinst_ok I ru (.int i) e' fin
  | str x => exact isinst_ok I ru (.str x) e' fin
  | lst h _ =>
    cases ru
    obtain ⟨its, rv, ⟨o, n, e1, e2, _⟩, _⟩ := I.list h
    exact PySem.W.kia_one PySem.W.kitx_list I.kIn ⟨o, e1, e2⟩ e' (fun z => nomatch z) fin
  | tup h _ =>
    cases ru
    obtain ⟨its, rv, ⟨o, e1, e2, _⟩, _⟩ := I.tuple h
    exact PySem.W.kia_one PySem.W.kitx_tuple I.kIn ⟨o, e1, e2⟩ e' (fun z => nomatch z) fin
  | dct h => exact isinst_ok I ru (.dK h) e' fin
end
def Nx (n : Nat) (Pv : Nat → St → List V → Hp → Prop) (i : Nat) (σ : St) (ys : List V) (H : Hp) : Prop := ∃ m', m' < n - i ∧ (m' = n - (i + 1) ∧ i + 1 ≤ n ∧ Pv (i + 1) σ ys H)
theorem nx {n : Nat} {Pv : Nat → St → List V → Hp → Prop} {i : Nat} {σ : St} {ys : List V} {H : Hp} (hi : i < n) (h : Pv (i + 1) σ ys H) : Nx n Pv i σ ys H := ⟨n - (i + 1), by omega, rfl, hi, h⟩
theorem lt_of_get {α : Type} {xs : List α} {i : Nat} {x : α} (h : xs[i]? = some x) : i < xs.length := (List.getElem?_eq_some_iff.mp h).1
theorem comp_list {K : PySem.W.Frag} {a : Addr} {xs : List V} {g : TG} {tt : TT} {te : TE} {Q : VK} {σ : St} {H : Hp} (Pv : Nat → St → List V → Hp → Prop) (h0 : Pv 0 σ [] H) (hz : ∀ i σ ys H, i ≤ xs.length → Pv i σ ys H → ys.length ≤ sizeLine ∧ SqL K H a xs)
    (hs : ∀ i x σ ys H, xs[i]? = some x → Pv i σ ys H → g x σ H fun σ2 H2 => tt σ2 H2 fun b H3 => if b = true then te σ2 H3 fun y H4 => Nx xs.length Pv i σ2 (ys ++ [y]) H4 else Nx xs.length Pv i σ2 ys H3)
    (hd : ∀ σ ys H p, Pv xs.length σ ys H → H p = none → Q (.ref p) (upd H p (.lst ys))) :
    tCompB g tt te (Itl K a) σ H Q := by
  refine ⟨fun i m σ ys H => m = xs.length - i ∧ i ≤ xs.length ∧ Pv i σ ys H, ⟨xs.length, by simp, Nat.zero_le _, h0⟩, ?_⟩
  rintro i m σ' ys H ⟨rfl, hi, p⟩
  obtain ⟨z, q⟩ := hz i σ' ys H hi p
  refine ⟨z, ?_⟩
  by_cases hlt : i < xs.length
  · refine .inr ⟨⟨xs, xs[i], q, by simp [hlt]⟩, fun x H' y => ?_⟩
    obtain ⟨rfl, y⟩ := y
    exact hs i x σ' ys _ (y xs q) p
  · have e : i = xs.length := by omega
    subst e
    exact .inl ⟨⟨xs, q, Nat.le_refl _⟩, fun r n => hd σ' ys _ r p n⟩
theorem comp_tup {K : PySem.W.Frag} {a : Addr} {xs : List V} {g : TG} {tt : TT} {te : TE} {Q : VK} {σ : St} {H : Hp} (Pv : Nat → St → List V → Hp → Prop) (h0 : Pv 0 σ [] H) (hz : ∀ i σ ys H, i ≤ xs.length → Pv i σ ys H → ys.length ≤ sizeLine ∧ SqT K H a xs)
    (hs : ∀ i x σ ys H, xs[i]? = some x → Pv i σ ys H → g x σ H fun σ2 H2 => tt σ2 H2 fun b H3 => if b = true then te σ2 H3 fun y H4 => Nx xs.length Pv i σ2 (ys ++ [y]) H4 else Nx xs.length Pv i σ2 ys H3)
    (hd : ∀ σ ys H p, Pv xs.length σ ys H → H p = none → Q (.ref p) (upd H p (.lst ys))) :
    tCompB g tt te (Itt K a) σ H Q := by
  refine ⟨fun i m σ ys H => m = xs.length - i ∧ i ≤ xs.length ∧ Pv i σ ys H, ⟨xs.length, by simp, Nat.zero_le _, h0⟩, ?_⟩
  rintro i m σ' ys H ⟨rfl, hi, p⟩
  obtain ⟨z, q⟩ := hz i σ' ys H hi p
  refine ⟨z, ?_⟩
  by_cases hlt : i < xs.length
  · refine .inr ⟨⟨xs, xs[i], q, by simp [hlt]⟩, fun x H' y => ?_⟩
    obtain ⟨rfl, y⟩ := y
    exact hs i x σ' ys _ (y xs q) p
  · have e : i = xs.length := by omega
    subst e
    exact .inl ⟨⟨xs, q, Nat.le_refl _⟩, fun r n => hd σ' ys _ r p n⟩
theorem comp_range {lo : Int} {n : Nat} {g : TG} {tt : TT} {te : TE} {Q : VK} {σ : St} {H : Hp} (Pv : Nat → St → List V → Hp → Prop) (h0 : Pv 0 σ [] H) (hz : ∀ i σ ys H, i ≤ n → Pv i σ ys H → ys.length ≤ sizeLine)
    (hs : ∀ i σ ys H, i < n → Pv i σ ys H → g (.int (lo + i)) σ H fun σ2 H2 => tt σ2 H2 fun b H3 => if b = true then te σ2 H3 fun y H4 => Nx n Pv i σ2 (ys ++ [y]) H4 else Nx n Pv i σ2 ys H3)
    (hd : ∀ σ ys H p, Pv n σ ys H → H p = none → Q (.ref p) (upd H p (.lst ys))) :
    tCompB g tt te (Itr lo n) σ H Q := by
  refine ⟨fun i m σ ys H => m = n - i ∧ i ≤ n ∧ Pv i σ ys H, ⟨n, by simp, Nat.zero_le _, h0⟩, ?_⟩
  rintro i m σ' ys H ⟨rfl, hi, p⟩
  refine ⟨hz i σ' ys H hi p, ?_⟩
  by_cases hlt : i < n
  · refine .inr ⟨hlt, fun x H' y => ?_⟩
    obtain ⟨rfl, rfl⟩ := y
    exact hs i σ' ys _ hlt p
  · have e : i = n := by omega
    subst e
    exact .inl ⟨Nat.le_refl _, fun r n => hd σ' ys _ r p n⟩
theorem comp_list0 {K : PySem.W.Frag} {a : Addr} {xs : List V} {g : TG} {te : TE} {Q : VK} {σ : St} {H : Hp} (Pv : Nat → St → List V → Hp → Prop) (h0 : Pv 0 σ [] H) (hz : ∀ i σ ys H, i ≤ xs.length → Pv i σ ys H → ys.length ≤ sizeLine ∧ SqL K H a xs)
    (hs : ∀ i x σ ys H, xs[i]? = some x → Pv i σ ys H → g x σ H fun σ2 H2 => te σ2 H2 fun y H4 => Nx xs.length Pv i σ2 (ys ++ [y]) H4)
    (hd : ∀ σ ys H p, Pv xs.length σ ys H → H p = none → Q (.ref p) (upd H p (.lst ys))) : tCompB g tYes te (Itl K a) σ H Q :=
  comp_list Pv h0 hz (fun i x σ ys H hx hp => by
    have := hs i x σ ys H hx hp
    simpa only [tYes, if_true] using this) hd
theorem comp_tup0 {K : PySem.W.Frag} {a : Addr} {xs : List V} {g : TG} {te : TE} {Q : VK} {σ : St} {H : Hp} (Pv : Nat → St → List V → Hp → Prop) (h0 : Pv 0 σ [] H) (hz : ∀ i σ ys H, i ≤ xs.length → Pv i σ ys H → ys.length ≤ sizeLine ∧ SqT K H a xs)
    (hs : ∀ i x σ ys H, xs[i]? = some x → Pv i σ ys H → g x σ H fun σ2 H2 => te σ2 H2 fun y H4 => Nx xs.length Pv i σ2 (ys ++ [y]) H4)
    (hd : ∀ σ ys H p, Pv xs.length σ ys H → H p = none → Q (.ref p) (upd H p (.lst ys))) : tCompB g tYes te (Itt K a) σ H Q :=
  comp_tup Pv h0 hz (fun i x σ ys H hx hp => by
    have := hs i x σ ys H hx hp
    simpa only [tYes, if_true] using this) hd
theorem nocap {caps : List (Option Nat)} {P : Nat → Nat → Prop} (h : caps.all (·.isNone) = true) : ∀ i j, caps[i]? = some (some j) → P i j := fun i j e => by
  have := List.all_eq_true.mp h _ (List.mem_of_getElem? e)
  cases this
end L2
namespace L2
open PySem PySem.Spec PyProof.Rows
theorem RoomB.room {k : Nat} {A : Around} (r : RoomB true k A) : Room k A := ⟨r.hd rfl, r.dp, r.un⟩
structure MC (P : Program) (w : World) (K : PySem.W.Frag) (mg : Str → Option Value) (base : Heap) (k : Nat) (C : Addr) (m : Str) (ps : List Str) (sp : Sp) : Prop where
  ex : ∃ (f : Addr) (fd : FuncData), FnB P w K mg base true k f fd ps sp ∧ Meth K C m f ∧ Binds K fd ps []
  cl : Cls K C
structure MtFn (K : PySem.W.Frag) (C : Addr) (m qual : Str) (st : Stmt) : Prop where
  ex : ∃ (f : Addr) (fd : FuncData), Fun K m qual st f fd ∧ Meth K C m f
  cl : Cls K C
theorem MtFn.mc {P : Program} {w : World} {K : PySem.W.Frag} {mg : Str → Option Value} {base : Heap} {C : Addr} {m qual : Str} {st : Stmt} {N ps : List Str} {k : Nat} {sp : Sp} (T : MtFn K C m qual st) (S : FnScope N ps (defScope st))
    (hb : ∀ (kV doc pm : Value) (an : Option Addr) (cdv ct : Value) (us : List Value), us.length = ps.length → bindArgs (PySem.W.fnOf m qual (defArgs st) (defBody st) (defScope st) .none kV doc pm an cdv ct) ⟨us, []⟩ = pure (ps.zip us))
    (len : ∀ vs H Q E, sp vs H Q E → vs.length = ps.length)
    (hbody : ∀ (f : Addr) (cdv : Value) (A : Around) (outer : List Env) (s : Shared) (H : Hp) (vs : List V) (Q : VK) (E : XK), RoomB true k (A.deeper (envOfC qual (defScope st) s.heap.objs.size f cdv)) → sp vs H Q E →
      ∃ t, PSs (cxB true P w K mg base N qual (defScope st) f cdv A outer s H E).nox (defBody st) t ∧ t { nx := fun _ H' => Q .non H', rt := Q } (start N vs) H) : MC P w K mg base (k + 1) C m ps sp := by
  obtain ⟨f, fd, F, hm⟩ := T.ex
  obtain ⟨oc, od, kV, doc, pm, an, cdv, ct, osl, rfl, l, cd⟩ := id F.ex
  refine ⟨⟨f, _, fnB_of l cd S len fun A outer s H vs Q E hr h => ?_, hm, F.binds hb⟩, T.cl⟩
  obtain ⟨t, h1, h2⟩ := hbody f cdv A outer s H vs Q E hr h
  exact ⟨t, h1.nox, h2⟩
structure MkC (P : Program) (w : World) (K : PySem.W.Frag) (mg : Str → Option Value) (base : Heap) (k : Nat) (x : Str) (C : Addr) (ps : List Str) (sp : Sp) : Prop where
  ex : ∃ (f : Addr) (fd : FuncData), FnB P w K mg base true k f fd ps sp ∧ Mk K C f ∧ Binds K fd ps []
  mg : mg x = some (.ref C)
structure MkFn (K : PySem.W.Frag) (mg : Str → Option Value) (x : Str) (C : Addr) (qual : Str) (st : Stmt) : Prop where
  ex : ∃ (f : Addr) (fd : FuncData), Fun K "__init__" qual st f fd ∧ Mk K C f
  mg : mg x = some (.ref C)
theorem MkFn.mkc {P : Program} {w : World} {K : PySem.W.Frag} {mg : Str → Option Value} {base : Heap} {x : Str} {C : Addr} {qual : Str} {st : Stmt} {N ps : List Str} {k : Nat} {sp : Sp} (T : MkFn K mg x C qual st) (S : FnScope N ps (defScope st))
    (hb : ∀ (kV doc pm : Value) (an : Option Addr) (cdv ct : Value) (us : List Value), us.length = ps.length → bindArgs (PySem.W.fnOf "__init__" qual (defArgs st) (defBody st) (defScope st) .none kV doc pm an cdv ct) ⟨us, []⟩ = pure (ps.zip us))
    (len : ∀ vs H Q E, sp vs H Q E → vs.length = ps.length)
    (hbody : ∀ (f : Addr) (cdv : Value) (A : Around) (outer : List Env) (s : Shared) (H : Hp) (vs : List V) (Q : VK) (E : XK), RoomB true k (A.deeper (envOfC qual (defScope st) s.heap.objs.size f cdv)) → sp vs H Q E →
      ∃ t, PSs (cxB true P w K mg base N qual (defScope st) f cdv A outer s H E).nox (defBody st) t ∧ t { nx := fun _ H' => Q .non H', rt := Q } (start N vs) H) : MkC P w K mg base (k + 1) x C ps sp := by
  obtain ⟨f, fd, F, hm⟩ := T.ex
  obtain ⟨oc, od, kV, doc, pm, an, cdv, ct, osl, rfl, l, cd⟩ := id F.ex
  refine ⟨⟨f, _, fnB_of l cd S len fun A outer s H vs Q E hr h => ?_, hm, F.binds hb⟩, T.mg⟩
  obtain ⟨t, h1, h2⟩ := hbody f cdv A outer s H vs Q E hr h
  exact ⟨t, h1.nox, h2⟩
section
variable {X : Cx} {k : Nat} {C : Addr} {ps : List Str} {sp : Sp} {x m : Str} {p pos apos : Pos} {e o : Expr} {es : List Expr} {ta : TE} {t : TA}
def tMB (P : Program) (w : World) (K : PySem.W.Frag) (mg : Str → Option Value) (base : Heap) (k : Nat) (m : Str) (ta : TE) (t : TA) : TE := fun σ H Q => ta σ H fun x H1 => ∃ a C dx fs ps sp, x = .ref a ∧ H1 a = some (.ins C dx fs) ∧ fs.lookup m = none ∧
  MC P w K mg base k C m ps sp ∧ t σ H1 fun vs H2 => sp (x :: vs) H2 Q E0
theorem pe_mB0 {pl : Sem Bool} (he : PE X o ta) (hr : RoomB true k X.A)
    (ht : eval (.Call (.Attribute o m apos) [] [] pos) X.env = (do
      let ov ← eval o X.env
      standAt apos.atName
      let (f, first) ← holding [ov] (getMethod ov m pl)
      callWith pos f first (backTo pos (starEach [] X.env)) (backToKw pos (keywordEach [] X.env))) := by rfl) :
    PE X (.Call (.Attribute o m apos) [] [] pos) (tMB X.prog X.w X.K X.mg X.base k m ta tNil) := by
  intro pins s σ H Q I h
  refine PySem.W.methodCall_KW (pl := pl) (thn (he pins s σ H _ I h) fun u s1 ⟨x, H1, I1, rx, a, C, dx, fs, ps, sp, ex, ea, l, M, q⟩ => ?_) ht
  subst ex
  obtain rfl : u = Value.ref a := rx
  obtain ⟨f, fd, F, hm, hb⟩ := M.ex
  refine getmeth_ok I1 ea M.cl hm l ?_
  exact PySem.W.callWith_K0 (first := [.ref a]) I1.kIn hm.kp (run_fn (us := [.ref a]) (vs := [.ref a]) (dvs := []) (ds := []) (E := E0) F.ok hr.room hb .nil pass01 I1 (.cons rfl .nil) q)
theorem pe_mkB (M : MkC X.prog X.w X.K X.mg X.base k x C ps sp) (hr : RoomB true (k + 1) X.A) (ha : PA X (e :: es) t) (hg : Gl X x := by rfl) (hdb : (x == ("__debug__" : Str)) = false := by decide)
    (he : starEach (e :: es) X.env = (false, eval e X.env) :: starEach es X.env := by rfl) (hpl : (backTo pos (starEach es X.env)).any (·.1) = false := by rfl) :
    PE X (.Call (.Name x p) (e :: es) [] pos) (tMake C sp [] E0 t) := by
  obtain ⟨f, fd, F, hm, hb⟩ := M.ex
  exact pe_make hm F.ok hr.room hg M.mg hb .nil pass01 ha hdb he hpl
theorem pe_fldB {f : Str} (he : PE X e ta) (hb : attributeBase e f X.env (eval e X.env) = eval e X.env := by rfl) : PE X (.Attribute e f pos) (tFld X.K ta f) := pe_fld he hb
theorem ps_fldB {f : Str} {pos' : Pos} {value : Expr} {tv : TE} (ha : PE X o ta) (hv : PE X value tv) (hs : swapsWith value (some (.Attribute o f pos')) pos.line X.env = pure false := by rfl) : PS X (.Assign [.Attribute o f pos'] value pos) (sFld X.K ta tv f) := ps_fld ha hv hs
end
end L2
namespace L2
open PySem PySem.Spec PyProof.Rows
theorem clos_run (env : Env) : ∀ (l : List (Str × NameKind)) (acc : List (Str × Addr)), (∀ y ∈ l, y.2 = .free → ∃ c, env.cells.lookup y.1 = some c) →
    ∃ cl, (forIn l acc fun (x : Str × NameKind) (cs : List (Str × Addr)) => (if (x.2 == NameKind.free) = true then (cellOf env x.1 >>= fun a => pure (ForInStep.yield ((x.1, a) :: cs))) else pure (ForInStep.yield cs) : Sem (ForInStep (List (Str × Addr))))) = pure cl ∧
      (∀ y c, cl.lookup y = some c → acc.lookup y = some c ∨ env.cells.lookup y = some c) ∧ (∀ y c, acc.lookup y = some c → ∃ c', cl.lookup y = some c') ∧ ∀ y ∈ l, y.2 = .free → ∃ c, cl.lookup y.1 = some c := by
  intro l
  induction l with
  | nil => intro acc _; exact ⟨acc, rfl, fun y c e => .inl e, fun y c e => ⟨c, e⟩, fun _ h => nomatch h⟩
  | cons x r ih =>
    intro acc h
    obtain ⟨n, k⟩ := x
    have hr : ∀ y ∈ r, y.2 = .free → ∃ c, env.cells.lookup y.1 = some c := fun y hy => h y (List.mem_cons_of_mem _ hy)
    rw [List.forIn_cons]
    by_cases hk : k = .free
    · subst hk
      obtain ⟨c, hc⟩ := h (n, .free) List.mem_cons_self rfl
      have ec : cellOf env n = pure c := by unfold cellOf; rw [show env.cells.lookup n = some c from hc]
      rw [if_pos (by rfl), ec, pure_bind, pure_bind]
      obtain ⟨cl, e, h1, h2, h3⟩ := ih ((n, c) :: acc) hr
      refine ⟨cl, e, fun y c' hy => ?_, fun y c' hy => ?_, fun y hy hf => ?_⟩
      · rcases h1 y c' hy with z | z
        · rw [List.lookup_cons] at z
          split at z
          · rename_i ey
            have ey : y = n := by simpa using ey
            subst ey
            cases z
            exact .inr hc
          · exact .inl z
        · exact .inr z
      · by_cases ey : y = n
        · subst ey
          exact h2 y c (by simp)
        · have eb : (y == n) = false := by simpa using ey
          exact h2 y c' (by rw [List.lookup_cons, eb]; exact hy)
      · rcases List.mem_cons.mp hy with z | z
        · subst z
          exact h2 n c (by simp)
        · exact h3 y z hf
    · have hb : ¬ (k == NameKind.free) = true := by simpa using hk
      rw [if_neg hb, pure_bind]
      obtain ⟨cl, e, h1, h2, h3⟩ := ih acc hr
      refine ⟨cl, e, h1, h2, fun y hy hf => ?_⟩
      rcases List.mem_cons.mp hy with z | z
      · subst z; exact absurd hf hk
      · exact h3 y z hf
theorem cap_of {X : Cx} {scope : Scope} (hcell : ∀ y ∈ scope.names, y.2 ≠ .cell) (hf : ∀ y ∈ scope.names, y.2 = .free → ∃ c, X.env.cells.lookup y.1 = some c) : ∃ cl, CapOk X scope cl := by
  obtain ⟨cl, e, h1, h2, h3⟩ := clos_run X.env scope.names [] hf
  refine ⟨cl, ?_, fun y c hy => ?_, fun y hy => ?_⟩
  · unfold closureFor
    rw [show (pure cl : Sem _) = (pure cl >>= fun cs => pure cs) by rw [pure_bind], ← e]
  · rcases h1 y c hy with z | z
    · simp at z
    · exact z
  · have hm : ∃ k, (y, k) ∈ (relabel scope X.env).names ∧ (k = .cell ∨ k = .free) := by
      rcases hy with z | z
      · exact ⟨_, PySem.mem_of_lookup z, .inl rfl⟩
      · exact ⟨_, PySem.mem_of_lookup z, .inr rfl⟩
    obtain ⟨k, hm, hk⟩ := hm
    unfold relabel at hm
    obtain ⟨⟨n, k'⟩, hn, e'⟩ := List.mem_map.mp hm
    have hk' : k' = .free := by
      by_cases z : k' = .free
      · exact z
      · have zb : (k' == NameKind.free) = false := by simpa using z
        simp only [zb, Bool.false_and, Bool.false_eq_true, if_false, Prod.mk.injEq] at e'
        obtain ⟨_, rfl⟩ := e'
        rcases hk with rfl | rfl
        · exact absurd rfl (hcell _ hn)
        · exact absurd rfl z
    subst hk'
    have en : n = y := by
      dsimp only at e'
      split at e'
      · exact (Prod.mk.inj e').1
      · exact (Prod.mk.inj e').1
    subst en
    exact h3 _ hn rfl
theorem cap_def {X : Cx} {scope : Scope} {n : Nat} (hc : X.env.cells = cellsFrom n X.env.scope.names [] := by rfl) (hcell : ∀ y ∈ scope.names, y.2 ≠ .cell) (hf : ∀ y ∈ scope.names, y.2 = .free → X.env.scope.names.lookup y.1 = some .cell) : ∃ cl, CapOk X scope cl :=
  cap_of hcell fun y hy hz => by
    rw [hc]
    exact cell_has (hf y hy hz)
section
variable {X : Cx} {tg elt iter : Expr} {ifs : List Expr} {scope : Scope} {pos spos py : Pos} {wi : TI} {g : TG} {tt : TT} {te : TE}
theorem ps_compX {y : Str} {i : Nat} (hND : X.N.Nodup) (hiy : X.N[i]? = some y) (hy : Loc X.env.scope y) (N' : List Str) (caps : List (Option Nat)) (hc : X.calm = true) (hi : PI X tg iter wi)
    (hg : ∀ cl C fp pins s2 H2, PG (cxC X scope cl N' C fp pins s2 H2) tg g) (ht : ∀ cl C fp pins s2 H2, PIfs (cxC X scope cl N' C fp pins s2 H2) ifs tt) (he : ∀ cl C fp pins s2 H2, PE (cxC X scope cl N' C fp pins s2 H2) elt te)
    (cap : ∃ cl, CapOk X scope cl) (hcell : ∀ y ∈ scope.names, y.2 ≠ .cell) (hkind : scope.kind = .function) (hnames : ∀ y ∈ scope.names, y.2 = .local → scope.names.lookup y.1 = some .local) (hN : caps.length = N'.length)
    (hcap : ∀ (i j : Nat), caps[i]? = some (some j) → ∃ y : Str, N'[i]? = some y ∧ X.N[j]? = some y ∧ (relabel scope X.env).names.lookup y = some .cell ∧ X.env.scope.names.lookup y = some .cell)
    (hs : ∀ x, foldedSetIterable iter X.env x = pure x := by intro _; rfl) (hsw : swapsWith (.ListComp elt [⟨tg, iter, ifs, 0⟩] scope pos) (some (.Name y py)) spos.line X.env = pure true := by rfl)
    (hfn : X.fn y = true ∨ X.env.scope.names.lookup y = some .local := by first | exact .inl rfl | exact .inr rfl | assumption) :
    PS X (.Assign [.Name y py] (.ListComp elt [⟨tg, iter, ifs, 0⟩] scope pos) spos) (tSetC i (tComp wi g tt te caps)) := by
  obtain ⟨cl, cap⟩ := cap
  exact ps_comp hND hiy hy N' caps hc hi (hg cl) (ht cl) (he cl) cap hcell hkind hnames hN hcap hs hsw hfn
end
end L2
namespace Fr
theorem num_den_le {r : Rat} {t b : Int} (h : b ≠ 0) (e : r = Rat.divInt t b) : r.num.natAbs ≤ t.natAbs ∧ r.den ≤ b.natAbs := by
  subst e
  have h1 := lt_abs t b h
  have h2 := lb_abs (t := t) h
  rw [lt_num h] at h1
  rw [lb_den h, Int.natAbs_natCast] at h2
  exact ⟨h1, h2⟩
structure Bd (k : Nat) (q : Rat) : Prop where
  n : q.num.natAbs < 2 ^ k
  d : q.den < 2 ^ k
theorem pow_le {m n : Nat} (h : m ≤ n) : 2 ^ m ≤ 2 ^ n := Nat.pow_le_pow_right (by decide) h
end Fr
namespace Op
open Fr
inductive Pc where
  | gap (d : Rat)
  | glass (p : Rat)
  | stop (lo hi : Rat)
abbrev Ray := Rat × Rat
def Pc.lets : Pc → Ray → Bool
  | .stop lo hi, r => !decide (r.1 < lo) && !decide (hi < r.1)
  | _, _ => true
def Pc.ok : Pc → Prop
  | .stop lo hi => ¬ hi < lo
  | _ => True
end Op
namespace Lib
open PySem L2 Fr Op
def frD (q : Rat) : PyData := .tuple [.int q.num, .int (q.den : Int)]
def pcD : Pc → PyData
  | .gap d => .tuple [.str "gap", frD d]
  | .glass p => .tuple [.str "glass", frD p]
  | .stop lo hi => .tuple [.str "stop", frD lo, frD hi]
def benchD (ps : List Pc) : PyData := .list (ps.map pcD)
section
variable {K : PySem.W.Frag} {H : Hp} {v : V}
theorem _root_.L2.DV.fr {q : Rat} (h : DV K H v (frD q)) : ∃ a, v = .ref a ∧ SqT K H a [.int q.num, .int (q.den : Int)] := by
  obtain ⟨a, x, y, rfl, ha, hx, hy⟩ := DV.t2 h
  rw [hx.int_of, hy.int_of] at ha
  exact ⟨a, rfl, ha⟩
theorem dv_fr {q : Rat} {a : Addr} (h : SqT K H a [.int q.num, .int (q.den : Int)]) : DV K H (.ref a) (frD q) := .tup h (.cons (.int _) (.cons (.int _) .nil))
theorem dv_low {t b : Int} {p : Addr} (b0 : b ≠ 0) : DV K (upd H p (.tup [.int (Fr.lt t b), .int (Fr.lb t b)])) (.ref p) (frD (Rat.divInt t b)) := by
  rw [frO_of b0]
  exact dv_fr (SqT.of upd_same)
end
theorem _root_.Fr.Bd.sm {n : Nat} {q : Rat} (h : Bd n q) (hn : n ≤ 4000) : Sm q := ⟨Nat.lt_of_lt_of_le h.n (by unfold lim2; exact pow_le hn), Nat.lt_of_lt_of_le h.d (by unfold lim2; exact pow_le hn)⟩
structure Flat (n : Nat) (d : PyData) : Prop where
  c : d.canLay0 = true
  d : d.depth ≤ n
theorem Flat.sh {n : Nat} {d : PyData} (h : Flat n d) (hn : n ≤ 64) : SeqAt.shaped d = true := by
  unfold SeqAt.shaped
  rw [h.c, Bool.true_and]
  exact decide_eq_true (Nat.le_trans h.d hn)
theorem flat_all {n : Nat} : ∀ {ds : List PyData}, (∀ d ∈ ds, Flat n d) → PyData.canLayAll0 ds = true ∧ PyData.depthAll ds ≤ n
  | [], _ => ⟨rfl, Nat.zero_le _⟩
  | d :: ds, h => by
    obtain ⟨h1, h2⟩ := flat_all (fun x hx => h x (List.mem_cons_of_mem _ hx))
    have h3 := h d List.mem_cons_self
    refine ⟨?_, ?_⟩
    · rw [PyData.canLayAll0, h3.c, h1]; rfl
    · rw [PyData.depthAll]; exact Nat.max_le.mpr ⟨h3.d, h2⟩
theorem flat_tup {n : Nat} {ds : List PyData} (h : ∀ d ∈ ds, Flat n d) : Flat (n + 1) (.tuple ds) := ⟨(flat_all h).1, by rw [PyData.depth]; exact Nat.succ_le_succ (flat_all h).2⟩
theorem flat_lst {n : Nat} {ds : List PyData} (h : ∀ d ∈ ds, Flat n d) : Flat (n + 1) (.list ds) := ⟨(flat_all h).1, by rw [PyData.depth]; exact Nat.succ_le_succ (flat_all h).2⟩
theorem flat_fr (q : Rat) : Flat 1 (frD q) := ⟨rfl, by show 1 ≤ 1; exact Nat.le_refl _⟩
theorem flat_pc : ∀ p : Pc, Flat 2 (pcD p)
  | .gap d => flat_tup fun x hx => by
    simp only [List.mem_cons, List.not_mem_nil, or_false] at hx
    rcases hx with rfl | rfl
    · exact ⟨by decide +kernel, by decide⟩
    · exact flat_fr _
  | .glass d => flat_tup fun x hx => by
    simp only [List.mem_cons, List.not_mem_nil, or_false] at hx
    rcases hx with rfl | rfl
    · exact ⟨by decide +kernel, by decide⟩
    · exact flat_fr _
  | .stop lo hi => flat_tup fun x hx => by
    simp only [List.mem_cons, List.not_mem_nil, or_false] at hx
    rcases hx with rfl | rfl | rfl
    · exact ⟨by decide +kernel, by decide⟩
    · exact flat_fr _
    · exact flat_fr _
theorem flat_map {α : Type} {n : Nat} {f : α → PyData} (h : ∀ x, Flat n (f x)) (l : List α) : ∀ d ∈ l.map f, Flat n d := fun d hd => by
  obtain ⟨x, _, rfl⟩ := List.mem_map.mp hd
  exact h x
theorem flat_bench (ps : List Pc) : Flat 3 (benchD ps) := flat_lst (flat_map flat_pc ps)
section
variable {K : PySem.W.Frag} {H : Hp} {x y : V} {d : PyData} {Q : VK}
theorem eq_same {n : Nat} (hx : DV K H x d) (hy : DV K H y d) (f : Flat n d) (k : Q (.bl true) H) (hn : n ≤ 64 := by decide) : rEqD K x y H Q :=
  ⟨d, d, hx, hy, f.sh hn, f.sh hn, by rw [SeqAt.eqv_refl d f.c]; exact k⟩
theorem ne_same {n : Nat} (hx : DV K H x d) (hy : DV K H y d) (f : Flat n d) (k : Q (.bl false) H) (hn : n ≤ 64 := by decide) : rNeD K x y H Q :=
  ⟨d, d, hx, hy, f.sh hn, f.sh hn, by rw [SeqAt.eqv_refl d f.c]; exact k⟩
theorem ne_frD {p q : Rat} (hx : DV K H x (frD p)) (hy : DV K H y (frD q)) (k : Q (.bl (!decide (p = q))) H) : rNeD K x y H Q :=
  ⟨_, _, hx, hy, (flat_fr p).sh (by decide), (flat_fr q).sh (by decide), by unfold frD; rw [eqv_fr]; exact k⟩
end
mutual
def noL : PyData → Bool
  | .list _ => false
  | .dict _ => false
  | .tuple ds => noLs ds
  | .none => true
  | .bool _ => true
  | .int _ => true
  | .str _ => true
def noLs : List PyData → Bool
  | [] => true
  | d :: ds => noL d && noLs ds
end
def SameT (H H' : Hp) : Prop := ∀ b xs, (H b = some (.tup xs) → H' b = some (.tup xs)) ∧ ∀ o, H b = some (.frz o (.tup xs)) → H' b = some (.frz o (.tup xs))
theorem _root_.L2.Same.t {H H' : Hp} (s : Same H H') : SameT H H' := fun b xs => ⟨fun h => s _ _ h, fun o h => s _ _ h⟩
theorem sameT_upd {H : Hp} {l : Addr} {xs : List V} (h : H l = some (.lst xs)) (o : HO) : SameT H (upd H l o) := fun b ys => ⟨fun e => by rw [upd_ne (fun z => by rw [z, h] at e; cases e)]; exact e, fun o e => by rw [upd_ne (fun z => by rw [z, h] at e; cases e)]; exact e⟩
mutual
theorem dv_keepT {K : PySem.W.Frag} {H H' : Hp} (s : SameT H H') : ∀ {v : V} {d : PyData}, noL d = true → DV K H v d → DV K H' v d
  | _, _, _, .non => .non
  | _, _, _, .bl b => .bl b
  | _, _, _, .int i => .int i
  | _, _, _, .str x => .str x
  | _, _, n, .lst h q => nomatch n
  | _, _, n, .tup h q => .tup (by
      rcases h with (h | ⟨o, h⟩) | h
      · exact .inl (.inl ((s _ _).1 h))
      · exact .inl (.inr ⟨o, (s _ _).2 o h⟩)
      · exact .inr h) (dvs_keepT s n q)
  | _, _, n, .dct h => nomatch n
theorem dvs_keepT {K : PySem.W.Frag} {H H' : Hp} (s : SameT H H') : ∀ {vs : List V} {ds : List PyData}, noLs ds = true → DVs K H vs ds → DVs K H' vs ds
  | _, _, _, .nil => .nil
  | _, _, n, .cons h q => .cons (dv_keepT s (by rw [noLs] at n; exact (Bool.and_eq_true_iff.mp n).1) h) (dvs_keepT s (by rw [noLs] at n; exact (Bool.and_eq_true_iff.mp n).2) q)
end
theorem noLs_map {α : Type} {f : α → PyData} (h : ∀ x, noL (f x) = true) : ∀ l : List α, noLs (l.map f) = true
  | [] => rfl
  | x :: l => by rw [List.map_cons, noLs, h x, noLs_map h l]; rfl
theorem noL_pc : ∀ p : Pc, noL (pcD p) = true
  | .gap _ => rfl
  | .glass _ => rfl
  | .stop _ _ => rfl
def PR (K : PySem.W.Frag) (R : List PyData → PyData → Prop) : Sp := fun vs H Q _ => ∃ ds d, DVs K H vs ds ∧ R ds d ∧ ∀ v H', Same H H' → DV K H' v d → Q v H'
def RLess : List PyData → PyData → Prop := fun ds d => ∃ p q, ds = [frD p, frD q] ∧ Sm p ∧ Sm q ∧ d = .bool (decide (p < q))
theorem DV.upd2 {K : PySem.W.Frag} {H : Hp} {r : Addr} {x y : V} {d1 d2 : PyData} (hr : H r = none) (hx : DV K H x d1) (hy : DV K H y d2) : DV K (upd H r (.tup [x, y])) (.ref r) (.tuple [d1, d2]) :=
  .tup (SqT.of upd_same) (.cons (hx.keep (same_new hr _)) (.cons (hy.keep (same_new hr _)) .nil))
theorem DV.upd3 {K : PySem.W.Frag} {H : Hp} {r : Addr} {x y z : V} {d1 d2 d3 : PyData} (hr : H r = none) (hx : DV K H x d1) (hy : DV K H y d2) (hz : DV K H z d3) : DV K (upd H r (.tup [x, y, z])) (.ref r) (.tuple [d1, d2, d3]) :=
  .tup (SqT.of upd_same) (.cons (hx.keep (same_new hr _)) (.cons (hy.keep (same_new hr _)) (.cons (hz.keep (same_new hr _)) .nil)))
def ratD : PyData → Bool
  | .tuple [.int t, .int b] => decide (1 ≤ b) && decide (Fr.gcd t b = 1)
  | _ => false
theorem ratD_fr (q : Rat) : ratD (frD q) = true := by
  show (decide (1 ≤ (q.den : Int)) && decide (Fr.gcd q.num (q.den : Int) = 1)) = true
  rw [decide_eq_true (by have := denp q; omega), decide_eq_true (frO_gcd q)]
  rfl
theorem ratD_of {d : PyData} (h : ratD d = true) : ∃ q : Rat, d = frD q := by
  unfold ratD at h
  split at h
  · rename_i t b
    obtain ⟨h1, h2⟩ := Bool.and_eq_true_iff.mp h
    obtain ⟨q, rfl, rfl⟩ := rat_of (of_decide_eq_true h1) (of_decide_eq_true h2)
    exact ⟨q, rfl⟩
  · cases h
def isIntD : PyData → Bool
  | .int _ => true
  | _ => false
def isTupD : PyData → Bool
  | .tuple _ => true
  | _ => false
theorem isInt_of {d : PyData} (h : isIntD d = true) : ∃ i, d = .int i := by
  cases d with
  | int i => exact ⟨i, rfl⟩
  | _ => cases h
theorem isTup_of {d : PyData} (h : isTupD d = true) : ∃ ds, d = .tuple ds := by
  cases d with
  | tuple ds => exact ⟨ds, rfl⟩
  | _ => cases h
theorem isInt_b (d : PyData) : ∃ b c, bsub (tyD d) "int" = some b ∧ bsub (tyD d) "bool" = some c ∧ (b && !c) = isIntD d := by
  cases d with
  | none => exact ⟨false, false, by show bsub "NoneType" "int" = _; decide +kernel, by show bsub "NoneType" "bool" = _; decide +kernel, rfl⟩
  | bool b => exact ⟨true, true, by show bsub "bool" "int" = _; decide +kernel, by show bsub "bool" "bool" = _; decide +kernel, rfl⟩
  | int i => exact ⟨true, false, by show bsub "int" "int" = _; decide +kernel, by show bsub "int" "bool" = _; decide +kernel, rfl⟩
  | str x => exact ⟨false, false, by show bsub "str" "int" = _; decide +kernel, by show bsub "str" "bool" = _; decide +kernel, rfl⟩
  | list xs => exact ⟨false, false, by show bsub "list" "int" = _; decide +kernel, by show bsub "list" "bool" = _; decide +kernel, rfl⟩
  | tuple xs => exact ⟨false, false, by show bsub "tuple" "int" = _; decide +kernel, by show bsub "tuple" "bool" = _; decide +kernel, rfl⟩
  | dict xs => exact ⟨false, false, by show bsub "dict" "int" = _; decide +kernel, by show bsub "dict" "bool" = _; decide +kernel, rfl⟩
theorem isTup_b (d : PyData) : bsub (tyD d) "tuple" = some (isTupD d) := by
  cases d with
  | none => show bsub "NoneType" "tuple" = some false; decide +kernel
  | bool b => show bsub "bool" "tuple" = some false; decide +kernel
  | int i => show bsub "int" "tuple" = some false; decide +kernel
  | str x => show bsub "str" "tuple" = some false; decide +kernel
  | list xs => show bsub "list" "tuple" = some false; decide +kernel
  | tuple xs => show bsub "tuple" "tuple" = some true; decide +kernel
  | dict xs => show bsub "dict" "tuple" = some false; decide +kernel
def isStrD : PyData → Bool
  | .str _ => true
  | _ => false
theorem isStr_of {d : PyData} (h : isStrD d = true) : ∃ x, d = .str x := by
  cases d with
  | str i => exact ⟨i, rfl⟩
  | _ => cases h
theorem isStr_b (d : PyData) : bsub (tyD d) "str" = some (isStrD d) := by
  cases d with
  | none => show bsub "NoneType" "str" = some false; decide +kernel
  | bool b => show bsub "bool" "str" = some false; decide +kernel
  | int i => show bsub "int" "str" = some false; decide +kernel
  | str x => show bsub "str" "str" = some true; decide +kernel
  | list xs => show bsub "list" "str" = some false; decide +kernel
  | tuple xs => show bsub "tuple" "str" = some false; decide +kernel
  | dict xs => show bsub "dict" "str" = some false; decide +kernel
theorem ratD_no {d : PyData} (h : isTupD d = false) : ratD d = false := by
  cases d with
  | tuple ds => cases h
  | _ => rfl
theorem ratD_len {ds : List PyData} (h : ¬ ds.length = 2) : ratD (.tuple ds) = false := by
  unfold ratD
  split
  · rename_i t b e
    cases e
    exact absurd rfl h
  · rfl
theorem ratD_two {d1 d2 : PyData} (h : isIntD d1 = false ∨ isIntD d2 = false) : ratD (.tuple [d1, d2]) = false := by
  unfold ratD
  split
  · rename_i t b e
    cases e
    rcases h with h | h <;> cases h
  · rfl
def spW (K : PySem.W.Frag) : Sp := fun vs H Q _ => ∃ v d, vs = [v] ∧ DV K H v d ∧ Q (.bl (isIntD d)) H
def spRat (K : PySem.W.Frag) : Sp := fun vs H Q _ => ∃ v d, vs = [v] ∧ DV K H v d ∧ Q (.bl (ratD d)) H
end Lib
namespace Lib
open PySem L2 Fr Op
theorem iteT' {b : Bool} {A B : Prop} (hb : b = true) (h : A) : if b = true then A else B := by rw [if_pos hb]; exact h
theorem iteF' {b : Bool} {A B : Prop} (hb : b = false) (h : B) : if b = true then A else B := by rw [if_neg (by rw [hb]; exact Bool.false_ne_true)]; exact h
theorem sIx1 (n d : Nat) : HT.sIx n d (some 1) = min 1 n := HT.sIx_nat n d 1
theorem cut1 (xs : List V) : cutV xs (some 1) none = xs.drop 1 := by
  unfold cutV
  rw [sIx1, HT.sIx_none]
  cases xs with
  | nil => rfl
  | cons x r =>
    rw [show min 1 (x :: r).length = 1 by simp only [List.length_cons]; omega]
    exact List.take_of_length_le (by simp)
theorem decS (x y : Str) : decide (V.str x = V.str y) = decide (x = y) := by
  by_cases h : x = y
  · subst h; simp
  · have : ¬ V.str x = V.str y := fun z => h (V.str.inj z)
    rw [decide_eq_false h, decide_eq_false this]
def stopD : List PyData → Bool
  | [.tuple [.int a, .int b], .tuple [.int c, .int d]] => !decide (c * b < a * d)
  | _ => false
def pieceD : PyData → Bool
  | .tuple (.str w :: d1 :: ds) => (d1 :: ds).all ratD && (if w = "stop" then stopD (d1 :: ds) else (decide (w = "gap") || decide (w = "glass")) && ds.isEmpty)
  | _ => false
def SmP (d : PyData) : Prop := ∀ ds, d = .tuple ds → ds.length ≤ 1000 ∧ ∀ q, frD q ∈ ds → Sm q
def spPiece (K : PySem.W.Frag) : Sp := fun vs H Q _ => ∃ v d, vs = [v] ∧ DV K H v d ∧ SmP d ∧ ∀ H', Same H H' → Q (.bl (pieceD d)) H'
theorem frD_inj {p q : Rat} (h : frD p = frD q) : p = q := by
  unfold frD at h
  injection h with h
  injection h with h1 h2
  injection h1 with h1
  injection h2 with h2 _
  injection h2 with h2
  exact Rat.ext h1 (Int.ofNat.inj h2)
theorem stopD_fr (lo hi : Rat) : stopD [frD lo, frD hi] = !decide (hi < lo) := by
  show (!decide (hi.num * (lo.den : Int) < lo.num * (hi.den : Int))) = _
  rw [decide_eq_decide.mpr (Fr.lt_rat hi lo)]
theorem pieceD_pc : ∀ {p : Pc}, p.ok → pieceD (pcD p) = true
  | .gap d, _ => by
    show ([frD d].all ratD && (if ("gap" : Str) = "stop" then _ else _)) = true
    rw [List.all_cons, ratD_fr, if_neg (by decide)]
    rfl
  | .glass d, _ => by
    show ([frD d].all ratD && (if ("glass" : Str) = "stop" then _ else _)) = true
    rw [List.all_cons, ratD_fr, if_neg (by decide)]
    rfl
  | .stop lo hi, h => by
    show ([frD lo, frD hi].all ratD && (if ("stop" : Str) = "stop" then stopD [frD lo, frD hi] else _)) = true
    rw [List.all_cons, List.all_cons, ratD_fr, ratD_fr, if_pos rfl, stopD_fr, decide_eq_false h]
    rfl
theorem get_map_pc {ps : List Pc} {i : Nat} {d : PyData} (h : (ps.map pcD)[i]? = some d) : ∃ p, ps[i]? = some p ∧ d = pcD p := by
  rw [List.getElem?_map] at h
  cases e : ps[i]? with
  | none => rw [e] at h; cases h
  | some p => rw [e] at h; exact ⟨p, rfl, (Option.some.inj h).symm⟩
end Lib
namespace Lib
open PySem L2 Fr Op
theorem cutV_le (xs : List V) (lo hi : Nat) : (cutV xs (some (lo : Int)) (some (hi : Int))).length ≤ hi - lo := by
  unfold cutV
  rw [HT.sIx_nat, HT.sIx_nat, List.length_take]
  omega
theorem cutV_le0 (xs : List V) (hi : Nat) : (cutV xs none (some (hi : Int))).length ≤ hi := by
  unfold cutV
  rw [HT.sIx_nat, HT.sIx_none, List.length_take]
  omega
end Lib
namespace Lib
open PySem L2 Fr Op
theorem in_words (z : Str) : (if false = true then !inV (.str z) [.str "gap", .str "glass"] else inV (.str z) [.str "gap", .str "glass"]) = (decide (z = "gap") || decide (z = "glass")) := by
  rw [if_neg Bool.false_ne_true]
  unfold inV
  simp only [List.any_cons, List.any_nil, Bool.or_false]
  have h : ∀ w : Str, eqV (.str w) (.str z) = decide (z = w) := fun w => by
    show decide (w = z) = decide (z = w)
    exact decide_eq_decide.mpr ⟨Eq.symm, Eq.symm⟩
  rw [h, h]
end Lib
namespace Lib
open PySem L2 Fr Op
theorem atI0 {x : V} {xs : List V} : atI (x :: xs) 0 = some x := atI_nat (j := 0) rfl
end Lib
namespace Op
open Fr
end Op
namespace Lib
open PySem L2 Fr Op
end Lib
namespace Op
open Fr
end Op
namespace Lib
open PySem L2 Fr Op
end Lib
namespace Lib
open PySem L2 Fr Op
end Lib
namespace Op
open Fr
end Op
namespace Lib
open PySem L2 Fr Op
end Lib
namespace Lib
open PySem L2 Fr Op
structure DrA (H : Hp) (d c : Addr) (L : List V) : Prop where
  d : ∃ a n : Int, 0 ≤ n ∧ H d = some (.lst [.int a, .ref c, .int n])
  c : H c = some (.lst L)
  i : ∀ x ∈ L, ∃ z : Int, x = .int z
  l : 0 < L.length
  m : L.length ≤ 100
def SD (d : Addr) (H H' : Hp) : Prop := ∀ b o, b ≠ d → H b = some o → H' b = some o
theorem SD.refl (d : Addr) (H : Hp) : SD d H H := fun _ _ _ h => h
theorem SD.trans {d : Addr} {H H1 H2 : Hp} (a : SD d H H1) (b : SD d H1 H2) : SD d H H2 := fun c o n h => b c o n (a c o n h)
theorem DrA.keep {H H' : Hp} {d c : Addr} {L : List V} (h : DrA H d c L) (s : Same H H') : DrA H' d c L := by
  obtain ⟨a, n, h0, h1⟩ := h.d
  exact ⟨⟨a, n, h0, s _ _ h1⟩, s _ _ h.c, h.i, h.l, h.m⟩
theorem DrA.ne {H : Hp} {d c : Addr} {L : List V} (h : DrA H d c L) : c ≠ d := fun e => by
  obtain ⟨a, n, h0, h1⟩ := h.d
  have h2 := h.c
  rw [e, h1] at h2
  cases h2
  obtain ⟨z, e⟩ := h.i (.ref c) (by simp)
  cases e
theorem sd_upd {H : Hp} {d : Addr} {o : HO} : SD d H (upd H d o) := fun b u n h => by rw [upd_ne n]; exact h
def spDraw : Sp := fun vs H Q _ => ∃ (d c : Addr) (L : List V) (m : Int), vs = [.ref d, .int m] ∧ DrA H d c L ∧ 0 < m ∧ ∀ (x : Int) H', 0 ≤ x → x < m → DrA H' d c L → SD d H H' → Q (.int x) H'
def spCell (K : PySem.W.Frag) : Sp := fun vs H Q _ => ∃ (a : Addr) (ns : List Int) (k : Int), vs = [.ref a, .int k] ∧ SqL K H a (ns.map V.int) ∧ 0 ≤ k ∧ ∀ z : Int, Q (.int z) H
def spLowP : Sp := fun vs H Q _ => ∃ t b : Int, vs = [.int t, .int b] ∧ 0 < b ∧ b.natAbs < lim ∧ ∀ p, H p = none → Q (.ref p) (upd H p (.tup [.int (Fr.lt t b), .int (Fr.lb t b)]))
theorem noL_fr (q : Rat) : noL (frD q) = true := rfl
end Lib
namespace Lib
open PySem L2 Fr Op
end Lib
namespace Lib
open PySem L2 Fr Op
end Lib
namespace Lib
open PySem L2 Fr Op
end Lib
namespace Lib
open PySem L2 Fr Op
theorem by1 {α : Type} {p : List α → Prop} (h : ∀ a, p [a]) : ∀ us : List α, us.length = 1 → p us
  | [_], _ => h _
theorem by2 {α : Type} {p : List α → Prop} (h : ∀ a b, p [a, b]) : ∀ us : List α, us.length = 2 → p us
  | [_, _], _ => h _ _
theorem by3 {α : Type} {p : List α → Prop} (h : ∀ a b c, p [a, b, c]) : ∀ us : List α, us.length = 3 → p us
  | [_, _, _], _ => h _ _ _
end Lib
namespace Lib
open PySem L2 Fr Op
end Lib
namespace Lib
open PySem L2 Fr Op
end Lib
namespace Lib
open PySem L2 Fr Op
end Lib
namespace Lib
open PySem L2 Fr Op
end Lib
namespace Lib
open PySem L2 Fr Op
end Lib
namespace Lib
open PySem L2 Fr Op
end Lib
namespace Lib
open PySem L2 Fr Op
end Lib
namespace Lib
open PySem L2 Fr Op
end Lib
namespace Lib
open PySem L2 Fr Op
end Lib
namespace Lib
open PySem L2 Fr Op
end Lib
namespace Lib
open PySem L2 Fr Op
end Lib
namespace Lib
open PySem L2 Fr Op
end Lib
namespace Op
open Fr
end Op
namespace Lib
open PySem L2 Fr Op
end Lib
namespace Lib
open PySem L2 Fr Op
end Lib
namespace L2
open PySem PySem.Spec PyProof.Rows
end L2
namespace L2
open PySem PySem.Spec PyProof.Rows
end L2
namespace Lib
open PySem L2 Fr Op
end Lib
namespace Lib
open PySem L2 Fr Op
end Lib
namespace Lib
open PySem L2 Fr Op
end Lib
namespace Lib
open PySem L2 Fr Op
end Lib
namespace Lib
open PySem L2 Fr Op
end Lib
namespace Lib
open PySem L2 Fr Op
end Lib
namespace L2
open PySem PySem.Spec PyProof.Rows PySem.Builtin
end L2
namespace Lib
open PySem L2 Fr Op
end Lib
namespace Lib
open PySem L2 Fr Op
def SE (d c : Addr) (H H' : Hp) : Prop := ∀ b o, b ≠ d → b ≠ c → H b = some o → H' b = some o
theorem SE.refl (d c : Addr) (H : Hp) : SE d c H H := fun _ _ _ _ h => h
theorem SE.trans {d c : Addr} {H H1 H2 : Hp} (a : SE d c H H1) (b : SE d c H1 H2) : SE d c H H2 := fun e o n m h => b e o n m (a e o n m h)
theorem _root_.L2.Same.se {H H' : Hp} (s : Same H H') (d c : Addr) : SE d c H H' := fun b o _ _ h => s b o h
end Lib
namespace Lib
open PySem L2 Fr Op
theorem sql_se {K : PySem.W.Frag} {d c a : Addr} {H H1 H' : Hp} {xs : List V} (h : SqL K H a xs) (hd : H d = none) (hc : H c = none) (s1 : Same H H1) (s : SE d c H1 H') : SqL K H' a xs := by
  rcases h with (h | ⟨o, h⟩) | h
  · exact .inl (.inl (s a _ (ne_of_none h hd) (ne_of_none h hc) (s1 _ _ h)))
  · exact .inl (.inr ⟨o, s a _ (ne_of_none h hd) (ne_of_none h hc) (s1 _ _ h)⟩)
  · exact .inr h
end Lib
namespace Lib
open PySem L2 Fr Op
end Lib
namespace Lib
open PySem L2 Fr Op
end Lib
namespace L2
open PySem PySem.Spec PyProof.Rows PySem.Builtin
end L2
namespace L2
open PySem PySem.Spec PyProof.Rows PySem.Builtin
end L2
namespace L2
open PySem PySem.Spec PyProof.Rows PySem.Builtin
end L2
namespace L2
open PySem PySem.Spec PyProof.Rows PySem.Builtin
end L2
namespace L2
open PySem PySem.Spec PyProof.Rows PySem.Builtin
end L2
namespace L2
open PySem PySem.Spec PyProof.Rows
end L2
namespace Lib
open PySem L2 Fr Op
end Lib
namespace Op
open Fr
end Op
namespace Lib
open PySem L2 Fr Op
end Lib
namespace Op
open Fr
end Op
namespace Lib
open PySem L2 Fr Op
theorem SD.same {H0 H H' : Hp} {d : Addr} (s0 : Same H0 H) (hd : H0 d = none) (s : SD d H H') : Same H0 H' := fun b o e => s b o (fun z => by rw [z, hd] at e; cases e) (s0 _ _ e)
end Lib
namespace Lib
open PySem L2 Fr Op
end Lib
namespace L2
open PySem PySem.Spec PyProof.Rows PySem.Builtin
end L2
namespace Op
open Fr
end Op
namespace Lib
open PySem L2 Fr Op
end Lib
namespace Op
open Fr Lib
end Op
namespace Lib
open PySem L2 Fr Op
theorem SD.se {d l : Addr} {H H' : Hp} (s : SD d H H') : SE d l H H' := fun b o n _ e => s b o n e
end Lib
namespace Lib
open PySem L2 Fr Op
end Lib
namespace L2
open PySem PySem.Spec PyProof.Rows PySem.Builtin
end L2
namespace Lib
open PySem L2 Fr Op
end Lib
namespace L2
open PySem PySem.Spec PyProof.Rows
end L2
namespace Lib
open PySem L2 Fr Op
end Lib
namespace L2
open PySem PySem.Spec PyProof.Rows
end L2
namespace Lib
open PySem L2 Fr Op
end Lib
namespace L2
open PySem PySem.Spec PyProof.Rows
end L2
namespace L2
open PySem PySem.Spec PyProof.Rows PySem.Builtin
open PySem.AutoSeq1 (wpAny_loadPart')
end L2
namespace L2
open PySem PySem.Spec PySem.Calls PyProof.Rows PySem.W Builtin Builtin.ObjectAttr
end L2
namespace L2
open PySem PySem.Spec PySem.Calls PyProof.Rows PySem.W Builtin Builtin.ObjectAttr
end L2
namespace L2
open PySem PySem.Spec PySem.Calls PyProof.Rows PySem.W Builtin Builtin.ObjectAttr
end L2
namespace L2
open PySem PySem.Spec PySem.Calls PyProof.Rows PySem.W
end L2
namespace Lib
open PySem L2 Fr Op
theorem rep_flat1 (n : Nat) (x : V) : (List.replicate n [x]).flatten = List.replicate n x := by
  induction n with
  | zero => rfl
  | succ n ih => rw [List.replicate_succ, List.flatten_cons, ih, List.replicate_succ]; rfl
end Lib
namespace Lib
open PySem L2 Fr Op
end Lib
namespace L2
open PySem PySem.Spec PyProof.Rows
end L2
namespace L2
open PySem PySem.Spec PyProof.Rows PySem.Builtin PySem.Builtin.Str
section
variable {X : Cx} {k v : Expr} {tk tv : TE} {pos : Pos}
def tD1 (tk tv : TE) : TE := fun σ H Q => ∀ p, H p = none → tk σ (upd H p (.dK [])) fun x H1 => ∃ z, x = .str z ∧ tv σ H1 fun y H2 => H2 p = some (.dK []) ∧ Q (.ref p) (upd H2 p (.dK [(.inr z, y)]))
theorem pe_d1 (hk : PE X k tk) (hv : PE X v tv) : PE X (.Dict [some k] [v] pos) (tD1 tk tv) := by
  intro pins s σ H Q I h
  refine wpAny_Dict_pairs (knd := mixKind X.prog X.w) (pairs := [(eval k X.env, do let x ← eval v X.env; standAt pos; pure x)]) rfl (by simp) (by simp) ?_
  have hnew : H s.heap.objs.size = none := I.hok.fresh (Nat.le_refl _)
  have I0 : Inv X pins σ (upd H s.heap.objs.size (.dK [])) { s with heap := s.heap.push { cls := .type "dict", data := .dict #[] } } :=
    I.laid (a := s.heap.objs.size) (o := .dK []) (t' := s.toks) (fun _ _ q => Heap.get?_push_of_some _ q) (Nat.le_refl _)
      ⟨Nat.zero_le _, beq_eq_false_iff_ne.mpr (Ne.symm (Nat.ne_of_lt I.big2)), [], .nil, Heap.DictOf.new s.heap⟩
  refine evalPairs_cons (thn (hk pins _ σ _ _ I0 (h _ hnew)) fun kv s1 ⟨x, H1, I1, r1, z, e1, q1⟩ => ?_)
  subst e1
  obtain ⟨t, rfl⟩ := r1
  refine wpAny_bind (thn (hv pins s1 σ H1 _ I1 q1) fun vv s2 ⟨y, H2, I2, r2, hp, q2⟩ => ?_)
  refine wpAny_bind (wpAny_standAt (wpAny_pure ?_))
  obtain ⟨_, hS, vs, r, m⟩ : ([] : List (Key × V)).length ≤ sizeLine ∧ (s.heap.objs.size == sysModules) = false ∧ ∃ vs, KV [] vs ∧ s2.heap.DictOf (mixKind X.prog X.w) s.heap.objs.size vs := I2.hok _ _ hp
  cases r
  refine evalPairs_nil ⟨[(.inr z, vv)], ⟨mixKind_str _ _ z t, rfl, trivial⟩, m, fun h' hm hs => ?_⟩
  refine ⟨.ref s.heap.objs.size, _, I2.write (x := s.heap.objs.size) (o := .dK [(.inr z, y)]) (by rw [hp]; trivial) (.inl rfl) (fun b u nb hb => ?_) ?_ ⟨by show 1 ≤ sizeLine; decide, hS, [(.inr z, vv)], .cons ⟨rfl, r2⟩ .nil, hm⟩, rfl, q2⟩
  · exact (hs.2 b nb).trans hb
  · obtain ⟨o, _, _, e, _⟩ := hm
    exact ⟨o, e⟩
def rUpper : V → List V → Hp → VK → Prop := fun x vs H Q => ∃ i, x = .str i ∧ vs = [] ∧ tooLong (Txt.upper i).length = false ∧ Q (.str (Txt.upper i)) H
theorem mt_upper : MtM X "str.upper" rUpper := by
  intro pins s σ H x vs v us Q I rx rv h
  obtain ⟨i, rfl, rfl, hz, q⟩ := h
  obtain ⟨t, rfl⟩ := rx
  cases rv
  exact SC.upper hz ⟨.str _, H, I.tok _, ⟨⟨_, Nat.ne_of_gt I.tk⟩, rfl⟩, q⟩
end
end L2
namespace Lib
open PySem L2 Fr Op
end Lib
namespace L2
open PySem PySem.Spec PyProof.Rows PySem.Builtin PySem.SeqAt
end L2
namespace L2
open PySem PySem.Spec PyProof.Rows PySem.Builtin PySem.Builtin.Str
theorem strs_of : ∀ {zs : List Str} {its : List Value}, Vals (zs.map V.str) its → ∃ l : List (Str × Tok), strValues l = its ∧ l.map (·.1) = zs
  | [], _, .nil => ⟨[], rfl, rfl⟩
  | z :: zs, _, .cons h r => by
    obtain ⟨t, rfl⟩ := h
    obtain ⟨l, h1, h2⟩ := strs_of r
    exact ⟨(z, t) :: l, by show _ :: strValues l = _; rw [h1], by show z :: _ = _; rw [h2]⟩
def rJoin : V → List V → Hp → VK → Prop := fun x vs H Q => ∃ (sep : Str) (l : Addr) (zs : List Str), x = .str sep ∧ vs = [.ref l] ∧ H l = some (.lst (zs.map V.str)) ∧ JoinOk sep zs = true ∧ Q (.str (Txt.join sep zs)) H
theorem nz_all {zs : List Str} {ps : List (Str × Tok)} (r : Vals (zs.map V.str) (strValues ps)) : ∀ p ∈ ps, p.2 ≠ 0 := fun p hp => by
  obtain ⟨n, hn⟩ := List.mem_iff_getElem?.mp hp
  have e : (strValues ps)[n]? = some (.str p.1 p.2) := by unfold strValues; rw [List.getElem?_map, hn]; rfl
  exact nz_at r e rfl
theorem join_nz {prog : Program} {w : World} {A : Around} {E : Value → Shared → Prop} {s : Shared} {Q : Value → Shared → Prop} {x : Str} {t : Tok} {D : Addr} {l : List (Str × Tok)} {texts : List Str} (hn : 1 ≤ s.toks) (hl : s.heap.IsList D (strValues l).toArray) (ht : l.map (·.1) = texts) (hok : JoinOk x texts = true) (nz : ∀ p ∈ l, p.2 ≠ 0)
    (hq : ∀ (t' : NZ) k, 1 ≤ k → Q (.str (Txt.join x texts) t'.1) { s with toks := k }) : wpAny (model prog w) A (call (.builtin "str.join") [.str x t, .ref D]) Q E s := by
  subst ht
  have ok2 := hok
  unfold JoinOk at ok2
  rw [Bool.not_eq_true'] at ok2
  exact call_meets F.slot_str_join (typeIs_str _ _ _) F.entry_str_join (F.args_str_join_2 _ _) (meets_str_join_list x t D l ok2) ⟨hl, post_join_nz l nz hn ⟨joinFit_length ok2, hq⟩⟩
theorem mt_join {X : Cx} : MtM X "str.join" rJoin := by
  intro pins s σ H x vs v us Q I rx rv h
  obtain ⟨sep, l, zs, rfl, rfl, hH, ok, q⟩ := h
  obtain ⟨t, rfl⟩ := rx
  obtain ⟨u, rfl, ru⟩ := rv.one
  cases ru
  obtain ⟨z, its, n, r, hl, e⟩ := I.lstM hH
  obtain ⟨ps, rfl, e2⟩ := strs_of r
  exact join_nz I.tk ⟨_, e, rfl, _, rfl⟩ e2 ok (nz_all r) fun t' k htk => ⟨.str _, H, I.tok _, ⟨t', rfl⟩, q⟩
end L2
namespace L2
open PySem PySem.Spec PyProof.Rows PySem.Builtin
theorem MtFn.mcR {P : Program} {w : World} {K : PySem.W.Frag} {mg : Str → Option Value} {base : Heap} {C : Addr} {m qual : Str} {st : Stmt} {N ps : List Str} {k : Nat} {sp : Sp} (T : MtFn K C m qual st) (S : FnScope N ps (defScope st))
    (hb : ∀ (kV doc pm : Value) (an : Option Addr) (cdv ct : Value) (us : List Value), us.length = ps.length → bindArgs (PySem.W.fnOf m qual (defArgs st) (defBody st) (defScope st) .none kV doc pm an cdv ct) ⟨us, []⟩ = pure (ps.zip us))
    (len : ∀ vs H Q E, sp vs H Q E → vs.length = ps.length)
    (hbody : ∀ (f : Addr) (cdv : Value) (A : Around) (outer : List Env) (s : Shared) (H : Hp) (vs : List V) (Q : VK) (E : XK), RoomB true k (A.deeper (envOfC qual (defScope st) s.heap.objs.size f cdv)) → sp vs H Q E →
      ∃ t, PSs (cxB true P w K mg base N qual (defScope st) f cdv A outer s H E) (defBody st) t ∧ t { nx := fun _ H' => Q .non H', rt := Q } (start N vs) H) : MC P w K mg base (k + 1) C m ps sp := by
  obtain ⟨f, fd, F, hm⟩ := T.ex
  obtain ⟨oc, od, kV, doc, pm, an, cdv, ct, osl, rfl, l, cd⟩ := id F.ex
  exact ⟨⟨f, _, fnB_of l cd S len fun A outer s H vs Q E hr h => hbody f cdv A outer s H vs Q E hr h, hm, F.binds hb⟩, T.cl⟩
end L2
namespace Lib
open PySem L2 Fr Op
end Lib
namespace Lib
open PySem L2 Fr Op
end Lib
namespace L2
open PySem PySem.Spec PyProof.Rows PySem.Builtin
end L2
namespace L2
open PySem PySem.Spec PyProof.Rows
end L2
namespace Lib
open PySem L2 Fr Op
theorem noL_pc' (p : Pc) : noL (pcD p) = true := by cases p <;> rfl
structure Bx (K : PySem.W.Frag) (H1 : Hp) (p : Addr) (ps : List Pc) (Hx : Hp) : Prop where
  s : Same H1 Hx
  n : H1 p = none
  ex : ∃ xs, Hx p = some (.lst xs) ∧ DVs K Hx xs (ps.map pcD)
theorem same_but {H1 Hx : Hp} {p : Addr} (s : Same H1 Hx) (n : H1 p = none) (o : HO) : Same H1 (upd Hx p o) := fun b u e => by
  rw [upd_ne (ne_of_none e n)]
  exact s _ _ e
theorem Bx.more {K : PySem.W.Frag} {H1 Hx : Hp} {p : Addr} {ps qs : List Pc} {xs zs : List V} (s : Same H1 Hx) (n : H1 p = none) (h1 : Hx p = some (.lst xs)) (h2 : DVs K Hx xs (ps.map pcD)) (h3 : DVs K Hx zs (qs.map pcD)) : Bx K H1 p (ps ++ qs) (upd Hx p (.lst (xs ++ zs))) := by
  refine ⟨same_but s n _, n, xs ++ zs, upd_same, ?_⟩
  rw [List.map_append]
  exact dvs_keepT (sameT_upd h1 _) (by rw [← List.map_append]; exact noLs_map noL_pc' _) (h2.append h3)
end Lib
namespace Lib
open PySem L2 Fr Op
end Lib
namespace Lib
open PySem L2 Fr Op
theorem dvs_repF {K : PySem.W.Frag} {H : Hp} {ks : List V} {ds : List PyData} (h : DVs K H ks ds) : ∀ n, DVs K H (List.replicate n ks).flatten (List.replicate n ds).flatten
  | 0 => .nil
  | n + 1 => by
    rw [List.replicate_succ, List.replicate_succ, List.flatten_cons, List.flatten_cons]
    exact h.append (dvs_repF h n)
end Lib
namespace Lib
open PySem L2 Fr Op
end Lib
namespace L2
open PySem PySem.Spec PyProof.Rows
structure TopFnA (K : PySem.W.Frag) (mg : Str → Option Value) (x nm : Str) (st : Stmt) : Prop where
  ex : ∃ (f : Addr) (fd : FuncData), Fun K nm nm st f fd ∧ mg x = some (.ref f)
theorem topFnA_mk {K : PySem.W.Frag} {h : Heap} {mg : Str → Option Value} {x nm : Str} {st : Stmt} {f : Addr} {oc : Value} {od an : Option Addr} {sl : Array (Option Value)} {kV dc pm cd ct : Value} (X : K.In h) (G : h.Ns mainGlobals mg)
    (a : PySem.W.nsIn K mainGlobals x = some (some (.ref f))) (l : K.lookup f = some ⟨oc, od, .func (PySem.W.fnOf nm nm (defArgs st) (defBody st) (defScope st) .none kV dc pm an cd ct), sl⟩) (c : PySem.W.codeIn K cd nm = true) (k : PySem.W.keepIn K (.ref f) = true) : TopFnA K mg x nm st :=
  ⟨f, _, fun_mk l c k, PySem.W.mg_of X G a⟩
theorem TopFnA.calB {c : Bool} {P : Program} {w : World} {K : PySem.W.Frag} {mg : Str → Option Value} {base : Heap} {x nm : Str} {st : Stmt} {N ps : List Str} {k : Nat} {sp : Sp} (T : TopFnA K mg x nm st) (S : FnScope N ps (defScope st))
    (hb : ∀ (kV doc pm : Value) (an : Option Addr) (cdv ct : Value) (us : List Value), us.length = ps.length → bindArgs (PySem.W.fnOf nm nm (defArgs st) (defBody st) (defScope st) .none kV doc pm an cdv ct) ⟨us, []⟩ = pure (ps.zip us))
    (len : ∀ vs H Q E, sp vs H Q E → vs.length = ps.length)
    (hbody : ∀ (f : Addr) (cdv : Value) (A : Around) (outer : List Env) (s : Shared) (H : Hp) (vs : List V) (Q : VK) (E : XK), RoomB c k (A.deeper (envOfC nm (defScope st) s.heap.objs.size f cdv)) → sp vs H Q E →
      ∃ t, PSs (cxB c P w K mg base N nm (defScope st) f cdv A outer s H E) (defBody st) t ∧ t { nx := fun _ H' => Q .non H', rt := Q } (start N vs) H) : CalB P w K mg base c (k + 1) x ps sp := by
  obtain ⟨f, fd, F, hm⟩ := T.ex
  obtain ⟨oc, od, kV, doc, pm, an, cdv, ct, osl, rfl, l, cd⟩ := id F.ex
  exact ⟨f, _, fnB_of l cd S len (hbody f cdv), hm, F.kp, F.binds hb⟩
abbrev spNot : Sp := fun _ _ _ _ => False
theorem TopFn.not {P : Program} {w : World} {K : PySem.W.Frag} {mg : Str → Option Value} {base : Heap} {x : Str} {st : Stmt} {N ps : List Str} {k : Nat} (T : TopFn K mg x st) (S : FnScope N ps (defScope st))
    (hb : ∀ (kV doc pm : Value) (an : Option Addr) (cdv ct : Value) (us : List Value), us.length = ps.length → bindArgs (PySem.W.fnOf x x (defArgs st) (defBody st) (defScope st) .none kV doc pm an cdv ct) ⟨us, []⟩ = pure (ps.zip us)) : CalB P w K mg base true (k + 1) x ps spNot :=
  T.calB S hb (fun _ _ _ _ h => h.elim) fun _ _ _ _ _ _ _ _ _ _ h => h.elim
def rEnds : V → List V → Hp → VK → Prop := fun x vs H Q => ∃ i j, x = .str i ∧ vs = [.str j] ∧ Q (.bl (Txt.endswith i j)) H
theorem mt_endswith {X : Cx} : MtM X "str.endswith" rEnds := by
  intro pins s σ H x vs v us Q I rx rv h
  obtain ⟨i, j, rfl, rfl, q⟩ := h
  obtain ⟨t, rfl⟩ := rx
  obtain ⟨u, rfl, ru⟩ := rv.one
  obtain ⟨t', rfl⟩ := ru
  exact SC.endswith ⟨.bl _, H, I, rfl, q⟩
end L2
namespace Tx
open PySem PySem.Spec PySem.Builtin PySem.Builtin.Str L2 Lib Op
theorem str_blank : PySem.Str.ofString " " = ⟨#[32]⟩ := by decide +kernel
theorem str_semi : PySem.Str.ofString ";" = ⟨#[59]⟩ := by decide +kernel
theorem str_part : PySem.Str.ofString "; " = ⟨#[59, 32]⟩ := by decide +kernel
theorem ends_one (x : PySem.Str) (c : Nat) : Txt.endswith x ⟨#[c]⟩ = decide ((cl x).getLast? = some c) := by
  obtain ⟨⟨l⟩⟩ := x
  rcases List.eq_nil_or_concat l with rfl | ⟨r, a, e0⟩
  · rfl
  · have e1 : l = r ++ [a] := by rw [e0]; simp
    subst e1
    clear e0
    have hl : (r ++ [a]).toArray.size = r.length + 1 := by simp
    show (decide (0 + 1 ≤ (r ++ [a]).toArray.size) && ((r ++ [a]).toArray.extract ((r ++ [a]).toArray.size - 1) ((r ++ [a]).toArray.size - 1 + 1) == #[c])) = decide ((r ++ [a]).getLast? = some c)
    rw [hl, Nat.add_sub_cancel, List.getLast?_concat]
    by_cases h : a = c
    · subst h; simp
    · simp [h]
theorem fm_congr {f g : Nat → Option Nat} : ∀ {l : List Nat}, (∀ k ∈ l, f k = g k) → l.filterMap f = l.filterMap g
  | [], _ => rfl
  | a :: l, h => by
    rw [List.filterMap_cons, List.filterMap_cons, h a List.mem_cons_self, fm_congr fun k hk => h k (List.mem_cons_of_mem _ hk)]
theorem slice_init (x : PySem.Str) : cl (Txt.slice x none (some (-1))) = (cl x).dropLast := by
  obtain ⟨⟨l⟩⟩ := x
  rcases List.eq_nil_or_concat l with rfl | ⟨r, a, e0⟩
  · rfl
  · have e1 : l = r ++ [a] := by rw [e0]; simp
    subst e1
    clear e0
    have e : strSliceIndices none (some (-1)) 1 (r.length + 1) = List.range r.length := by
      unfold strSliceIndices sliceRange
      simp only [show (1 : Int) > 0 by decide, if_true]
      have h1 : max 0 (min (if (-1 : Int) < 0 then -1 + ((r.length + 1 : Nat) : Int) else -1) ((r.length + 1 : Nat) : Int)) = (r.length : Int) := by
        rw [if_pos (by decide)]
        omega
      rw [h1]
      have h2 : (if (0 : Int) < (r.length : Int) then ((r.length : Int) - 0 + 1 - 1) / 1 else 0).toNat = r.length := by
        split <;> simp <;> omega
      rw [h2]
      refine (List.map_congr_left fun k _ => ?_).trans (List.map_id _)
      simp
    have hl : (PySem.Str.mk (r ++ [a]).toArray).length = r.length + 1 := by
      show (r ++ [a]).toArray.size = _
      simp
    show cl (Txt.slice (PySem.Str.mk (r ++ [a]).toArray) none (some (-1))) = (r ++ [a]).dropLast
    unfold Txt.slice
    rw [hl, e]
    rw [if_neg (by simp)]
    show ((((List.range r.length)).filterMap (fun k => (r ++ [a]).toArray[k]?)).toArray).toList = _
    rw [List.toList_toArray, List.dropLast_concat]
    have e2 : (List.range r.length).filterMap (fun k => (r ++ [a]).toArray[k]?) = (List.range r.length).filterMap (fun k => r[k]?) := by
      refine fm_congr fun k hk => ?_
      have := List.mem_range.mp hk
      simp [List.getElem?_append_left this]
    rw [e2, pick_all]
def wd : Pc → PySem.Str
  | .gap _ => PySem.Str.ofString "gap"
  | .glass _ => PySem.Str.ofString "glass"
  | .stop _ _ => PySem.Str.ofString "stop"
def fracs : Pc → List Rat
  | .gap q => [q]
  | .glass q => [q]
  | .stop lo hi => [lo, hi]
def toks (p : Pc) : List PySem.Str := wd p :: (fracs p).map shS
def toksE : Pc → List PySem.Str
  | .gap q => [PySem.Str.ofString "gap", shS q ++ ⟨#[59]⟩]
  | .glass q => [PySem.Str.ofString "glass", shS q ++ ⟨#[59]⟩]
  | .stop lo hi => [PySem.Str.ofString "stop", shS lo, shS hi ++ ⟨#[59]⟩]
def toksS : List Pc → List PySem.Str
  | [] => []
  | [p] => toks p
  | p :: q :: r => toksE p ++ toksS (q :: r)
def toksB : List Pc → List PySem.Str
  | [] => []
  | [p] => toks p
  | p :: q :: r => toks p ++ PySem.Str.ofString ";" :: toksB (q :: r)
def textP (p : Pc) : PySem.Str := Txt.join (PySem.Str.ofString " ") (toks p)
def textB (ps : List Pc) : PySem.Str := Txt.join (PySem.Str.ofString "; ") (ps.map textP)
theorem toksS_cons : ∀ (q : Pc) (r : List Pc), ∃ t ts, toksS (q :: r) = t :: ts
  | .gap _, [] => ⟨_, _, rfl⟩
  | .glass _, [] => ⟨_, _, rfl⟩
  | .stop _ _, [] => ⟨_, _, rfl⟩
  | .gap _, _ :: _ => ⟨_, _, rfl⟩
  | .glass _, _ :: _ => ⟨_, _, rfl⟩
  | .stop _ _, _ :: _ => ⟨_, _, rfl⟩
theorem joinT (sep : PySem.Str) (l : List PySem.Str) : Txt.join sep l = PySem.Str.join sep l := StrLaws.glued_eq_join _ _
theorem text_join : ∀ (ps : List Pc), ps ≠ [] → textB ps = PySem.Str.join ⟨#[32]⟩ (toksS ps)
  | [], h => absurd rfl h
  | [p], _ => by
    show Txt.join _ [textP p] = _
    rw [joinT]
    show textP p = _
    unfold textP
    rw [joinT, str_blank]
    rfl
  | p :: q :: r, _ => by
    have ih := text_join (q :: r) (by simp)
    obtain ⟨t, ts, et⟩ := toksS_cons q r
    have e1 : textB (p :: q :: r) = textP p ++ PySem.Str.ofString "; " ++ textB (q :: r) := by
      unfold textB
      rw [joinT, joinT]
      rfl
    rw [e1, ih]
    show _ = PySem.Str.join ⟨#[32]⟩ (toksE p ++ toksS (q :: r))
    rw [et]
    apply ext
    rw [cl_app, cl_app]
    unfold textP
    rw [joinT, str_blank, str_part]
    have two : ∀ x y : PySem.Str, PySem.Str.join ⟨#[32]⟩ [x, y] = x ++ ⟨#[32]⟩ ++ y := fun _ _ => rfl
    have three : ∀ x y z : PySem.Str, PySem.Str.join ⟨#[32]⟩ [x, y, z] = x ++ ⟨#[32]⟩ ++ (y ++ ⟨#[32]⟩ ++ z) := fun _ _ _ => rfl
    cases p with
    | gap a =>
      show cl (PySem.Str.join ⟨#[32]⟩ [PySem.Str.ofString "gap", shS a]) ++ _ ++ _ = cl (PySem.Str.ofString "gap" ++ ⟨#[32]⟩ ++ ((shS a ++ ⟨#[59]⟩) ++ ⟨#[32]⟩ ++ PySem.Str.join ⟨#[32]⟩ (t :: ts)))
      rw [two]
      simp only [cl_app, List.append_assoc]
      rfl
    | glass a =>
      show cl (PySem.Str.join ⟨#[32]⟩ [PySem.Str.ofString "glass", shS a]) ++ _ ++ _ = cl (PySem.Str.ofString "glass" ++ ⟨#[32]⟩ ++ ((shS a ++ ⟨#[59]⟩) ++ ⟨#[32]⟩ ++ PySem.Str.join ⟨#[32]⟩ (t :: ts)))
      rw [two]
      simp only [cl_app, List.append_assoc]
      rfl
    | stop a b =>
      show cl (PySem.Str.join ⟨#[32]⟩ [PySem.Str.ofString "stop", shS a, shS b]) ++ _ ++ _ = cl (PySem.Str.ofString "stop" ++ ⟨#[32]⟩ ++ (shS a ++ ⟨#[32]⟩ ++ ((shS b ++ ⟨#[59]⟩) ++ ⟨#[32]⟩ ++ PySem.Str.join ⟨#[32]⟩ (t :: ts))))
      rw [three]
      simp only [cl_app, List.append_assoc]
      rfl
theorem sh_free (q : Rat) (c : Nat) (h : ¬ ((48 ≤ c ∧ c ≤ 57) ∨ c = 45 ∨ c = 47)) : c ∉ cl (shS q) := fun m => h (sh_signs q c (by rw [← cl_shS]; exact m))
theorem tok_free : ∀ (ps : List Pc), ∀ t ∈ toksS ps, 32 ∉ cl t := by
  have one : ∀ p : Pc, (∀ t ∈ toks p, 32 ∉ cl t) ∧ ∀ t ∈ toksE p, 32 ∉ cl t := by
    have e : ∀ q : Rat, 32 ∉ cl (shS q ++ ⟨#[59]⟩) := fun q m => by
      rw [cl_app] at m
      rcases List.mem_append.mp m with m | m
      · exact sh_free q 32 (by omega) m
      · exact absurd m (by decide)
    intro p
    cases p <;> refine ⟨fun t ht => ?_, fun t ht => ?_⟩ <;> simp only [toks, toksE, wd, fracs, List.map_cons, List.map_nil, List.mem_cons, List.not_mem_nil, or_false] at ht
    all_goals first
      | (rcases ht with rfl | rfl | rfl)
      | (rcases ht with rfl | rfl)
    all_goals first
      | exact sh_free _ 32 (by omega)
      | exact e _
      | decide +kernel
  intro ps
  induction ps with
  | nil => intro t ht; cases ht
  | cons p r ih =>
    cases r with
    | nil => exact (one p).1
    | cons q r =>
      intro t ht
      rcases List.mem_append.mp (show t ∈ toksE p ++ toksS (q :: r) from ht) with h | h
      · exact (one p).2 t h
      · exact ih t h
theorem map_cl_inj : ∀ {a b : List PySem.Str}, a.map cl = b.map cl → a = b
  | [], [], _ => rfl
  | [], _ :: _, h => by cases h
  | _ :: _, [], h => by cases h
  | x :: a, y :: b, h => by
    rw [List.map_cons, List.map_cons] at h
    have h1 := List.cons.inj h
    rw [ext h1.1, map_cl_inj h1.2]
theorem split_text {ps : List Pc} (h : ps ≠ []) : Txt.split (textB ps) (PySem.Str.ofString " ") = toksS ps := by
  refine map_cl_inj ?_
  rw [str_blank, split_cut, text_join ps h]
  refine cut_join (fun e => ?_) (tok_free ps)
  cases ps with
  | nil => exact h rfl
  | cons q r =>
    obtain ⟨t, ts, et⟩ := toksS_cons q r
    rw [et] at e
    cases e
def wordF (w : PySem.Str) : List PySem.Str := if Txt.endswith w (PySem.Str.ofString ";") = true then [Txt.slice w none (some (-1)), PySem.Str.ofString ";"] else [w]
def wordsF (ws : List PySem.Str) : List PySem.Str := (ws.map wordF).flatten
theorem wordF_no {w : PySem.Str} (h : 59 ∉ cl w) : wordF w = [w] := by
  unfold wordF
  rw [if_neg]
  rw [str_semi, ends_one, decide_eq_true_eq]
  intro e
  exact h (List.mem_of_getLast? e)
theorem wordF_semi (w : PySem.Str) : wordF (w ++ ⟨#[59]⟩) = [w, PySem.Str.ofString ";"] := by
  have e : cl (w ++ ⟨#[59]⟩) = cl w ++ [59] := cl_app _ _
  unfold wordF
  rw [if_pos]
  · have : Txt.slice (w ++ ⟨#[59]⟩) none (some (-1)) = w := ext (by rw [slice_init, e, List.dropLast_concat])
    rw [this]
  · rw [str_semi, ends_one, e, List.getLast?_concat]
    exact decide_eq_true rfl
theorem words_toks : ∀ (ps : List Pc), ps ≠ [] → wordsF (toksS ps) = toksB ps := by
  have g : wordF (PySem.Str.ofString "gap") = [PySem.Str.ofString "gap"] := wordF_no (by decide +kernel)
  have gl : wordF (PySem.Str.ofString "glass") = [PySem.Str.ofString "glass"] := wordF_no (by decide +kernel)
  have st : wordF (PySem.Str.ofString "stop") = [PySem.Str.ofString "stop"] := wordF_no (by decide +kernel)
  have s : ∀ q : Rat, wordF (shS q) = [shS q] := fun q => wordF_no (sh_free q 59 (by omega))
  have one : ∀ p : Pc, wordsF (toks p) = toks p ∧ wordsF (toksE p) = toks p ++ [PySem.Str.ofString ";"] := by
    intro p
    cases p <;> refine ⟨?_, ?_⟩ <;> simp only [wordsF, toks, toksE, wd, fracs, List.map_cons, List.map_nil, List.flatten_cons, List.flatten_nil, g, gl, st, s, wordF_semi] <;> rfl
  intro ps
  induction ps with
  | nil => intro h; exact absurd rfl h
  | cons p r ih =>
    intro _
    cases r with
    | nil => exact (one p).1
    | cons q r =>
      show wordsF (toksE p ++ toksS (q :: r)) = toks p ++ PySem.Str.ofString ";" :: toksB (q :: r)
      have e : wordsF (toksE p ++ toksS (q :: r)) = wordsF (toksE p) ++ wordsF (toksS (q :: r)) := by
        unfold wordsF
        rw [List.map_append, List.flatten_append]
      rw [e, (one p).2, ih (by simp), List.append_assoc]
      rfl
end Tx
namespace Lib
open PySem L2 Fr Op Tx
abbrev RdO (C dx wl : Addr) (i : Nat) : HO := .ins C dx [("words", .ref wl), ("place", .int (i : Int))]
structure RdAt (C a dx wl : Addr) (ws : List Str) (i : Nat) (H : Hp) : Prop where
  r : H a = some (RdO C dx wl i)
  w : H wl = some (.lst (ws.map V.str))
  le : ws.length ≤ 50000
theorem RdAt.keep {C a dx wl : Addr} {ws : List Str} {i : Nat} {H H' : Hp} (h : RdAt C a dx wl ws i H) (s : Same H H') : RdAt C a dx wl ws i H' := ⟨s _ _ h.r, s _ _ h.w, h.le⟩
theorem RdAt.ne {C a dx wl : Addr} {ws : List Str} {i : Nat} {H : Hp} (h : RdAt C a dx wl ws i H) : wl ≠ a := fun e => by
  have h1 := h.r
  have h2 := h.w
  rw [e, h1] at h2
  cases h2
theorem RdAt.step {C a dx wl : Addr} {ws : List Str} {i : Nat} {H : Hp} (h : RdAt C a dx wl ws i H) (j : Nat) : RdAt C a dx wl ws j (upd H a (RdO C dx wl j)) := ⟨upd_same, by rw [upd_ne h.ne]; exact h.w, h.le⟩
theorem sd_updA {a : Addr} {H : Hp} (o : HO) : SD a H (upd H a o) := fun b u n e => by rw [upd_ne n]; exact e
theorem SD.ofSame {a : Addr} {H H' : Hp} (s : Same H H') : SD a H H' := fun b u _ e => s _ _ e
theorem sd_T {C a dx wl : Addr} {i : Nat} {H H' : Hp} (h : H a = some (RdO C dx wl i)) (s : SD a H H') : SameT H H' := fun b ys => ⟨fun e => s b _ (fun z => by rw [z, h] at e; cases e) e, fun o e => s b _ (fun z => by rw [z, h] at e; cases e) e⟩
theorem small10k {n : Nat} (h : n ≤ 50000) : n < sizeLine := Nat.lt_of_le_of_lt h (by decide)
def spRInit (C : Addr) : Sp := fun vs H Q _ => ∃ a dx wl, vs = [.ref a, .ref wl] ∧ H a = some (.ins C dx []) ∧ Q .non (upd H a (RdO C dx wl 0))
def spDone (C : Addr) : Sp := fun vs H Q _ => ∃ a dx wl ws i, vs = [.ref a] ∧ RdAt C a dx wl ws i H ∧ Q (.bl (decide (i = ws.length))) H
def spTakeIf (C : Addr) : Sp := fun vs H Q _ => ∃ a dx wl ws i z, vs = [.ref a, .str z] ∧ RdAt C a dx wl ws i H ∧ i ≤ ws.length ∧ (ws[i]? = some z → Q (.bl true) (upd H a (RdO C dx wl (i + 1)))) ∧ (ws[i]? ≠ some z → Q (.bl false) H)
def spWords : Sp := fun vs H Q _ => ∃ x : Str, vs = [.str x] ∧ x.length + 2 ≤ sizeLine ∧ (Txt.split x (PySem.Str.ofString " ")).length ≤ 20001 ∧ (∀ w ∈ Txt.split x (PySem.Str.ofString " "), w.length ≤ 50000) ∧
  ∀ l H', Same H H' → H l = none → H' l = some (.lst ((wordsF (Txt.split x (PySem.Str.ofString " "))).map V.str)) → Q (.ref l) H'
def spShowD (K : PySem.W.Frag) : Sp := fun vs H Q _ => ∃ (v : V) (q : Rat), vs = [v] ∧ DV K H v (frD q) ∧ Short q ∧ Q (.str (shS q)) H
def PShort (p : Pc) : Prop := p.ok ∧ ∀ q ∈ fracs p, Short q
def spShowB (K : PySem.W.Frag) : Sp := fun vs H Q _ => ∃ (v : V) (ps : List Pc), vs = [v] ∧ DV K H v (benchD ps) ∧ ps.length ≤ 60 ∧ (∀ p ∈ ps, PShort p) ∧ ∀ H', Same H H' → Q (.str (textB ps)) H'
theorem toks_len (p : Pc) : (toks p).length ≤ 3 ∧ 2 ≤ (toks p).length := by cases p <;> exact ⟨by simp [toks, fracs], by simp [toks, fracs]⟩
theorem shS_len {q : Rat} (h : Short q) : (shS q).length ≤ 40 := by rw [← cl_len, cl_shS]; exact sh_len q h
theorem tok1_le (p : Pc) (h : PShort p) (t : Str) (m : t ∈ toks p) : t.length ≤ 50 := by
  rcases List.mem_cons.mp m with rfl | m
  · cases p with
    | gap _ => show (PySem.Str.ofString "gap").length ≤ 50; decide +kernel
    | glass _ => show (PySem.Str.ofString "glass").length ≤ 50; decide +kernel
    | stop _ _ => show (PySem.Str.ofString "stop").length ≤ 50; decide +kernel
  · obtain ⟨q, hq, rfl⟩ := List.mem_map.mp m
    have := shS_len (h.2 q hq)
    omega
theorem join_le (sep : Str) (ts : List Str) (B : Nat) (h : ∀ t ∈ ts, t.length ≤ B) : (PySem.Str.join sep ts).length ≤ ts.length * (B + sep.length) := by
  have h1 := StrLaws.join_length_le sep ts
  have h2 : (ts.map (·.length)).sum ≤ ts.length * B := by
    induction ts with
    | nil => exact Nat.zero_le _
    | cons t ts ih =>
      rw [List.map_cons, List.sum_cons, List.length_cons, Nat.succ_mul]
      have := h t List.mem_cons_self
      have := ih (fun x hx => h x (List.mem_cons_of_mem _ hx)) (StrLaws.join_length_le sep ts)
      omega
  rw [Nat.mul_add]
  omega
end Lib
namespace L2
open PySem PySem.Spec PyProof.Rows
end L2
namespace Tx
open PySem PySem.Spec PySem.Builtin PySem.Builtin.Str L2 Lib Op
inductive PartF (α : Type) where
  | pc (p : Pc)
  | rd (n : Nat) (ps : List α)
def Part : Nat → Type
  | 0 => Empty
  | k + 1 => PartF (Part k)
def dgS (n : Nat) : PySem.Str := ⟨(dg n).toArray⟩
theorem cl_dgS (n : Nat) : cl (dgS n) = dg n := by show (dg n).toArray.toList = _; simp
abbrev sOf := PySem.Str.ofString
def jn {α : Type} (f : α → List PySem.Str) : List α → List PySem.Str
  | [] => []
  | [p] => f p
  | p :: q :: r => f p ++ sOf ";" :: jn f (q :: r)
def toksP : (k : Nat) → Part k → List PySem.Str
  | 0, e => nomatch e
  | _ + 1, .pc p => toks p
  | k + 1, .rd n ps => dgS n :: sOf "times" :: sOf "(" :: (jn (toksP k) ps ++ [sOf ")"])
def semi : List PySem.Str → List PySem.Str
  | [] => []
  | [t] => [t ++ ⟨#[59]⟩]
  | t :: u :: r => t :: semi (u :: r)
def gj {α : Type} (f : α → List PySem.Str) : List α → List PySem.Str
  | [] => []
  | [p] => f p
  | p :: q :: r => semi (f p) ++ gj f (q :: r)
def glP : (k : Nat) → Part k → List PySem.Str
  | 0, e => nomatch e
  | _ + 1, .pc p => toks p
  | k + 1, .rd n ps => dgS n :: sOf "times" :: sOf "(" :: (gj (glP k) ps ++ [sOf ")"])
def textK : (k : Nat) → Part k → PySem.Str
  | 0, e => nomatch e
  | _ + 1, .pc p => textP p
  | k + 1, .rd n ps => dgS n ++ sOf " times ( " ++ Txt.join (sOf "; ") (ps.map (textK k)) ++ sOf " )"
def textL (k : Nat) (ps : List (Part k)) : PySem.Str := Txt.join (sOf "; ") (ps.map (textK k))
def WP : (k : Nat) → Part k → Prop
  | 0, e => nomatch e
  | _ + 1, .pc p => PShort p
  | k + 1, .rd n ps => n ≤ 60 ∧ ps ≠ [] ∧ ps.length ≤ 50000 ∧ ∀ p ∈ ps, WP k p
def cnt : (k : Nat) → Part k → Nat
  | 0, e => nomatch e
  | _ + 1, .pc _ => 1
  | k + 1, .rd n ps => n * (ps.map (cnt k)).sum
def told : (k : Nat) → Part k → List Pc
  | 0, e => nomatch e
  | _ + 1, .pc p => [p]
  | k + 1, .rd n ps => (List.replicate n (ps.map (told k)).flatten).flatten
def cntL (k : Nat) (ps : List (Part k)) : Nat := (ps.map (cnt k)).sum
def toldL (k : Nat) (ps : List (Part k)) : List Pc := (ps.map (told k)).flatten
theorem cnt_told : ∀ (k : Nat) (p : Part k), (told k p).length = cnt k p
  | 0, e => nomatch e
  | _ + 1, .pc _ => rfl
  | k + 1, .rd n ps => by
    show (List.replicate n (ps.map (told k)).flatten).flatten.length = n * (ps.map (cnt k)).sum
    rw [L2.len_rep]
    congr 1
    induction ps with
    | nil => rfl
    | cons p r ih => rw [List.map_cons, List.flatten_cons, List.length_append, ih, List.map_cons, List.sum_cons, cnt_told k p]
theorem cntL_told (k : Nat) (ps : List (Part k)) : (toldL k ps).length = cntL k ps := by
  unfold toldL cntL
  induction ps with
  | nil => rfl
  | cons p r ih => rw [List.map_cons, List.flatten_cons, List.length_append, ih, List.map_cons, List.sum_cons, cnt_told k p]
theorem toks_ne (p : Pc) : toks p ≠ [] := by unfold toks; simp
theorem glP_ne : ∀ (k : Nat) (p : Part k), glP k p ≠ []
  | 0, e => nomatch e
  | _ + 1, .pc p => toks_ne p
  | _ + 1, .rd _ _ => by simp [glP]
theorem semi_ne : ∀ {ts : List PySem.Str}, ts ≠ [] → semi ts ≠ []
  | [], h => absurd rfl h
  | [_], _ => by simp [semi]
  | _ :: _ :: _, _ => by simp [semi]
theorem semi_concat : ∀ (xs : List PySem.Str) (x : PySem.Str), semi (xs ++ [x]) = xs ++ [x ++ ⟨#[59]⟩]
  | [], _ => rfl
  | [a], _ => rfl
  | a :: b :: r, x => by
    show a :: semi ((b :: r) ++ [x]) = a :: ((b :: r) ++ [x ++ ⟨#[59]⟩])
    rw [semi_concat (b :: r) x]
theorem gj_ne {α : Type} {f : α → List PySem.Str} (hf : ∀ p, f p ≠ []) : ∀ {ps : List α}, ps ≠ [] → gj f ps ≠ []
  | [], h => absurd rfl h
  | [p], _ => hf p
  | p :: q :: r, _ => fun e => semi_ne (hf p) (List.append_eq_nil_iff.mp e).1
theorem jcons (s x y : PySem.Str) (r : List PySem.Str) : PySem.Str.join s (x :: y :: r) = x ++ s ++ PySem.Str.join s (y :: r) := rfl
theorem app_assoc (a b c : PySem.Str) : a ++ b ++ c = a ++ (b ++ c) := ext (by rw [cl_app, cl_app, cl_app, cl_app, List.append_assoc])
theorem join_app (s : PySem.Str) : ∀ {a b : List PySem.Str}, a ≠ [] → b ≠ [] → PySem.Str.join s (a ++ b) = PySem.Str.join s a ++ s ++ PySem.Str.join s b
  | [], _, h, _ => absurd rfl h
  | [x], [], _, h => absurd rfl h
  | [x], y :: r, _, _ => rfl
  | x :: y :: a, b, _, h => by
    show PySem.Str.join s (x :: y :: (a ++ b)) = _
    rw [jcons, jcons, show y :: (a ++ b) = (y :: a) ++ b from rfl, join_app s (a := y :: a) (by simp) h]
    simp only [app_assoc]
theorem join_semi (s : PySem.Str) : ∀ {ts : List PySem.Str}, ts ≠ [] → PySem.Str.join s (semi ts) = PySem.Str.join s ts ++ ⟨#[59]⟩
  | [], h => absurd rfl h
  | [_], _ => rfl
  | x :: y :: r, _ => by
    show PySem.Str.join s (x :: semi (y :: r)) = _
    have ih := join_semi s (ts := y :: r) (by simp)
    obtain ⟨u, us, e⟩ : ∃ u us, semi (y :: r) = u :: us := by
      cases h : semi (y :: r) with
      | nil => exact absurd h (semi_ne (by simp))
      | cons u us => exact ⟨u, us, rfl⟩
    rw [e, jcons, ← e, ih, jcons]
    simp only [app_assoc]
theorem text_list {α : Type} {f : α → List PySem.Str} {g : α → PySem.Str} (hf : ∀ p, f p ≠ []) (hg : ∀ p, g p = PySem.Str.join ⟨#[32]⟩ (f p)) : ∀ {ps : List α}, ps ≠ [] → Txt.join (sOf "; ") (ps.map g) = PySem.Str.join ⟨#[32]⟩ (gj f ps)
  | [], h => absurd rfl h
  | [p], _ => by rw [joinT]; exact hg p
  | p :: q :: r, _ => by
    have ih := text_list hf hg (ps := q :: r) (by simp)
    rw [joinT] at ih ⊢
    show PySem.Str.join (sOf "; ") (g p :: g q :: r.map g) = PySem.Str.join ⟨#[32]⟩ (semi (f p) ++ gj f (q :: r))
    rw [jcons, join_app _ (semi_ne (hf p)) (gj_ne hf (by simp)), join_semi _ (hf p), ← hg p, ← ih]
    show g p ++ sOf "; " ++ PySem.Str.join (sOf "; ") ((q :: r).map g) = g p ++ ⟨#[59]⟩ ++ ⟨#[32]⟩ ++ PySem.Str.join (sOf "; ") ((q :: r).map g)
    rw [show sOf "; " = (⟨#[59]⟩ : PySem.Str) ++ ⟨#[32]⟩ by decide +kernel]
    simp only [app_assoc]
theorem text_gl : ∀ (k : Nat) (p : Part k), WP k p → textK k p = PySem.Str.join ⟨#[32]⟩ (glP k p)
  | 0, e, _ => nomatch e
  | _ + 1, .pc p, _ => by
    show textP p = PySem.Str.join ⟨#[32]⟩ (toks p)
    unfold textP
    rw [joinT, str_blank]
  | k + 1, .rd n ps, h => by
    have e1 : Txt.join (sOf "; ") (ps.map (textK k)) = PySem.Str.join ⟨#[32]⟩ (gj (glP k) ps) := by
      -- only for these parts
      have : ∀ {qs : List (Part k)}, (∀ p ∈ qs, WP k p) → qs.map (textK k) = qs.map fun p => PySem.Str.join ⟨#[32]⟩ (glP k p) := fun {qs} hq => List.map_congr_left fun p hp => text_gl k p (hq p hp)
      rw [this h.2.2.2]
      exact text_list (glP_ne k) (fun _ => rfl) h.2.1
    show dgS n ++ sOf " times ( " ++ Txt.join (sOf "; ") (ps.map (textK k)) ++ sOf " )" = PySem.Str.join ⟨#[32]⟩ (dgS n :: sOf "times" :: sOf "(" :: (gj (glP k) ps ++ [sOf ")"]))
    rw [e1, show dgS n :: sOf "times" :: sOf "(" :: (gj (glP k) ps ++ [sOf ")"]) = [dgS n, sOf "times", sOf "("] ++ (gj (glP k) ps ++ [sOf ")"]) from rfl, join_app _ (by simp) (by simp), join_app _ (gj_ne (glP_ne k) h.2.1) (by simp)]
    show _ = dgS n ++ ⟨#[32]⟩ ++ (sOf "times" ++ ⟨#[32]⟩ ++ sOf "(") ++ ⟨#[32]⟩ ++ (PySem.Str.join ⟨#[32]⟩ (gj (glP k) ps) ++ ⟨#[32]⟩ ++ sOf ")")
    rw [show sOf " times ( " = (⟨#[32]⟩ : PySem.Str) ++ (sOf "times" ++ ⟨#[32]⟩ ++ sOf "(") ++ ⟨#[32]⟩ by decide +kernel, show sOf " )" = (⟨#[32]⟩ : PySem.Str) ++ sOf ")" by decide +kernel]
    simp only [app_assoc]
theorem textL_gl {k : Nat} {ps : List (Part k)} (h : ∀ p ∈ ps, WP k p) (ne : ps ≠ []) : textL k ps = PySem.Str.join ⟨#[32]⟩ (gj (glP k) ps) := by
  unfold textL
  rw [List.map_congr_left fun p hp => text_gl k p (h p hp)]
  exact text_list (glP_ne k) (fun _ => rfl) ne
theorem semi_mem : ∀ {ts : List PySem.Str} {t : PySem.Str}, t ∈ semi ts → t ∈ ts ∨ ∃ u ∈ ts, t = u ++ ⟨#[59]⟩
  | [], _, h => nomatch h
  | [u], t, h => .inr ⟨u, by simp, List.mem_singleton.mp h⟩
  | u :: v :: r, t, h => by
    rcases List.mem_cons.mp (show t ∈ u :: semi (v :: r) from h) with rfl | h
    · exact .inl (by simp)
    · rcases semi_mem h with h | ⟨w, h1, h2⟩
      · exact .inl (List.mem_cons_of_mem _ h)
      · exact .inr ⟨w, List.mem_cons_of_mem _ h1, h2⟩
theorem semi_free {ts : List PySem.Str} (h : ∀ t ∈ ts, 32 ∉ cl t) : ∀ t ∈ semi ts, 32 ∉ cl t := fun t ht m => by
  rcases semi_mem ht with h1 | ⟨u, h1, rfl⟩
  · exact h t h1 m
  · rw [cl_app] at m
    rcases List.mem_append.mp m with m | m
    · exact h u h1 m
    · exact absurd m (by decide)
theorem gj_free {α : Type} {f : α → List PySem.Str} : ∀ {ps : List α}, (∀ p ∈ ps, ∀ t ∈ f p, 32 ∉ cl t) → ∀ t ∈ gj f ps, 32 ∉ cl t
  | [], _ => fun _ h => nomatch h
  | [p], hf => hf p (by simp)
  | p :: q :: r, hf => fun t ht => by
    rcases List.mem_append.mp (show t ∈ semi (f p) ++ gj f (q :: r) from ht) with h | h
    · exact semi_free (hf p (by simp)) t h
    · exact gj_free (fun p hp => hf p (List.mem_cons_of_mem _ hp)) t h
theorem dg_free (n c : Nat) (h : ¬ (48 ≤ c ∧ c ≤ 57)) : c ∉ dg n := fun m => h (dg_digits n c m)
theorem toks_free (p : Pc) : (∀ t ∈ toks p, 32 ∉ cl t) ∧ ∀ t ∈ toks p, 59 ∉ cl t := by
  have w1 : 32 ∉ cl (wd p) ∧ 59 ∉ cl (wd p) := by cases p <;> exact ⟨by show _ ∉ cl (PySem.Str.ofString _); decide +kernel, by show _ ∉ cl (PySem.Str.ofString _); decide +kernel⟩
  refine ⟨fun t ht => ?_, fun t ht => ?_⟩
  · rcases List.mem_cons.mp (show t ∈ wd p :: (fracs p).map shS from ht) with rfl | h
    · exact w1.1
    · obtain ⟨q, _, rfl⟩ := List.mem_map.mp h
      exact sh_free q 32 (by omega)
  · rcases List.mem_cons.mp (show t ∈ wd p :: (fracs p).map shS from ht) with rfl | h
    · exact w1.2
    · obtain ⟨q, _, rfl⟩ := List.mem_map.mp h
      exact sh_free q 59 (by omega)
theorem glP_free : ∀ (k : Nat) (p : Part k), ∀ t ∈ glP k p, 32 ∉ cl t
  | 0, e => nomatch e
  | _ + 1, .pc p => (toks_free p).1
  | k + 1, .rd n ps => fun t ht => by
    simp only [glP, List.mem_cons, List.mem_append, List.not_mem_nil, or_false] at ht
    rcases ht with rfl | rfl | rfl | h | rfl
    · rw [cl_dgS]; exact dg_free n 32 (by omega)
    · decide +kernel
    · decide +kernel
    · exact gj_free (fun p _ => glP_free k p) t h
    · decide +kernel
theorem split_textL {k : Nat} {ps : List (Part k)} (h : ∀ p ∈ ps, WP k p) (ne : ps ≠ []) : Txt.split (textL k ps) (PySem.Str.ofString " ") = gj (glP k) ps := by
  refine map_cl_inj ?_
  rw [str_blank, split_cut, textL_gl h ne]
  exact cut_join (gj_ne (glP_ne k) ne) (gj_free fun p _ => glP_free k p)
theorem wordsF_app (a b : List PySem.Str) : wordsF (a ++ b) = wordsF a ++ wordsF b := by unfold wordsF; rw [List.map_append, List.flatten_append]
theorem wordsF_cons (a : PySem.Str) (b : List PySem.Str) : wordsF (a :: b) = wordF a ++ wordsF b := by unfold wordsF; rw [List.map_cons, List.flatten_cons]
theorem wordsF_free : ∀ {ts : List PySem.Str}, (∀ t ∈ ts, 59 ∉ cl t) → wordsF ts = ts
  | [], _ => rfl
  | t :: r, h => by rw [wordsF_cons, wordF_no (h t (by simp)), wordsF_free fun x hx => h x (List.mem_cons_of_mem _ hx)]; rfl
theorem wordsF_semi : ∀ {ts : List PySem.Str}, ts ≠ [] → (∀ t ∈ ts, 59 ∉ cl t) → wordsF (semi ts) = ts ++ [sOf ";"]
  | [], h, _ => absurd rfl h
  | [t], _, _ => by show wordsF [t ++ ⟨#[59]⟩] = _; rw [wordsF_cons, wordF_semi]; rfl
  | t :: u :: r, _, h => by
    show wordsF (t :: semi (u :: r)) = _
    rw [wordsF_cons, wordF_no (h t (by simp)), wordsF_semi (by simp) fun x hx => h x (List.mem_cons_of_mem _ hx)]
    rfl
theorem words_list {α : Type} {f g : α → List PySem.Str} (h1 : ∀ p, wordsF (f p) = g p) (h2 : ∀ p, wordsF (semi (f p)) = g p ++ [sOf ";"]) : ∀ ps : List α, wordsF (gj f ps) = jn g ps
  | [] => rfl
  | [p] => h1 p
  | p :: q :: r => by
    show wordsF (semi (f p) ++ gj f (q :: r)) = g p ++ sOf ";" :: jn g (q :: r)
    rw [wordsF_app, h2, words_list h1 h2 (q :: r), List.append_assoc]
    rfl
theorem words_glP : ∀ (k : Nat) (p : Part k), wordsF (glP k p) = toksP k p ∧ wordsF (semi (glP k p)) = toksP k p ++ [sOf ";"]
  | 0, e => nomatch e
  | _ + 1, .pc p => ⟨wordsF_free (toks_free p).2, wordsF_semi (toks_ne p) (toks_free p).2⟩
  | k + 1, .rd n ps => by
    have ih := words_list (fun p => (words_glP k p).1) (fun p => (words_glP k p).2) ps
    have a1 : wordF (dgS n) = [dgS n] := wordF_no (by rw [cl_dgS]; exact dg_free n 59 (by omega))
    have a2 : wordF (sOf "times") = [sOf "times"] := wordF_no (by decide +kernel)
    have a3 : wordF (sOf "(") = [sOf "("] := wordF_no (by decide +kernel)
    have a4 : wordsF [sOf ")"] = [sOf ")"] := by rw [wordsF_cons, wordF_no (by decide +kernel)]; rfl
    have a5 : wordsF [sOf ")" ++ ⟨#[59]⟩] = [sOf ")", sOf ";"] := by rw [wordsF_cons, wordF_semi]; rfl
    refine ⟨?_, ?_⟩
    · show wordsF (dgS n :: sOf "times" :: sOf "(" :: (gj (glP k) ps ++ [sOf ")"])) = dgS n :: sOf "times" :: sOf "(" :: (jn (toksP k) ps ++ [sOf ")"])
      rw [wordsF_cons, wordsF_cons, wordsF_cons, wordsF_app, ih, a1, a2, a3, a4]
      rfl
    · show wordsF (semi ((dgS n :: sOf "times" :: sOf "(" :: gj (glP k) ps) ++ [sOf ")"])) = (dgS n :: sOf "times" :: sOf "(" :: (jn (toksP k) ps ++ [sOf ")"])) ++ [sOf ";"]
      rw [semi_concat, wordsF_app, wordsF_cons, wordsF_cons, wordsF_cons, ih, a1, a2, a3, a5]
      simp
theorem words_textL {k : Nat} {ps : List (Part k)} (h : ∀ p ∈ ps, WP k p) (ne : ps ≠ []) : wordsF (Txt.split (textL k ps) (PySem.Str.ofString " ")) = jn (toksP k) ps := by
  rw [split_textL h ne]
  exact words_list (fun p => (words_glP k p).1) (fun p => (words_glP k p).2) ps
theorem cut_len (c : Nat) : ∀ l : List Nat, (cut c l).length ≤ l.length + 1 ∧ ∀ x ∈ cut c l, x.length ≤ l.length
  | [] => ⟨by simp [cut], fun x hx => by simp [cut] at hx; subst hx; simp⟩
  | a :: l => by
    obtain ⟨h1, h2⟩ := cut_len c l
    have ne := cut_ne c l
    show (if a = c then [] :: cut c l else match cut c l with
      | [] => [[a]]
      | p :: ps => (a :: p) :: ps).length ≤ _ ∧ ∀ x ∈ (if a = c then [] :: cut c l else match cut c l with
      | [] => [[a]]
      | p :: ps => (a :: p) :: ps), x.length ≤ _
    cases hc : cut c l with
    | nil => exact absurd hc ne
    | cons p ps =>
      rw [hc] at h1 h2
      by_cases z : a = c
      · rw [if_pos z]
        refine ⟨by simp only [List.length_cons] at h1 ⊢; omega, fun x hx => ?_⟩
        rcases List.mem_cons.mp hx with rfl | hx
        · exact Nat.zero_le _
        · have := h2 x hx; simp only [List.length_cons]; omega
      · rw [if_neg z]
        refine ⟨by simp only [List.length_cons] at h1 ⊢; omega, fun x hx => ?_⟩
        rcases List.mem_cons.mp hx with rfl | hx
        · have := h2 p (by simp); simp only [List.length_cons]; omega
        · have := h2 x (List.mem_cons_of_mem _ hx); simp only [List.length_cons]; omega
theorem split_len (x : PySem.Str) : (Txt.split x (PySem.Str.ofString " ")).length ≤ x.length + 1 ∧ ∀ t ∈ Txt.split x (PySem.Str.ofString " "), t.length ≤ x.length := by
  have e := split_cut x 32
  have h := cut_len 32 (cl x)
  rw [← e, cl_len, List.length_map] at h
  rw [str_blank]
  refine ⟨h.1, fun t ht => ?_⟩
  rw [← cl_len]
  exact h.2 _ (List.mem_map_of_mem ht)
theorem words_le (ts : List PySem.Str) : (wordsF ts).length ≤ 2 * ts.length := by
  induction ts with
  | nil => exact Nat.le_refl _
  | cons w L ih =>
    rw [wordsF_cons, List.length_append, List.length_cons]
    have : (wordF w).length ≤ 2 := by unfold wordF; split <;> simp
    omega
theorem toksP_pos : ∀ (k : Nat) (p : Part k), 1 ≤ (toksP k p).length
  | 0, e => nomatch e
  | _ + 1, .pc p => by have := toks_len p; show 1 ≤ (toks p).length; omega
  | _ + 1, .rd _ _ => by simp [toksP]
theorem jn_ge {k : Nat} : ∀ ps : List (Part k), ps.length ≤ (jn (toksP k) ps).length
  | [] => Nat.le_refl _
  | [p] => toksP_pos k p
  | p :: q :: r => by
    show (q :: r).length + 1 ≤ (toksP k p ++ sOf ";" :: jn (toksP k) (q :: r)).length
    rw [List.length_append]
    have h1 := toksP_pos k p
    have h2 := jn_ge (q :: r)
    simp only [List.length_cons] at h2 ⊢
    omega
def tailP (k : Nat) : List (Part k) → List PySem.Str
  | [] => []
  | q :: r => sOf ";" :: jn (toksP k) (q :: r)
theorem jn_tail (k : Nat) (p : Part k) (r : List (Part k)) : jn (toksP k) (p :: r) = toksP k p ++ tailP k r := by
  cases r with
  | nil => show toksP k p = toksP k p ++ []; rw [List.append_nil]
  | cons q r => rfl
end Tx
namespace Lib
open PySem L2 Fr Op Tx
def PV (K : PySem.W.Frag) : (k : Nat) → (Addr → Prop) → Hp → V → Part k → Prop
  | 0, _, _, _, e => nomatch e
  | _ + 1, _, H, v, .pc p => DV K H v (pcD p)
  | k + 1, F, H, v, .rd n ps => ∃ (t l : Addr) (xs : List V), v = .ref t ∧ H t = some (.tup [.str (sOf "times"), .int (n : Int), .ref l]) ∧ F l ∧ H l = some (.lst xs) ∧ xs.length = ps.length ∧ ∀ (i : Nat) (x : V) (p : Part k), xs[i]? = some x → ps[i]? = some p → PV K k F H x p
def PVs (K : PySem.W.Frag) (k : Nat) (F : Addr → Prop) (H : Hp) (xs : List V) (ps : List (Part k)) : Prop := xs.length = ps.length ∧ ∀ (i : Nat) (x : V) (p : Part k), xs[i]? = some x → ps[i]? = some p → PV K k F H x p
theorem PV.keep {K : PySem.W.Frag} {F G : Addr → Prop} {H H' : Hp} (sT : SameT H H') (sL : ∀ l xs, F l → H l = some (.lst xs) → H' l = some (.lst xs) ∧ G l) : ∀ (k : Nat) {v : V} {p : Part k}, PV K k F H v p → PV K k G H' v p
  | 0, _, e, _ => nomatch e
  | _ + 1, _, .pc p, h => dv_keepT sT (noL_pc p) h
  | k + 1, _, .rd n ps, h => by
    obtain ⟨t, l, xs, e, ht, fl, hl, el, hx⟩ := h
    exact ⟨t, l, xs, e, (sT _ _).1 ht, (sL l xs fl hl).2, (sL l xs fl hl).1, el, fun i x p h1 h2 => PV.keep sT sL k (hx i x p h1 h2)⟩
theorem PVs.keep {K : PySem.W.Frag} {F G : Addr → Prop} {H H' : Hp} {k : Nat} {xs : List V} {ps : List (Part k)} (h : PVs K k F H xs ps) (sT : SameT H H') (sL : ∀ l xs, F l → H l = some (.lst xs) → H' l = some (.lst xs) ∧ G l) : PVs K k G H' xs ps :=
  ⟨h.1, fun i x p h1 h2 => PV.keep sT sL k (h.2 i x p h1 h2)⟩
theorem PVs.same {K : PySem.W.Frag} {F : Addr → Prop} {H H' : Hp} {k : Nat} {xs : List V} {ps : List (Part k)} (h : PVs K k F H xs ps) (s : Same H H') : PVs K k F H' xs ps := h.keep s.t fun l xs fl hl => ⟨s _ _ hl, fl⟩
theorem PVs.nil {K : PySem.W.Frag} {F : Addr → Prop} {H : Hp} {k : Nat} : PVs K k F H [] [] := ⟨rfl, fun i x p h => nomatch h⟩
theorem PVs.concat {K : PySem.W.Frag} {F : Addr → Prop} {H : Hp} {k : Nat} {xs : List V} {ps : List (Part k)} {v : V} {p : Part k} (h : PVs K k F H xs ps) (hv : PV K k F H v p) : PVs K k F H (xs ++ [v]) (ps ++ [p]) := by
  refine ⟨by rw [List.length_append, List.length_append, h.1]; rfl, fun i x q h1 h2 => ?_⟩
  by_cases hi : i < xs.length
  · rw [List.getElem?_append_left hi] at h1
    rw [List.getElem?_append_left (by rw [← h.1]; exact hi)] at h2
    exact h.2 i x q h1 h2
  · have hl := lt_of_get h1
    rw [List.length_append] at hl
    have e : i = xs.length := by simp only [List.length_cons, List.length_nil] at hl; omega
    subst e
    rw [List.getElem?_append_right (Nat.le_refl _), Nat.sub_self] at h1
    rw [h.1, List.getElem?_append_right (Nat.le_refl _), Nat.sub_self] at h2
    cases h1
    cases h2
    exact hv
def TkAt (ws : List Str) (i : Nat) (ts : List Str) : Prop := ∀ (j : Nat) (t : Str), ts[j]? = some t → ws[i + j]? = some t
theorem TkAt.left {ws a b : List Str} {i : Nat} (h : TkAt ws i (a ++ b)) : TkAt ws i a := fun j t ht => h j t (by rw [List.getElem?_append_left (lt_of_get ht)]; exact ht)
theorem TkAt.right {ws a b : List Str} {i : Nat} (h : TkAt ws i (a ++ b)) : TkAt ws (i + a.length) b := fun j t ht => by
  rw [Nat.add_assoc]
  exact h (a.length + j) t (by rw [List.getElem?_append_right (by omega), Nat.add_sub_cancel_left]; exact ht)
theorem TkAt.head {ws b : List Str} {i : Nat} {t : Str} (h : TkAt ws i (t :: b)) : ws[i]? = some t := h 0 t rfl
theorem TkAt.tail {ws b : List Str} {i : Nat} {t : Str} (h : TkAt ws i (t :: b)) : TkAt ws (i + 1) b := TkAt.right (a := [t]) h
def FrA (H : Hp) : Addr → Prop := fun b => H b = none
def spCntk (K : PySem.W.Frag) (k : Nat) : Sp := fun vs H Q _ => ∃ (l : Addr) (xs : List V) (ps : List (Part k)) (F : Addr → Prop), vs = [.ref l] ∧ H l = some (.lst xs) ∧ PVs K k F H xs ps ∧ ps.length ≤ 50000 ∧ (∀ p ∈ ps, WP k p) ∧ k ≤ 5 ∧ Q (.int (cntL k ps : Int)) H
def spOutk (K : PySem.W.Frag) (k : Nat) : Sp := fun vs H Q _ => ∃ (l : Addr) (xs : List V) (ps : List (Part k)) (F : Addr → Prop), vs = [.ref l] ∧ H l = some (.lst xs) ∧ PVs K k F H xs ps ∧ ps.length ≤ 50000 ∧ (∀ p ∈ ps, WP k p) ∧ cntL k ps ≤ 60 ∧
  ∀ l ys H', Same H H' → H l = none → H' l = some (.lst ys) → DVs K H' ys ((toldL k ps).map pcD) → Q (.ref l) H'
end Lib
namespace L2
open PySem PySem.Spec PyProof.Rows
theorem FnB.imp {P : Program} {w : World} {K : PySem.W.Frag} {mg : Str → Option Value} {base : Heap} {c : Bool} {k : Nat} {f : Addr} {fd : FuncData} {ps : List Str} {sp sp' : Sp} (F : FnB P w K mg base c k f fd ps sp) (h : ∀ vs H Q E, sp' vs H Q E → sp vs H Q E) : FnB P w K mg base c k f fd ps sp' :=
  ⟨fun vs H Q E z => F.len vs H Q E (h _ _ _ _ z), fun A outer s H args us vs Q E hr e0 hb r z => F.run A outer s H args us vs Q E hr e0 hb r (h _ _ _ _ z)⟩
theorem CalB.imp {P : Program} {w : World} {K : PySem.W.Frag} {mg : Str → Option Value} {base : Heap} {c : Bool} {k : Nat} {x : Str} {ps : List Str} {sp sp' : Sp} (C : CalB P w K mg base c k x ps sp) (h : ∀ vs H Q E, sp' vs H Q E → sp vs H Q E) : CalB P w K mg base c k x ps sp' := by
  obtain ⟨f, fd, F, r⟩ := C.ex
  exact ⟨f, fd, F.imp h, r⟩
end L2
namespace Lib
open PySem L2 Fr Op Tx
structure DrSys where
  P : Hp → Addr → Addr → Nat → Prop
  keep : ∀ {H H' : Hp} {d c : Addr} {F : Nat}, P H d c F → Same H H' → P H' d c F
  keepD : ∀ {H H' : Hp} {d c l : Addr} {F : Nat}, P H d c F → SD l H H' → d ≠ l → c ≠ l → P H' d c F
  le : ∀ {H : Hp} {d c : Addr} {F F' : Nat}, P H d c F → F' ≤ F → P H d c F'
  nd : ∀ {H : Hp} {d c p : Addr} {F : Nat}, P H d c F → H p = none → p ≠ d
  nc : ∀ {H : Hp} {d c p : Addr} {F : Nat}, P H d c F → H p = none → p ≠ c
  t : ∀ {H H' : Hp} {d c : Addr} {F : Nat}, P H d c F → SE d c H H' → SameT H H'
def PA0 (H : Hp) (d c : Addr) (_ : Nat) : Prop := ∃ L, DrA H d c L
def dsA : DrSys where
  P := PA0
  keep := fun ⟨L, h⟩ s => ⟨L, h.keep s⟩
  keepD := fun ⟨L, h⟩ s hd hc => by
    obtain ⟨a, n, h0, h1⟩ := h.d
    exact ⟨L, ⟨a, n, h0, s _ _ hd h1⟩, s _ _ hc h.c, h.i, h.l, h.m⟩
  le := fun h _ => h
  nd := fun ⟨L, h⟩ hp e => by
    obtain ⟨a, n, h0, h1⟩ := h.d
    rw [e, h1] at hp; cases hp
  nc := fun ⟨L, h⟩ hp e => by rw [e, h.c] at hp; cases hp
  t := fun ⟨L, h⟩ s => by
    obtain ⟨a, n, h0, h1⟩ := h.d
    have h2 := h.c
    exact fun b ys => ⟨fun e => s b _ (fun z => by rw [z, h1] at e; cases e) (fun z => by rw [z, h2] at e; cases e) e, fun o e => s b _ (fun z => by rw [z, h1] at e; cases e) (fun z => by rw [z, h2] at e; cases e) e⟩
theorem DrSys.dv (S : DrSys) {K : PySem.W.Frag} {H H' : Hp} {d c : Addr} {F : Nat} {v : V} {x : PyData} (h : S.P H d c F) (s : SE d c H H') (hx : DV K H v x) (n : noL x = true := by rfl) : DV K H' v x := dv_keepT (S.t h s) n hx
def spDrS (S : DrSys) : Sp := fun vs H Q _ => ∃ (d c : Addr) (F : Nat) (m : Int), vs = [.ref d, .int m] ∧ S.P H d c (F + 1) ∧ (0 < m ∧ m < 1073741824) ∧ ∀ (x : Int) H', 0 ≤ x → x < m → S.P H' d c F → SE d c H H' → Q (.int x) H'
def spPtS (S : DrSys) (K : PySem.W.Frag) : Sp := fun vs H Q _ => ∃ (d c : Addr) (F : Nat) (far : Bool), vs = [.ref d, .bl far] ∧ S.P H d c (F + 12) ∧ ∀ v H' q, S.P H' d c F → SE d c H H' → DV K H' v (frD q) → Short q → Q v H'
def spPcS (S : DrSys) (K : PySem.W.Frag) : Sp := fun vs H Q _ => ∃ (d c : Addr) (F : Nat) (far : Bool), vs = [.ref d, .bl far] ∧ S.P H d c (F + 25) ∧ ∀ v H' p, S.P H' d c F → SE d c H H' → DV K H' v (pcD p) → PShort p → Q v H'
theorem drA_S {vs : List V} {H : Hp} {Q : VK} {E : XK} (h : spDrS dsA vs H Q E) : spDraw vs H Q E := by
  obtain ⟨d, c, F, m, rfl, ⟨L, hd⟩, ⟨m0, _⟩, q⟩ := h
  exact ⟨d, c, L, m, rfl, hd, m0, fun x H' h1 h2 h3 h4 => q x H' h1 h2 ⟨L, h3⟩ h4.se⟩
end Lib
namespace Lib
open PySem L2 Fr Op Tx
abbrev pPc (k : Nat) (p : Pc) : Part (k + 1) := PartF.pc p
abbrev pRd (k n : Nat) (qs : List (Part k)) : Part (k + 1) := PartF.rd n qs
end Lib
namespace L2
open PySem PySem.Spec PyProof.Rows
end L2
namespace Lib
open PySem L2 Fr Op Tx
theorem textB_L (k : Nat) (ps : List Pc) : textL (k + 1) (ps.map (pPc k)) = textB ps := by
  unfold textL textB
  rw [List.map_map]
  rfl
theorem toldL_pcs (k : Nat) (ps : List Pc) : toldL (k + 1) (ps.map (pPc k)) = ps := by
  unfold toldL
  rw [List.map_map]
  induction ps with
  | nil => rfl
  | cons p r ih => rw [List.map_cons, List.flatten_cons, ih]; rfl
theorem WP_pcs {k : Nat} {ps : List Pc} (h : ∀ p ∈ ps, PShort p) : ∀ q ∈ ps.map (pPc k), WP (k + 1) q := fun q hq => by
  obtain ⟨p, hp, rfl⟩ := List.mem_map.mp hq
  exact h p hp
theorem mem_join {s : PySem.Str} {c : Nat} : ∀ {ts : List PySem.Str}, c ∈ cl (PySem.Str.join s ts) → c ∈ cl s ∨ ∃ t ∈ ts, c ∈ cl t
  | [], h => nomatch (show c ∈ ([] : List Nat) from h)
  | [t], h => .inr ⟨t, by simp, h⟩
  | t :: u :: r, h => by
    rw [jcons, cl_app, cl_app] at h
    rcases List.mem_append.mp h with h | h
    · rcases List.mem_append.mp h with h | h
      · exact .inr ⟨t, by simp, h⟩
      · exact .inl h
    · rcases mem_join h with h | ⟨v, hv, h⟩
      · exact .inl h
      · exact .inr ⟨v, List.mem_cons_of_mem _ hv, h⟩
end Lib
namespace L2
open PySem PySem.Spec PyProof.Rows
theorem entry_unchain : entryFor table "proto.unchain" = some Builtin.«proto.unchain» := entryFor_of_fast (by kernel_rfl)
end L2
namespace L2
open PySem PySem.Spec PyProof.Rows
inductive Rch (h : Heap) : Value → Value → Prop
  | refl {v : Value} : Rch h v v
  | step {b : Addr} {o : Obj} {vs : Array Value} {cx v : Value} : h.get? b = some o → o.data = .fields vs → vs[2]? = some cx → Rch h cx v → Rch h (.ref b) v
theorem Rch.snoc {h : Heap} {u : Value} {b : Addr} {o : Obj} {vs : Array Value} {cx : Value} (r : Rch h u (.ref b)) (e : h.get? b = some o) (d : o.data = .fields vs) (t : vs[2]? = some cx) : Rch h u cx := by
  generalize hv : (Value.ref b) = v at r
  induction r with
  | refl => subst hv; exact .step e d t .refl
  | step e' d' t' _ ih => exact .step e' d' t' (ih hv)
section
variable {prog : Program} {w : World}
theorem code_builtin {A : Around} {R : Result → Shared → Prop} {s : Shared} {id : String} {args : Args} {b : Builtin} (hb : entryFor table id = some b)
    (h : wpAny (model prog w) (A.under (.builtin id args)) (b args) (fun fin s' => match fin with | .done f => R (.ok f) s' | .again c' => c'.quiet = true ∧ codeAny (model prog w) A c' R s') (fun e s' => R (.error e) s') s) : codeAny (model prog w) A (.builtin id args) R s := by
  refine codeAny_of_tree ?_
  show wpAny _ _ (match entryFor table id with | some b => b args | none => unsupported ((withoutEnding? id "#data").getD id)) _ _ s
  rw [hb]; exact h
theorem unchain_ok {h : Heap} {v : Value} (c : Chn h v) : ∀ {A : Around} {R : Result → Shared → Prop} {s : Shared} {b e : Addr} {slow : Value} {tg : Bool}, v = .ref b → (∀ b o, h.get? b = some o → s.heap.get? b = some o) → h.get? e = none → Rch h slow v → R (.ok (.ret .none)) s →
    codeAny (model prog w) A (.builtin "proto.unchain" ⟨[.ref e, v, slow, .bool tg], []⟩) R s := by
  induction c with
  | none => intro A R s b e slow tg hv; cases hv
  | ref he hd ht c ih =>
    rename_i b' o vs cx
    intro A R s b e slow tg hv hs hne hr q
    cases hv
    refine code_builtin entry_unchain ?_
    show wpAny _ _ (do
      let context ← field (.ref b') 2
      if context == .none then return ← ret .none
      if context == .ref e then
        rule "raise.context-cycle-cut"
        setField (.ref b') 2 .none
        return ← ret .none
      if context == slow then rule "raise.context-old-cycle"; return ← ret .none
      let slow ← if tg then field slow 2 else pure slow
      again (.builtin "proto.unchain" ⟨[.ref e, context, slow, .bool !tg], []⟩)) _ _ s
    refine wpAny_bind (wpAny_field (hs _ _ he) hd ht ?_)
    cases c with
    | none =>
      rw [if_pos (show (Value.none == Value.none) = true from rfl)]
      exact wpAny_pure q
    | ref he2 hd2 ht2 c2 =>
      rename_i b2 o2 vs2 cx2
      rw [if_neg (by simp)]
      have n1 : (Value.ref b2 == Value.ref e) = false := by
        have : b2 ≠ e := fun z => by rw [z, hne] at he2; cases he2
        simpa using this
      rw [if_neg (by rw [n1]; exact Bool.false_ne_true)]
      by_cases n2 : (Value.ref b2 == slow) = true
      · rw [if_pos n2]
        exact wpAny_bind (wpAny_rule (wpAny_pure q))
      · rw [if_neg n2]
        have r2 : Rch h slow (.ref b2) := hr.snoc he hd ht
        have go : ∀ slow2, Rch h slow2 (.ref b2) → codeAny (model prog w) A (.builtin "proto.unchain" ⟨[.ref e, .ref b2, slow2, .bool !tg], []⟩) R s := fun slow2 r => ih rfl hs hne r q
        cases tg with
        | false =>
          rw [if_neg Bool.false_ne_true]
          exact wpAny_bind (wpAny_pure (wpAny_pure ⟨Code.quiet_builtin _ (by decide +kernel), go slow r2⟩))
        | true =>
          rw [if_pos rfl]
          cases r2 with
          | refl => exact absurd (by simp) n2
          | step e3 d3 t3 r3 => exact wpAny_bind (wpAny_field (hs _ _ e3) d3 t3 (wpAny_pure ⟨Code.quiet_builtin _ (by decide +kernel), go _ r3⟩))
end
end L2
namespace L2
open PySem PySem.Spec PyProof.Rows
section
variable {prog : Program} {w : World} {A : Around} {E : Value → Shared → Prop} {s : Shared} {env : Env}
variable {nm q : Str} {C N : Addr} {bs bm bmB : List Value} {hdct : Bool} {sn : List Str} {sub : List Value} {ab : Bool} {col : Option Bool} {dd : Option Addr} {k0 k1 k2 k3 k5 : Option Value} {newId : String}
abbrev excFrom (h : Heap) (e a : Addr) : Heap := ((h.update e (Obj.mapFields (·.setIfInBounds 3 .none))).update e (Obj.mapFields (·.setIfInBounds 4 (.bool true)))).update e (Obj.mapFields (·.setIfInBounds 2 (.ref a)))
theorem raiseStmt_from {a : Addr} {x c : Sem Value} {Q : Flow → Shared → Prop} (hbase : bm.contains (.type "BaseException") = true) (hh : A.handled = some (.ref a))
    (hc : ∀ s₁, wpAny (model prog w) A c (fun cv s₂ => cv = .none ∧ s₂ = s₁) E s₁)
    (h : wpAny (model prog w) A x (fun v s₁ => ∃ e t, v = .ref e ∧ s₁.heap.get? C = some (excClassObj nm q C N bs bm hdct sn sub ab col dd k0 k1 k2 k3 k5 newId) ∧
      s₁.heap.get? e = some { cls := .ref C, data := .fields #[.ref t, .none, .none, .none, .bool false, .none] } ∧ (∃ g : Heap, Chn g (.ref a) ∧ g.get? e = none ∧ ∀ b o, g.get? b = some o → s₁.heap.get? b = some o) ∧ E (.ref e) { s₁ with heap := excFrom s₁.heap e a }) E s) :
    wpAny (model prog w) A (raiseStmt env (some x) (some c)) Q E s := by
  have hcB : (Value.ref C :: bm).contains (.type "BaseException") = true := by rw [List.contains_cons, hbase, Bool.or_true]
  unfold raiseStmt
  refine wpAny_bind (wpAny_mono h (fun v s₁ h₁ => ?_) fun _ _ x => x)
  obtain ⟨e, t, rfl, hC, he, ⟨g0, chn, ng, kg⟩, hE⟩ := h₁
  obtain ⟨hp, g, d, tk, os⟩ := s₁
  have nae : a ≠ e := fun z => by
    cases chn with
    | ref h1 _ _ _ => rw [z, ng] at h1; cases h1
  have nCe : C ≠ e := fun z => by
    rw [z] at hC
    have := he.symm.trans hC
    cases this
  refine wpAny_bind (wpAny_holding (wpAny_mono (hc _) (fun cv s₂ h₂ => ?_) fun _ _ x => x))
  obtain ⟨rfl, rfl⟩ := h₂
  refine wpAny_bind (wpAny_pure ?_)
  repeat (first | with_reducible refine wpAny_loadPart_at he ?_ | with_reducible refine wpAny_loadPart_at hC ?_ | (with_reducible refine wpAny_isSubtype_exc hC ?_; rw [hcB]) | wp_step)
  unfold raiseNew
  refine wpAny_bind (wpAny_handled ?_)
  rw [hh]
  show wpAny _ _ (do
    if (Value.ref a != Value.ref e) = true then
      let _ ← holding [Value.ref e] (runValue (.builtin "proto.unchain" ⟨[.ref e, .ref a, .ref a, .bool false], []⟩))
      updateField e 2 (.ref a)
    throw (.ref e)) _ _ _
  have n1 : (Value.ref a != Value.ref e) = true := by simpa using nae
  rw [if_pos n1]
  have oth : ∀ b o, g0.get? b = some o → ((hp.update e (Obj.mapFields fun x => x.setIfInBounds 3 Value.none)).update e (Obj.mapFields fun x => x.setIfInBounds 4 (Value.bool true))).get? b = some o := fun b o hb => by
    have nb : b ≠ e := fun z => by rw [z, ng] at hb; cases hb
    rw [Heap.get?_update_other _ _ (Ne.symm nb), Heap.get?_update_other _ _ (Ne.symm nb)]
    exact kg b o hb
  refine wpAny_bind (wpAny_holding (wpAny_runValue (unchain_ok chn rfl oth ng .refl ?_)))
  have he2 := Heap.get?_update_self (Obj.mapFields fun x => x.setIfInBounds 3 Value.none) he rfl
  have he3 := Heap.get?_update_self (Obj.mapFields fun x => x.setIfInBounds 4 (Value.bool true)) he2 rfl
  have key : wpAny (model prog w) A (setField (.ref e) 2 (.ref a)) (fun _ s' => wpAny (model prog w) A (throw (Value.ref e)) Q E s') E { heap := (hp.update e (Obj.mapFields fun x => x.setIfInBounds 3 Value.none)).update e (Obj.mapFields fun x => x.setIfInBounds 4 (Value.bool true)), gens := g, drawn := d, toks := tk, os := os } :=
    wpAny_setField he3 rfl (by simp) (wpAny_throw hE)
  exact wpAny_bind key
theorem exec_raise_from {B : String} {initId : String} (FB : ExcBaseFacts B newId initId bmB) {a : Addr} {mC : Str → Option Value} {y : Str} {p1 p2 p3 p4 : Pos} {kk : Nat} {ar : List Expr} {Z : Flow → Shared → Prop}
    (hb : bm.contains (.type "BaseException") = true) (hh : A.handled = some (.ref a)) (hpl : (backTo p2 (starEach ar env)).any (·.1) = false) (hni : mC "__init__" = none)
    (h : wpAny (model prog w) A (eval (.Name y p1) env) (fun f u1 => f = .ref C ∧ wpAny (model prog w) A (evalArgs (.ref C) true (backTo p2 (starEach ar env)) [])
      (fun b u2 => b.kw = [] ∧ b.pos.length ≤ sizeLine ∧ u2.heap.get? C = some (excClassObj nm q C N bs bm hdct sn sub ab col dd k0 k1 k2 k3 k5 newId) ∧ u2.heap.Ns N mC ∧ OwnTail u2.heap bmB bm ∧ Chn u2.heap (.ref a) ∧
        ∀ h' e, Heap.MadeExcOf u2.heap h' e (.ref C) b.pos → E (.ref e) { u2 with heap := excFrom h' e a }) E u1) E s) :
    wpAny (model prog w) A (exec (.Raise (some (.Call (.Name y p1) ar [] p2)) (some (.Constant .none kk p4)) p3) env) Z E s := by
  rw [arm_exec_Raise]
  simp only [evalOpt, Option.map]
  have hc : ∀ u, wpAny (model prog w) A (do let v ← eval (.Constant .none kk p4) env; standAt p3; pure v) (fun cv u2 => cv = .none ∧ u2 = u) E u := fun u =>
    wpAny_bind (Constant_none (wpAny_bind (wpAny_standAt (wpAny_pure ⟨rfl, rfl⟩))))
  refine wpAny_bind (wpAny_standAt (raiseStmt_from (k5 := k5) (k3 := k3) (k2 := k2) (k1 := k1) (k0 := k0) (dd := dd) (col := col) (ab := ab) (sub := sub) (sn := sn) (hdct := hdct) (bs := bs) (N := N) (q := q) (nm := nm) (newId := newId) (C := C) (a := a) hb hh hc (wpAny_bind (wpAny_mono (wpAny_Call_ofName (wpAny_mono h (fun f u1 h1 => ?_) fun _ _ z => z)) (fun v u3 h3 => wpAny_bind (wpAny_standAt (wpAny_pure h3))) fun _ _ z => z))))
  obtain ⟨rfl, h1⟩ := h1
  unfold callWith
  refine wpAny_bind (wpAny_holding (wpAny_mono h1 (fun b u2 h2 => wpAny_bind (wpAny_standAt ?_)) fun _ _ z => z))
  obtain ⟨bp, bk⟩ := b
  obtain ⟨ek, hl, hC, hn, T, chn, h2⟩ := h2
  obtain rfl : bk = [] := ek
  obtain ⟨hp, g, d, tk, os⟩ := u2
  simp only [hpl]
  refine wpAny_bind (wpAny_keeperOf_exc hC ?_)
  refine wpAny_bind (wpAny_call_exc_subT (hrest := hl) FB T hC hn hni fun h' e hm => wpAny_bind (wpAny_holding (wpAny_point (wpAny_pure ?_))))
  obtain ⟨t, ht, _, _⟩ := hm.there
  exact ⟨e, t, rfl, hm.keeps _ _ hC, ht, ⟨hp, chn, hm.new, hm.keeps⟩, h2 h' e hm⟩
end
end L2
namespace L2
open PySem PySem.Spec PyProof.Rows
section
variable {X : Cx} {pins : List (Addr × Obj)} {σ : St} {H H2 : Hp} {s s' : Shared} {a C Bc D0 : Addr} {t : Option Addr} {B : Heap} {D : Ends} {xc y : Str} {np hp p1 p2 p3 p4 : Pos} {kk jj : Nat} {z₀ : Str} {p5 : Pos} {rest : List ExceptHandler}
theorem handle_raise {E : XK} (Bd : BodyCx X E) (I : Inv X pins σ H s) (os : s'.os = s.os) (bare : AllBare s'.gens)
    (clo : ∀ h'' : Heap, B.StaysIn h'' → s'.heap.UpToSlots h'' → Un (frs X.stack) [] H H2 s.heap h'' ∧ HOk X.prog X.w H2 h'') (fly : FlyD B X.stack a (.ref C) t .none s'.heap)
    (hg : Gl X xc) (hcl : X.mg xc = some (.ref Bc)) (hm : PySem.W.exmOne X.K (.ref C) (.ref Bc) = some true) (O : ExcCls X.K X.mg y D0) (hgy : Gl X y)
    (q : E (.ref D0) none H2) (hdb : (xc == ("__debug__" : Str)) = false := by decide) (hdy : (y == ("__debug__" : Str)) = false := by decide) (ht : 1 ≤ s'.toks := by first | assumption | exact Inv.tk (by assumption) | exact Nat.le_add_left _ _ | omega) :
    wpAny (model X.prog X.w) X.A (noteFrame (.ref a) X.env) (fun _ s₂ => wpAny (model X.prog X.w) X.A (setFlight (.ref a) none) (fun _ s₃ =>
      wpAny (model X.prog X.w) X.A (handleBy (.ref a) X.env (.ExceptHandler (some (.Name xc np)) none [.Raise (some (.Call (.Name y p1) [.Constant (.str z₀) jj p5] [] p2)) (some (.Constant .none kk p4)) p3] hp :: rest)) (SP X pins D) X.xe s₃) X.xe s₂) X.xe s' := by
  have hst := Bd.stk
  have hf := Bd.fr
  have hfr : X.A.frames = some (X.env :: X.outer) := by rw [← hst]; exact I.ok.frames
  have fly' : FlyD B (X.env :: X.outer) a (.ref C) t .none s'.heap := by rw [← hst]; exact fly
  refine note_next hfr hf fly' fun h4 held4 up4 => ?_
  refine fl_none (s := { s' with heap := h4 }) held4 fun h5 fly5 up5 => ?_
  have J5 : Inv X pins σ H2 { s' with heap := h5 } := inv_behind I os bare (clo h5 fly5.1 (up4.trans up5))
  obtain ⟨ob, hob, hobc, _⟩ := fly5.there
  have LT : PySem.W.Looks (model X.prog X.w) h5 (typeOf (.ref a)) (.ref C) := hobc ▸ (PySem.W.Looks.ld hob).andThen .now
  refine wpAny_handleBy_cons (codeAny_handlers_test (ld_glob (X := X.hnd a) (J5.hnd a) hg hcl ?_ hdb)) (by intro q; cases q)
  refine PySem.W.exm_one (K := X.K) J5.kIn LT hm _ _ _ _ (fun _ _ e => e) ?_
  refine codeAny_handlers_suite ?_
  refine fl_none (s := { s' with heap := h5 }) fly5 fun h6 fly6 up6 => ?_
  have J7 : Inv X pins σ H2 { s' with heap := h6 } := inv_behind I os bare (clo h6 fly6.1 ((up4.trans up5).trans up6))
  have chn6 : Chn h6 (.ref a) := by
    obtain ⟨_, _, _, o, oT, vs, ts, T, ho, _, _, hd, _, _, _, _, _, _, cx, c1, c2⟩ := fly6
    exact .ref ho hd c1 c2
  have hxe : PassesOwnAt (model X.prog X.w) (X.A.mark (some (.ref a))) X.A X.env X.xe := by rw [Bd.xe]; exact PassesOwnAt.leaving
  refine wpAny_passesOwnAt hxe (wpAny_execs_cons ?_)
  obtain ⟨bm, N, nm, qn, bs, hdct, sn, sub, ab, col, dd, k0, k1, k2, k3, k5, mN, hC, hN, hni, TL⟩ := exc_obj I.ok.mod.kin O.ob
  have hbase : bm.contains (.type "BaseException") = true := TL.hasType (X := "BaseException") (by decide +kernel)
  have hpl : (backTo p2 (starEach [.Constant (.str z₀) jj p5] X.env)).any (·.1) = false := rfl
  refine exec_raise_from (nm := nm) (q := qn) (N := N) (bs := bs) (hdct := hdct) (sn := sn) (sub := sub) (ab := ab) (col := col) (dd := dd) (k0 := k0) (k1 := k1) (k2 := k2) (k3 := k3) (k5 := k5) F.excBase_ValueError hbase rfl hpl hni (ld_glob (X := X.hnd a) (J7.hnd a) hgy O.mg ⟨rfl, ?_⟩ hdy)
  refine Calls.evalArgs_plain (Calls.spliced_cons (Calls.Constant_str (k := jj) (pos := p5) (Calls.spliced_nil ⟨rfl, by show 1 ≤ sizeLine; decide, J7.bk _ _ hC, hN.keeps J7.bk, TL.keeps J7.bk, chn6, fun h' e hm => ?_⟩)))
  have I2 : Inv X pins σ H2 { s' with heap := h6, toks := s'.toks + 1 } := J7.tok _
  rw [Bd.xe]
  have hin : ∀ env ∈ X.stack, ∀ b, env.frame = some b → b ∈ frs X.stack := fun env he b hb => List.mem_filterMap.mpr ⟨env, he, hb⟩
  have ff : h6.FunFrames (PySem.W.hideAll h6 (frs X.stack)) (X.env :: X.outer) := by
    have z := PySem.W.funFrames_hide J7.stack hin
    rw [← Bd.stk]
    exact z
  obtain ⟨t0, he0, _, _⟩ := hm.there
  have ne0 : (PySem.W.hideAll h6 (frs X.stack)).get? e = none := by
    cases q0 : (PySem.W.hideAll h6 (frs X.stack)).get? e with
    | none => rfl
    | some o => have z := PySem.W.of_hideAll _ q0; rw [hm.new] at z; cases z
  have kp : ∀ b o, h6.get? b = some o → (excFrom h' e a).get? b = some o := fun b o hb => by
    have nb : e ≠ b := fun z => by rw [← z, hm.new] at hb; cases hb
    unfold excFrom
    rw [Heap.get?_update_other _ _ nb, Heap.get?_update_other _ _ nb, Heap.get?_update_other _ _ nb]
    exact hm.keeps b o hb
  have e1 := Heap.get?_update_self (Obj.mapFields fun x => x.setIfInBounds 3 Value.none) he0 rfl
  have e2 := Heap.get?_update_self (Obj.mapFields fun x => x.setIfInBounds 4 (Value.bool true)) e1 rfl
  have e3 := Heap.get?_update_self (Obj.mapFields fun x => x.setIfInBounds 2 (Value.ref a)) e2 rfl
  have ck : Chn (excFrom h' e a) (.ref a) := chn6.mono fun b o vs hb hd => ⟨o, vs, kp b o hb, hd, rfl⟩
  refine leave_first (s := { s' with heap := excFrom h' e a, toks := s'.toks + 1 }) hfr Bd.fr (fun b o q => kp b o (PySem.W.of_hideAll _ q)) ne0 (ff.of_keeps fun b o q _ => ⟨o, kp b o q, rfl⟩) e3 rfl rfl ⟨_, rfl, ck⟩ fun h3 fly up => ?_
  exact ⟨e, D0, none, H2, _, rfl, I2.os, I2.bare, fun h'' st up2 => clo_of Bd I2 kp up h'' st up2, fly, I2.hok.none_of hm.new, new0 I2 (fun b z => by rw [Bd.ex] at z; cases z) hm.new, q⟩
end
end L2
namespace L2
open PySem PySem.Spec PyProof.Rows
section
variable {X : Cx} {c : Bool} {k : Nat} {ps : List Str} {sp : Sp} {x xc y : Str} {p pos cpos rpos np hp p1 p2 p3 p4 p5 : Pos} {e : Expr} {es : List Expr} {t : TA} {Bc D0 : Addr} {kk jj : Nat} {z₀ : Str}
theorem ps_tryRR {E : XK} (Bd : BodyCx X E) (C : CalB X.prog X.w X.K X.mg X.base c k x ps sp) (hr : RoomB c k X.A) (ha : PA X.nox (e :: es) t) (hcl : X.mg xc = some (.ref Bc)) (O : ExcCls X.K X.mg y D0) (hg : Gl X x := by rfl) (hgc : Gl X xc := by rfl) (hgy : Gl X y := by rfl)
    (hdb : (x == ("__debug__" : Str)) = false := by decide) (hdc : (xc == ("__debug__" : Str)) = false := by decide) (hdy : (y == ("__debug__" : Str)) = false := by decide)
    (he : starEach (e :: es) X.env = (false, eval e X.env) :: starEach es X.env := by rfl) (hpl : (backTo cpos (starEach es X.env)).any (·.1) = false := by rfl) :
    PS X (.Try [.Return (some (.Call (.Name x p) (e :: es) [] cpos)) rpos] [.ExceptHandler (some (.Name xc np)) none [.Raise (some (.Call (.Name y p1) [.Constant (.str z₀) jj p5] [] p2)) (some (.Constant .none kk p4)) p3] hp] [] [] pos)
      (fun D σ H => t σ H fun vs H1 => sp (vs ++ []) H1 D.rt fun c _ H2 => ∃ C', c = .ref C' ∧ PySem.W.exmOne X.K (.ref C') (.ref Bc) = some true ∧ E (.ref D0) none H2) := by
  obtain ⟨f, fd, F, hm, hk, hb⟩ := C.ex
  intro pins s σ H D I h
  refine wpAny_Try_except (wpAny_execs_cons (wpAny_Return_some (wpAny_Call_Name_kw (ld_glob I hg hm ?_ hdb))))
  refine PySem.W.callWith_K (h₀ := X.base) I.ok.mod.kin hk (thn (PA.any ha cpos I h) fun us s1 ⟨vs, H1, I1, r, q⟩ => ⟨I1.kIn, ?_⟩) he hpl
  refine thn (run_fnB F hr hb I1 r q fun e s' hx ht => ?_) fun v s2 ⟨v', H2, I2, r2, q2⟩ => ⟨v', σ, H2, I2, r2, q2⟩
  obtain ⟨a, C, t, H', B, rfl, os, bare, clo, fly, na, nw, C', eC, hmm, q2⟩ := hx
  cases eC
  exact handle_raise Bd I1 os bare clo fly hgc hcl hmm O hgy q2 hdc hdy
end
end L2
namespace L2
open PySem PySem.Spec PyProof.Rows
section
variable {X : Cx} {k : Nat} {m : Str} {pos apos : Pos} {e o : Expr} {es : List Expr} {ta : TE} {t : TA} {E : XK}
def tMX (P : Program) (w : World) (K : PySem.W.Frag) (mg : Str → Option Value) (base : Heap) (k : Nat) (m : Str) (E : XK) (ta : TE) (t : TA) : TE := fun σ H Q => ta σ H fun x H1 => ∃ a C dx fs ps sp, x = .ref a ∧ H1 a = some (.ins C dx fs) ∧ fs.lookup m = none ∧
  MC P w K mg base k C m ps sp ∧ t σ H1 fun vs H2 => sp (x :: vs) H2 Q E
theorem pe_mX {pl : Sem Bool} (hx : Passes (CX1 X.prog X.w) X E) (he : PE X o ta) (hr : RoomB true k X.A) (ha : PA X (e :: es) t)
    (hst : starEach (e :: es) X.env = (false, eval e X.env) :: starEach es X.env := by rfl) (hpl : (backTo pos (starEach es X.env)).any (·.1) = false := by rfl)
    (ht : eval (.Call (.Attribute o m apos) (e :: es) [] pos) X.env = (do
      let ov ← eval o X.env
      standAt apos.atName
      let (f, first) ← holding [ov] (getMethod ov m pl)
      callWith pos f first (backTo pos (starEach (e :: es) X.env)) (backToKw pos (keywordEach [] X.env))) := by rfl) :
    PE X (.Call (.Attribute o m apos) (e :: es) [] pos) (tMX X.prog X.w X.K X.mg X.base k m E ta t) := by
  intro pins s σ H Q I h
  refine PySem.W.methodCall_KW (pl := pl) (thn (he pins s σ H _ I h) fun u s1 ⟨x, H1, I1, rx, a, C, dx, fs, ps, sp, ex, ea, l, M, q⟩ => ?_) ht
  subst ex
  obtain rfl : u = Value.ref a := rx
  obtain ⟨f, fd, F, hm, hb⟩ := M.ex
  refine getmeth_ok I1 ea M.cl hm l ?_
  refine PySem.W.callWith_K (first := [.ref a]) (h₀ := X.base) I.ok.mod.kin hm.kp (thn (ha pos pins s1 σ H1 _ I1 q) fun us s2 ⟨vs, H2, I2, r, q2⟩ => ⟨I2.kIn, ?_⟩) hst hpl
  exact run_fn (us := .ref a :: us) (vs := .ref a :: vs) (dvs := []) (ds := []) (E := E) F.ok hr.room hb .nil hx I2 (.cons rfl r) (by rw [List.append_nil]; exact q2)
theorem pe_mX0 {pl : Sem Bool} (hx : Passes (CX1 X.prog X.w) X E) (he : PE X o ta) (hr : RoomB true k X.A)
    (ht : eval (.Call (.Attribute o m apos) [] [] pos) X.env = (do
      let ov ← eval o X.env
      standAt apos.atName
      let (f, first) ← holding [ov] (getMethod ov m pl)
      callWith pos f first (backTo pos (starEach [] X.env)) (backToKw pos (keywordEach [] X.env))) := by rfl) :
    PE X (.Call (.Attribute o m apos) [] [] pos) (tMX X.prog X.w X.K X.mg X.base k m E ta tNil) := by
  intro pins s σ H Q I h
  refine PySem.W.methodCall_KW (pl := pl) (thn (he pins s σ H _ I h) fun u s1 ⟨x, H1, I1, rx, a, C, dx, fs, ps, sp, ex, ea, l, M, q⟩ => ?_) ht
  subst ex
  obtain rfl : u = Value.ref a := rx
  obtain ⟨f, fd, F, hm, hb⟩ := M.ex
  refine getmeth_ok I1 ea M.cl hm l ?_
  exact PySem.W.callWith_K0 (first := [.ref a]) I1.kIn hm.kp (run_fn (us := [.ref a]) (vs := [.ref a]) (dvs := []) (ds := []) (E := E) F.ok hr.room hb .nil hx I1 (.cons rfl .nil) q)
end
end L2
namespace Lib
open PySem L2 Fr Op Tx
noncomputable def numOf (x : Str) : Option Rat := @dite (Option Rat) (∃ q, Short q ∧ shS q = x) (Classical.propDecidable _) (fun c => some (Classical.choose c)) (fun _ => none)
theorem shS_inj {p q : Rat} (h : shS p = shS q) : p = q := sh_inj (by rw [← cl_shS, ← cl_shS, h])
theorem numOf_sh {q : Rat} (h : Short q) : numOf (shS q) = some q := by
  unfold numOf
  have c : ∃ p, Short p ∧ shS p = shS q := ⟨q, h, rfl⟩
  rw [dif_pos c]
  exact congrArg some (shS_inj (Classical.choose_spec c).2)
theorem numOf_some {x : Str} {q : Rat} (h : numOf x = some q) : Short q ∧ x = shS q := by
  unfold numOf at h
  by_cases c : ∃ q, Short q ∧ shS q = x
  · rw [dif_pos c] at h
    have := Classical.choose_spec c
    rw [Option.some.inj h] at this
    exact ⟨this.1, this.2.symm⟩
  · rw [dif_neg c] at h
    cases h
theorem numOf_none {x : Str} (h : ∀ q, Short q → shS q ≠ x) : numOf x = none := by
  unfold numOf
  rw [dif_neg]
  rintro ⟨q, h1, h2⟩
  exact h q h1 h2
theorem none_numOf {x : Str} (h : numOf x = none) : ∀ q, Short q → shS q ≠ x := fun q hq e => by
  rw [← e, numOf_sh hq] at h
  cases h
def timesOf (x : Str) : Option Nat := (List.range 61).find? fun n => x = dgS n
theorem timesOf_some {x : Str} {n : Nat} (h : timesOf x = some n) : x = dgS n ∧ n ≤ 60 := by
  unfold timesOf at h
  have h1 := List.find?_some h
  have h2 := List.mem_of_find?_eq_some h
  rw [List.mem_range] at h2
  exact ⟨of_decide_eq_true h1, by omega⟩
theorem timesOf_none {x : Str} (h : timesOf x = none) : ∀ n, n ≤ 60 → x ≠ dgS n := fun n hn e => by
  unfold timesOf at h
  have := List.find?_eq_none.mp h n (List.mem_range.mpr (by omega))
  exact this (decide_eq_true e)
noncomputable def pNum (ws : List Str) (i : Nat) : Option (Rat × Nat) := (ws[i]?.bind numOf).map fun q => (q, i + 1)
theorem pNum_some {ws : List Str} {i : Nat} {q : Rat} {j : Nat} (h : pNum ws i = some (q, j)) : ws[i]? = some (shS q) ∧ Short q ∧ j = i + 1 := by
  unfold pNum at h
  cases e : ws[i]? with
  | none => rw [e] at h; cases h
  | some x =>
    rw [e] at h
    cases e2 : numOf x with
    | none => simp [e2] at h
    | some r =>
      simp [e2] at h
      obtain ⟨rfl, rfl⟩ := h
      obtain ⟨h1, rfl⟩ := numOf_some e2
      exact ⟨rfl, h1, rfl⟩
def pParts {α : Type} (f : Nat → Option (α × Nat)) (ws : List Str) : Nat → Nat → Option (List α × Nat)
  | 0, _ => none
  | n + 1, i => match f i with
    | none => none
    | some (p, j) => if ws[j]? = some (sOf ";") then (match pParts f ws n (j + 1) with
      | none => none
      | some (ps, m) => some (p :: ps, m)) else some ([p], j)
def pRnd {k : Nat} (f : Nat → Option (Part k × Nat)) (ws : List Str) (w : Str) (i : Nat) : Option (Part (k + 1) × Nat) :=
  match timesOf w with
  | none => none
  | some n => if k = 0 then none else if ws[i]? = some (sOf "times") then (if ws[i + 1]? = some (sOf "(") then (match pParts f ws (ws.length + 1) (i + 1 + 1) with
    | none => none
    | some (ps, j) => if ws[j]? = some (sOf ")") then some (pRd k n ps, j + 1) else none) else none) else none
noncomputable def pStop (k : Nat) (ws : List Str) (i : Nat) : Option (Part (k + 1) × Nat) := match pNum ws i with
  | none => none
  | some (lo, j) => match pNum ws j with
    | none => none
    | some (hi, j2) => if hi < lo then none else some (pPc k (.stop lo hi), j2)
noncomputable def pPart (ws : List Str) : (k : Nat) → Nat → Option (Part k × Nat)
  | 0, _ => none
  | k + 1, i => match ws[i]? with
    | none => none
    | some w => if w = sOf "gap" then (pNum ws (i + 1)).map fun x => (pPc k (.gap x.1), x.2)
      else if w = sOf "glass" then (pNum ws (i + 1)).map fun x => (pPc k (.glass x.1), x.2)
      else if w = sOf "stop" then pStop k ws (i + 1)
      else pRnd (pPart ws k) ws w (i + 1)
def spNumT (K : PySem.W.Frag) (N : Addr) : Sp := fun vs H Q E => ∃ x : Str, vs = [.str x] ∧ x.length ≤ 100000 ∧ (∀ q, numOf x = some q → ∀ v H', Same H H' → DV K H' v (frD q) → Q v H') ∧ (numOf x = none → ∀ H', Same H H' → E (.ref N) none H')
def spReadX (C : Addr) : Sp := fun vs H Q E => ∃ v, vs = [v] ∧
  ((∃ (x : Str) (q : Rat), v = .str x ∧ Short q ∧ cl x = sh q ∧ ∀ (r : Addr) H', Same H H' → H' r = some (frO q) → Q (.ref r) H') ∨
   (∃ x : Str, v = .str x ∧ x.length ≤ 100000 ∧ (∀ q, Short q → cl x ≠ sh q) ∧ ∀ H', Same H H' → E (.ref C) none H'))
end Lib
namespace Lib
open PySem L2 Fr Op Tx
theorem pParts_ok {α : Type} {f : Nat → Option (α × Nat)} {ws : List Str} {W : α → Prop} (hf : ∀ i p j, f i = some (p, j) → i < j ∧ j ≤ ws.length ∧ W p) : ∀ (n i : Nat) (ps : List α) (j : Nat), pParts f ws n i = some (ps, j) → i < j ∧ j ≤ ws.length ∧ ps ≠ [] ∧ (∀ p ∈ ps, W p) ∧ ps.length + i ≤ j
  | 0, _, _, _, h => nomatch h
  | n + 1, i, ps, j, h => by
    unfold pParts at h
    cases e : f i with
    | none => rw [e] at h; cases h
    | some x =>
      obtain ⟨p, j1⟩ := x
      obtain ⟨h1, h2, h3⟩ := hf i p j1 e
      rw [e] at h
      dsimp only at h
      by_cases c : ws[j1]? = some (sOf ";")
      · rw [if_pos c] at h
        cases e2 : pParts f ws n (j1 + 1) with
        | none => rw [e2] at h; cases h
        | some y =>
          obtain ⟨qs, m⟩ := y
          rw [e2] at h
          cases h
          obtain ⟨g1, g2, g3, g4, g5⟩ := pParts_ok hf n _ _ _ e2
          refine ⟨by omega, g2, by simp, fun q hq => ?_, by simp only [List.length_cons]; omega⟩
          rcases List.mem_cons.mp hq with rfl | hq
          · exact h3
          · exact g4 q hq
      · rw [if_neg c] at h
        cases h
        exact ⟨h1, h2, by simp, fun q hq => by rw [List.mem_singleton.mp hq]; exact h3, by simp only [List.length_cons, List.length_nil]; omega⟩
theorem pNum_ok {ws : List Str} {i : Nat} {q : Rat} {j : Nat} (h : pNum ws i = some (q, j)) : i < ws.length ∧ j = i + 1 ∧ Short q := by
  obtain ⟨h1, h2, h3⟩ := pNum_some h
  exact ⟨lt_of_get h1, h3, h2⟩
theorem pPart_ok {ws : List Str} (hl : ws.length ≤ 50000) : ∀ (k i : Nat) (p : Part k) (j : Nat), pPart ws k i = some (p, j) → i < j ∧ j ≤ ws.length ∧ WP k p
  | 0, _, e, _, _ => nomatch e
  | k + 1, i, p, j, h => by
    unfold pPart at h
    cases e : ws[i]? with
    | none => rw [e] at h; cases h
    | some w =>
      rw [e] at h
      dsimp only at h
      by_cases c1 : w = sOf "gap"
      · rw [if_pos c1] at h
        cases e2 : pNum ws (i + 1) with
        | none => rw [e2] at h; cases h
        | some x =>
          obtain ⟨q, m⟩ := x
          rw [e2] at h
          cases h
          obtain ⟨g1, g2, g3⟩ := pNum_ok e2
          exact ⟨by omega, by omega, show PShort (.gap q) from ⟨trivial, fun r hr => by rw [List.mem_singleton.mp hr]; exact g3⟩⟩
      rw [if_neg c1] at h
      by_cases c2 : w = sOf "glass"
      · rw [if_pos c2] at h
        cases e2 : pNum ws (i + 1) with
        | none => rw [e2] at h; cases h
        | some x =>
          obtain ⟨q, m⟩ := x
          rw [e2] at h
          cases h
          obtain ⟨g1, g2, g3⟩ := pNum_ok e2
          exact ⟨by omega, by omega, show PShort (.glass q) from ⟨trivial, fun r hr => by rw [List.mem_singleton.mp hr]; exact g3⟩⟩
      rw [if_neg c2] at h
      by_cases c3 : w = sOf "stop"
      · rw [if_pos c3] at h
        unfold pStop at h
        cases e2 : pNum ws (i + 1) with
        | none => rw [e2] at h; cases h
        | some x =>
          obtain ⟨lo, m⟩ := x
          rw [e2] at h
          dsimp only at h
          cases e3 : pNum ws m with
          | none => rw [e3] at h; cases h
          | some y =>
            obtain ⟨hi, m2⟩ := y
            rw [e3] at h
            dsimp only at h
            by_cases c4 : hi < lo
            · rw [if_pos c4] at h; cases h
            · rw [if_neg c4] at h
              cases h
              obtain ⟨g1, g2, g3⟩ := pNum_ok e2
              obtain ⟨f1, f2, f3⟩ := pNum_ok e3
              exact ⟨by omega, by omega, show PShort (.stop lo hi) from ⟨c4, fun r hr => by rcases List.mem_cons.mp hr with rfl | hr; exact g3; rw [List.mem_singleton.mp hr]; exact f3⟩⟩
      rw [if_neg c3] at h
      unfold pRnd at h
      cases e2 : timesOf w with
      | none => rw [e2] at h; cases h
      | some n =>
        rw [e2] at h
        dsimp only at h
        by_cases c4 : k = 0
        · rw [if_pos c4] at h; cases h
        rw [if_neg c4] at h
        by_cases c5 : ws[i + 1]? = some (sOf "times")
        · rw [if_pos c5] at h
          by_cases c6 : ws[i + 1 + 1]? = some (sOf "(")
          · rw [if_pos c6] at h
            cases e3 : pParts (pPart ws k) ws (ws.length + 1) (i + 1 + 1 + 1) with
            | none => rw [e3] at h; cases h
            | some y =>
              obtain ⟨ps, m⟩ := y
              rw [e3] at h
              dsimp only at h
              by_cases c7 : ws[m]? = some (sOf ")")
              · rw [if_pos c7] at h
                cases h
                obtain ⟨g1, g2, g3, g4, g5⟩ := pParts_ok (fun i p j h => pPart_ok hl k i p j h) _ _ _ _ e3
                have := lt_of_get c7
                exact ⟨by omega, by omega, (timesOf_some e2).2, g3, by omega, g4⟩
              · rw [if_neg c7] at h; cases h
          · rw [if_neg c6] at h; cases h
        · rw [if_neg c5] at h; cases h
noncomputable def parseB (x : Str) : Option (List Pc) := if x = sOf "" then some [] else
  let ws := wordsF (Txt.split x (sOf " "))
  match pParts (pPart ws 5) ws (ws.length + 1) 0 with
  | none => none
  | some (ps, j) => if j = ws.length then (if cntL 5 ps ≤ 60 then some (toldL 5 ps) else none) else none
def spTakeT (C N : Addr) : Sp := fun vs H Q E => ∃ a dx wl ws i, vs = [.ref a] ∧ RdAt C a dx wl ws i H ∧ i ≤ ws.length ∧ (∀ z, ws[i]? = some z → Q (.str z) (upd H a (RdO C dx wl (i + 1)))) ∧ (ws[i]? = none → E (.ref N) none H)
def spTimesT (N : Addr) : Sp := fun vs H Q E => ∃ x : Str, vs = [.str x] ∧ (∀ n, timesOf x = some n → Q (.int (n : Int)) H) ∧ (timesOf x = none → E (.ref N) none H)
def spRPt (K : PySem.W.Frag) (C N : Addr) (k : Nat) : Sp := fun vs H Q E => ∃ (a dx wl : Addr) (ws : List Str) (i : Nat) (dp : Int), vs = [.ref a, .int dp] ∧ dp = 5 - (k : Int) ∧ RdAt C a dx wl ws i H ∧ i ≤ ws.length ∧ (∀ w ∈ ws, w.length ≤ 100000) ∧
  (∀ p j, pPart ws k i = some (p, j) → ∀ v H', SD a H H' → RdAt C a dx wl ws j H' → PV K k (FrA H) H' v p → Q v H') ∧ (pPart ws k i = none → ∀ H', SD a H H' → E (.ref N) none H')
def spRRt (K : PySem.W.Frag) (C N : Addr) (k : Nat) : Sp := fun vs H Q E => ∃ (a dx wl : Addr) (ws : List Str) (i : Nat) (w : Str) (dp : Int), vs = [.ref a, .str w, .int dp] ∧ dp = 4 - (k : Int) ∧ RdAt C a dx wl ws i H ∧ i ≤ ws.length ∧ (∀ w ∈ ws, w.length ≤ 100000) ∧
  (∀ p j, pRnd (pPart ws k) ws w i = some (p, j) → ∀ v H', SD a H H' → RdAt C a dx wl ws j H' → PV K (k + 1) (FrA H) H' v p → Q v H') ∧ (pRnd (pPart ws k) ws w i = none → ∀ H', SD a H H' → E (.ref N) none H')
def spRPst (K : PySem.W.Frag) (C N : Addr) (k : Nat) : Sp := fun vs H Q E => ∃ (a dx wl : Addr) (ws : List Str) (i : Nat) (dp : Int), vs = [.ref a, .int dp] ∧ dp = 5 - (k : Int) ∧ RdAt C a dx wl ws i H ∧ i ≤ ws.length ∧ (∀ w ∈ ws, w.length ≤ 100000) ∧
  (∀ ps j, pParts (pPart ws k) ws (ws.length + 1) i = some (ps, j) → ∀ l xs H', SD a H H' → H l = none → RdAt C a dx wl ws j H' → H' l = some (.lst xs) → PVs K k (fun b => H b = none ∧ b ≠ l) H' xs ps → Q (.ref l) H') ∧ (pParts (pPart ws k) ws (ws.length + 1) i = none → ∀ H', SD a H H' → E (.ref N) none H')
def spRBt (K : PySem.W.Frag) (N : Addr) : Sp := fun vs H Q E => (∃ v d, vs = [v] ∧ DV K H v d ∧ (∀ x : Str, d ≠ .str x) ∧ E (.ref N) none H) ∨ ∃ x : Str, vs = [.str x] ∧ x.length ≤ 20000 ∧
  (∀ bs, parseB x = some bs → ∀ l xs H', Same H H' → H l = none → H' l = some (.lst xs) → DVs K H' xs (bs.map pcD) → Q (.ref l) H') ∧ (parseB x = none → ∀ H', Same H H' → E (.ref N) none H')
theorem pieceD_stop (lo hi : Rat) : pieceD (pcD (.stop lo hi)) = !decide (hi < lo) := by
  by_cases h : hi < lo
  · rw [decide_eq_true h]
    show ([frD lo, frD hi].all ratD && (if ("stop" : Str) = "stop" then stopD [frD lo, frD hi] else ((decide (("stop" : Str) = "gap") || decide (("stop" : Str) = "glass")) && [frD hi].isEmpty))) = false
    rw [if_pos rfl, stopD_fr lo hi, decide_eq_true h]
    simp
  · rw [decide_eq_false h]
    exact pieceD_pc (p := .stop lo hi) h
theorem smP_stop {lo hi : Rat} (h1 : Short lo) (h2 : Short hi) : SmP (pcD (.stop lo hi)) := by
  have p1 : (10 : Nat) ^ 15 ≤ 2 ^ 50 := by decide
  have b : ∀ {q : Rat}, Short q → Sm q := fun h => (show Bd 50 _ from ⟨Nat.lt_of_lt_of_le h.n p1, Nat.lt_of_lt_of_le h.d p1⟩).sm (by decide)
  rintro ds h
  have e : ds = [.str "stop", frD lo, frD hi] := by
    have : PyData.tuple [.str "stop", frD lo, frD hi] = .tuple ds := h
    injection this with this
    exact this.symm
  subst e
  refine ⟨(by show 3 ≤ 1000; decide), fun q hq => ?_⟩
  simp only [List.mem_cons, List.not_mem_nil, or_false] at hq
  rcases hq with hq | hq | hq
  · cases hq
  · rw [frD_inj hq]; exact b h1
  · rw [frD_inj hq]; exact b h2
theorem wordF_len (t : Str) : ∀ w ∈ wordF t, w.length ≤ t.length + 1 := fun w hw => by
  cases he : Txt.endswith t (PySem.Str.ofString ";") with
  | true =>
    have ew : wordF t = [Txt.slice t none (some (-1)), PySem.Str.ofString ";"] := by unfold wordF; rw [if_pos he]
    rw [ew] at hw
    rcases List.mem_cons.mp hw with e | hw
    · have h1 := congrArg List.length (slice_init t)
      rw [cl_len, List.length_dropLast, cl_len] at h1
      rw [e, h1]
      exact Nat.le_trans (Nat.sub_le _ _) (Nat.le_succ _)
    · have h2 : (PySem.Str.ofString ";").length = 1 := by rw [str_semi]; rfl
      rw [List.mem_singleton.mp hw, h2]
      exact Nat.le_add_left _ _
  | false =>
    have ew : wordF t = [t] := by unfold wordF; rw [if_neg (by rw [he]; exact Bool.false_ne_true)]
    rw [ew] at hw
    rw [List.mem_singleton.mp hw]
    exact Nat.le_succ _
theorem wordsF_len {ts : List Str} {B : Nat} (h : ∀ t ∈ ts, t.length ≤ B) : ∀ w ∈ wordsF ts, w.length ≤ B + 1 := by
  induction ts with
  | nil => intro w hw; cases hw
  | cons t r ih =>
    intro w hw
    rw [wordsF_cons] at hw
    rcases List.mem_append.mp hw with hw | hw
    · exact Nat.le_trans (wordF_len t w hw) (Nat.succ_le_succ (h t (by simp)))
    · exact ih (fun x hx => h x (List.mem_cons_of_mem _ hx)) w hw
end Lib
namespace Lib
open PySem L2 Fr Op Tx
theorem pNum_good {ws : List Str} {i : Nat} {q : Rat} (h : ws[i]? = some (shS q)) (s : Short q) : pNum ws i = some (q, i + 1) := by
  unfold pNum
  rw [h]
  simp only [Option.bind_some, numOf_sh s, Option.map_some]
theorem dgS_ne {n c : Nat} {x : Str} (hc : c ∈ cl x) (h : ¬ (48 ≤ c ∧ c ≤ 57)) : dgS n ≠ x := fun e => dg_free n c h (by rw [← cl_dgS, e]; exact hc)
theorem dgS_inj' {m n : Nat} (h : dgS m = dgS n) : m = n := dg_inj (by rw [← cl_dgS, ← cl_dgS, h])
theorem timesOf_dg {n : Nat} (h : n ≤ 60) : timesOf (dgS n) = some n := by
  cases e : timesOf (dgS n) with
  | none => exact absurd rfl (timesOf_none e n h)
  | some m => rw [dgS_inj' (timesOf_some e).1]
theorem pParts_good {ws : List Str} {k : Nat} (hf : ∀ (p : Part k) (i : Nat), WP k p → TkAt ws i (toksP k p) → pPart ws k i = some (p, i + (toksP k p).length)) : ∀ (ps : List (Part k)) (n i : Nat), ps ≠ [] → ps.length ≤ n → (∀ p ∈ ps, WP k p) → TkAt ws i (jn (toksP k) ps) → ws[i + (jn (toksP k) ps).length]? ≠ some (sOf ";") → pParts (pPart ws k) ws n i = some (ps, i + (jn (toksP k) ps).length)
  | [], _, _, h, _, _, _, _ => absurd rfl h
  | p :: r, 0, _, _, h, _, _, _ => by simp at h
  | p :: r, n + 1, i, _, hl, wp, tk, ns => by
    rw [jn_tail] at tk ns ⊢
    have h1 := hf p i (wp p (by simp)) tk.left
    rw [pParts, h1]
    dsimp only
    cases r with
    | nil =>
      rw [show tailP k [] = ([] : List Str) from rfl, List.append_nil] at ns ⊢
      rw [if_neg ns]
    | cons q r =>
      have t2 := tk.right
      have hd : ws[i + (toksP k p).length]? = some (sOf ";") := TkAt.head t2
      have tl : TkAt ws (i + (toksP k p).length + 1) (jn (toksP k) (q :: r)) := TkAt.tail t2
      have el : (toksP k p ++ tailP k (q :: r)).length = (toksP k p).length + 1 + (jn (toksP k) (q :: r)).length := by
        rw [List.length_append]
        show _ + (sOf ";" :: jn (toksP k) (q :: r)).length = _
        rw [List.length_cons]
        omega
      rw [if_pos hd, pParts_good hf (q :: r) n _ (by simp) (by simp only [List.length_cons] at hl ⊢; omega) (fun x hx => wp x (List.mem_cons_of_mem _ hx)) tl (by
        rw [el] at ns
        rw [show i + (toksP k p).length + 1 + (jn (toksP k) (q :: r)).length = i + ((toksP k p).length + 1 + (jn (toksP k) (q :: r)).length) by omega]
        exact ns)]
      dsimp only
      rw [el, show i + (toksP k p).length + 1 + (jn (toksP k) (q :: r)).length = i + ((toksP k p).length + 1 + (jn (toksP k) (q :: r)).length) by omega]
theorem pPart_good {ws : List Str} : ∀ (k : Nat) (p : Part k) (i : Nat), WP k p → TkAt ws i (toksP k p) → pPart ws k i = some (p, i + (toksP k p).length)
  | 0, e, _, _, _ => nomatch e
  | k + 1, .pc p, i, wp, tk => by
    have wp : PShort p := wp
    have tk : ∀ j t, (toks p)[j]? = some t → ws[i + j]? = some t := tk
    have t0 : ws[i]? = some (wd p) := tk 0 (wd p) rfl
    show pPart ws (k + 1) i = some (PartF.pc p, i + (toks p).length)
    unfold pPart
    rw [t0]
    dsimp only
    cases p with
    | gap q =>
      rw [if_pos (show wd (.gap q) = sOf "gap" from rfl), pNum_good (tk 1 (shS q) rfl) (wp.2 q (by simp [fracs]))]
      rfl
    | glass q =>
      rw [if_neg (show ¬ wd (.glass q) = sOf "gap" by show ¬ PySem.Str.ofString "glass" = _; decide +kernel), if_pos (show wd (.glass q) = sOf "glass" from rfl), pNum_good (tk 1 (shS q) rfl) (wp.2 q (by simp [fracs]))]
      rfl
    | stop lo hi =>
      have ok : ¬ hi < lo := wp.1
      rw [if_neg (show ¬ wd (.stop lo hi) = sOf "gap" by show ¬ PySem.Str.ofString "stop" = _; decide +kernel), if_neg (show ¬ wd (.stop lo hi) = sOf "glass" by show ¬ PySem.Str.ofString "stop" = _; decide +kernel), if_pos (show wd (.stop lo hi) = sOf "stop" from rfl)]
      unfold pStop
      rw [pNum_good (tk 1 (shS lo) rfl) (wp.2 lo (by simp [fracs]))]
      dsimp only
      rw [pNum_good (tk 2 (shS hi) rfl) (wp.2 hi (by simp [fracs]))]
      dsimp only
      rw [if_neg ok]
      rfl
  | k + 1, .rd n ps, i, wp, tk => by
    have tk : TkAt ws i (dgS n :: (sOf "times" :: sOf "(" :: (jn (toksP k) ps ++ [sOf ")"]))) := tk
    have t0 : ws[i]? = some (dgS n) := tk.head
    have k0 : k ≠ 0 := fun e => by
      subst e
      cases ps with
      | nil => exact wp.2.1 rfl
      | cons e _ => exact nomatch e
    show pPart ws (k + 1) i = some (PartF.rd n ps, i + (dgS n :: (sOf "times" :: sOf "(" :: (jn (toksP k) ps ++ [sOf ")"]))).length)
    unfold pPart
    rw [t0]
    dsimp only
    rw [if_neg (dgS_ne (c := 103) (by decide +kernel) (by decide)), if_neg (dgS_ne (c := 103) (by decide +kernel) (by decide)), if_neg (dgS_ne (c := 115) (by decide +kernel) (by decide))]
    unfold pRnd
    rw [timesOf_dg wp.1]
    dsimp only
    rw [if_neg k0, if_pos tk.tail.head, if_pos tk.tail.tail.head]
    have t3 := tk.tail.tail.tail
    have tc : ws[i + 1 + 1 + 1 + (jn (toksP k) ps).length]? = some (sOf ")") := t3.right.head
    have hl : i + 1 + 1 + 1 + (jn (toksP k) ps).length < ws.length := lt_of_get tc
    have lp := jn_ge ps
    rw [pParts_good (fun p i => pPart_good k p i) ps _ _ wp.2.1 (by omega) wp.2.2.2 t3.left (by rw [tc]; decide +kernel)]
    dsimp only
    rw [if_pos tc]
    simp only [List.length_cons, List.length_append, List.length_nil]
    congr 2
    omega
theorem parse_good {ps : List (Part 5)} (wp : ∀ p ∈ ps, WP 5 p) : parseB (textL 5 ps) = if cntL 5 ps ≤ 60 then some (toldL 5 ps) else none := by
  by_cases ne : ps = []
  · subst ne
    unfold parseB
    rw [if_pos (by decide +kernel), if_pos (by decide)]
    rfl
  have tn : textL 5 ps ≠ sOf "" := fun e => by
    have h1 := words_textL wp ne
    rw [e] at h1
    have h2 : wordsF (Txt.split (PySem.Str.ofString "") (PySem.Str.ofString " ")) = [PySem.Str.ofString ""] := by decide +kernel
    rw [h2] at h1
    have h3 := textL_gl wp ne
    rw [e] at h3
    have h4 : 1 < (jn (toksP 5) ps).length := by
      cases ps with
      | nil => exact absurd rfl ne
      | cons p r =>
        rw [jn_tail, List.length_append]
        have : 2 ≤ (toksP 5 p).length := by
          cases p with
          | pc p => exact (toks_len p).2
          | rd n qs => show 2 ≤ (dgS n :: sOf "times" :: sOf "(" :: (jn (toksP _) qs ++ [sOf ")"])).length; simp only [List.length_cons]; omega
        omega
    rw [← h1] at h4
    exact absurd h4 (by decide)
  unfold parseB
  rw [if_neg tn]
  dsimp only
  rw [words_textL wp ne]
  have lp := jn_ge ps
  rw [pParts_good (fun p i => pPart_good 5 p i) ps _ 0 ne (by omega) wp (fun j t ht => by rw [Nat.zero_add]; exact ht) (by rw [Nat.zero_add, List.getElem?_eq_none (Nat.le_refl _)]; exact fun e => nomatch e)]
  dsimp only
  rw [if_pos (Nat.zero_add _)]
end Lib
namespace Lib
open PySem L2 Fr Op Tx
theorem pParts_no {α : Type} {f : Nat → Option (α × Nat)} {ws : List Str} {n i : Nat} (h : f i = none) : pParts f ws n i = none := by
  cases n with
  | zero => rfl
  | succ n => rw [pParts, h]
theorem pParts_no2 {α : Type} {f : Nat → Option (α × Nat)} {ws : List Str} {n i j : Nat} {p : α} (h : f i = some (p, j)) (c : ws[j]? = some (sOf ";")) (h2 : ∀ n, pParts f ws n (j + 1) = none) : pParts f ws n i = none := by
  cases n with
  | zero => rfl
  | succ n =>
    rw [pParts, h]
    dsimp only
    rw [if_pos c, h2]
theorem pPart_end {ws : List Str} {k i : Nat} (h : ws[i]? = none) : pPart ws k i = none := by
  cases k with
  | zero => rfl
  | succ k => unfold pPart; rw [h]
theorem pPart_rnd {ws : List Str} {k i : Nat} {w : Str} (h : ws[i]? = some w) (n1 : w ≠ sOf "gap") (n2 : w ≠ sOf "glass") (n3 : w ≠ sOf "stop") : pPart ws (k + 1) i = pRnd (pPart ws k) ws w (i + 1) := by
  rw [pPart, h]
  dsimp only
  rw [if_neg n1, if_neg n2, if_neg n3]
theorem pPart_word {ws : List Str} {k i : Nat} {w : Str} (h : ws[i]? = some w) (n1 : w ≠ sOf "gap") (n2 : w ≠ sOf "glass") (n3 : w ≠ sOf "stop") (n4 : timesOf w = none) : pPart ws k i = none := by
  cases k with
  | zero => rfl
  | succ k =>
    rw [pPart_rnd h n1 n2 n3]
    unfold pRnd
    rw [n4]
theorem pRnd_in {ws : List Str} {k i : Nat} {f : Nat → Option (Part k × Nat)} {w : Str} (h : pParts f ws (ws.length + 1) (i + 1 + 1) = none) : pRnd f ws w i = none := by
  unfold pRnd
  cases timesOf w with
  | none => rfl
  | some n =>
    dsimp only
    by_cases k0 : k = 0
    · rw [if_pos k0]
    rw [if_neg k0]
    by_cases c1 : ws[i]? = some (sOf "times")
    · rw [if_pos c1]
      by_cases c2 : ws[i + 1]? = some (sOf "(")
      · rw [if_pos c2, h]
      · rw [if_neg c2]
    · rw [if_neg c1]
theorem pRnd_deep {ws : List Str} {i : Nat} {f : Nat → Option (Part 0 × Nat)} {w : Str} : pRnd f ws w i = none := by
  unfold pRnd
  cases timesOf w with
  | none => rfl
  | some n => rfl
theorem shS_one : shS 1 = sOf "1" := by decide +kernel
theorem short_one : Short 1 := ⟨by decide, by decide⟩
end Lib
namespace L2
open PySem PySem.Spec PyProof.Rows PySem.Builtin
end L2
namespace L2
open PySem PySem.Spec PyProof.Rows PySem.Builtin PySem.Builtin.Str
theorem isSame_tok (y z : Str) (u : Tok) (h0 : (u == 0) = false) : isSame (.str y u) (.str z u) = pure true := by
  show (if (u == 0 || u == 0) = true then _ else if (u == u) = true then _ else _ : Sem Bool) = _
  rw [h0, beq_self_eq_true]
  rfl
theorem gives_rep_same (x y z : Str) (t u : Tok) (h0 : (u == 0) = false) : Gives («str.replace» ⟨[.str x t, .str y u, .str z u], []⟩) (.val (.str x t)) := by
  show Gives (if ((occurrences x y 0 x.length (x.length + 1)).isEmpty || (y.length == 0 && z.length == 0)) = true then _ else isSame (.str y u) (.str z u) >>= _) _
  cases hc : ((occurrences x y 0 x.length (x.length + 1)).isEmpty || (y.length == 0 && z.length == 0))
  · rw [isSame_tok y z u h0]
    exact .rule (.of_eq rfl)
  · exact .rule (.of_eq rfl)
section
variable {X : Cx}
def rRepl : V → List V → Hp → VK → Prop := fun x vs H Q => ∃ i y z, x = .str i ∧ vs = [.str y, .str z] ∧ (y == z) = false ∧ i.length + (i.length + 1) * z.length ≤ 16777216 ∧ Q (.str (Txt.replace i y z)) H ∧ Q (.str i) H
theorem mt_replace : MtM X "str.replace" rRepl := by
  intro pins s σ H x vs v us Q I rx rv h
  obtain ⟨i, y, z, rfl, rfl, hyz, hb, q1, q2⟩ := h
  obtain ⟨t, rfl⟩ := rx
  obtain ⟨u1, u2, rfl, ⟨ty, rfl⟩, ⟨tz, rfl⟩⟩ := vals2 rv
  have hl : tooLong (i.length + (occurrences i y 0 i.length (i.length + 1)).length * z.length) = false := by
    have h1 := StrLaws.occ_length_le i y 0 i.length (i.length + 1)
    have h2 : (occurrences i y 0 i.length (i.length + 1)).length * z.length ≤ (i.length + 1) * z.length := Nat.mul_le_mul_right _ h1
    have e : (2 : Nat) ^ 24 = 16777216 := by decide
    unfold tooLong sizeLine
    exact decide_eq_false (by omega)
  have n0 : (ty.1 == 0) = false := beq_false_of_ne ty.2
  by_cases e : ty.1 = tz.1
  · rw [← e]
    exact call_gives F.slot_str_replace (typeIs_str _ _ _) F.entry_str_replace (F.args_str_replace_3 _ _ _) (gives_rep_same i y z t.1 ty.1 n0) ⟨.str i, H, I, ⟨t, rfl⟩, q2⟩
  · refine call_gives F.slot_str_replace (typeIs_str _ _ _) F.entry_str_replace (F.args_str_replace_3 _ _ _) (gives_str_replace i y z t.1 ty.1 tz.1 fun _ => ⟨by simp [ty.2, tz.2], by simp [e], hyz, hl⟩) ?_
    unfold Txt.replace at q1
    cases hc : ((occurrences i y 0 i.length (i.length + 1)).isEmpty || (y.length == 0 && z.length == 0))
    · rw [hc] at q1
      simp only [Bool.false_eq_true, if_false] at q1 ⊢
      exact ⟨fits_replaced y hb, .str _, H, I.tok _, ⟨⟨_, Nat.ne_of_gt I.tk⟩, rfl⟩, q1⟩
    · rw [hc] at q1
      simp only [if_true] at q1 ⊢
      exact ⟨.str _, H, I, ⟨t, rfl⟩, q1⟩
end
end L2
namespace L2
open PySem PySem.Spec PyProof.Rows PySem.Builtin PySem.Builtin.Str
theorem args_rep4 (a b c d : Value) : argsOk "str.replace" ⟨[a, b, c, d], []⟩ := by unfold argsOk; kernel_rfl
theorem gives_rep1 (x y z : Str) (t u v w : Tok)
    (hf : ((occurrences x y 0 x.length 1).isEmpty || (y.length == 0 && z.length == 0)) = false →
      (u == 0 || v == 0) = false ∧ (u == v) = false ∧ (y == z) = false ∧ tooLong (x.length + (occurrences x y 0 x.length 1).length * z.length) = false) :
    Gives («str.replace» ⟨[.str x t, .str y u, .str z v, .int 1 w], []⟩) (if ((occurrences x y 0 x.length 1).isEmpty || (y.length == 0 && z.length == 0)) = true then .val (.str x t) else .str (glued z (partsBetween x (occurrences x y 0 x.length 1) y.length))) := by
  show Gives (do let limit ← countLimit "str.replace" (some (.int 1 w)) (x.length + 1); _) _
  rw [countLimit_int "str.replace" 1 w (x.length + 1) (by decide)]
  show Gives (if ((occurrences x y 0 x.length 1).isEmpty || (y.length == 0 && z.length == 0)) = true then (do rule "str.replace.nothing"; ret (.str x t)) else
    (do let same ← isSame (.str y u) (.str z v)
        if same = true then (do rule "str.replace.old-is-new"; ret (.str x t)) else
        if tooLong (x.length + (occurrences x y 0 x.length 1).length * z.length) = true then unsupported "str.replace:memory" else
        retStr (glued z (partsBetween x (occurrences x y 0 x.length 1) y.length)))) _
  cases hc : ((occurrences x y 0 x.length 1).isEmpty || (y.length == 0 && z.length == 0))
  · obtain ⟨h0, huv, hyz, hl⟩ := hf hc
    rw [isSame_str_other y z u v h0 huv hyz, hl]
    exact .of_eq rfl
  · exact .rule (.of_eq rfl)
end L2
namespace L2
open PySem PySem.Spec PyProof.Rows PySem.Builtin PySem.Builtin.Str
def rep1 (x y z : Str) : Str := if ((occurrences x y 0 x.length 1).isEmpty || (y.length == 0 && z.length == 0)) = true then x else glued z (partsBetween x (occurrences x y 0 x.length 1) y.length)
section
variable {X : Cx} {o : Expr} {to : TE} {y z : Str} {k1 k2 k3 : Nat} {p1 p2 p3 apos cpos : Pos}
theorem pe_rep1 (ho : PE X o to) (hyz : (y == z) = false)
    (hbase : attributeBase o "replace" X.env (eval o X.env) = eval o X.env := by rfl)
    (hfew : ((backTo cpos (starEach [.Constant (.str y) k1 p1, .Constant (.str z) k2 p2, .Constant (.int 1) k3 p3] X.env)).all (fun x => !x.1) && (backToKw cpos (keywordEach [] X.env)).all (fun x => x.1.isSome)
      && decide (3 + ([] : List Keyword).length + (if ([] : List Keyword).isEmpty then 0 else 1) < 30)) = true := by rfl)
    (hline : (apos.endLine == cpos.line) = true := by rfl) :
    PE X (.Call (.Attribute o "replace" apos) [.Constant (.str y) k1 p1, .Constant (.str z) k2 p2, .Constant (.int 1) k3 p3] [] cpos)
      (fun σ H Q => to σ H fun x H1 => ∃ i, x = .str i ∧ i.length + 2 * z.length ≤ 1048576 ∧ (rep1 i y z).length ≤ sizeLine ∧ Q (.str (rep1 i y z)) H1) := by
  intro pins s σ H Q I h
  refine wpAny_Call_method_late hbase hfew hline rfl (thn (ho pins s σ H _ I h) fun v s1 ⟨x, H1, I1, r1, i, e, hz, hl2, q⟩ => ?_)
  subst e
  obtain ⟨t, rfl⟩ := r1
  obtain ⟨h1, h2⟩ := tyV_is (T := "str") (x := .str i) (v := .str i t.1) I1 ⟨t, rfl⟩ rfl
  refine ⟨"str", "str.replace", PySem.F.plainAttrs_str, PySem.F.slot_str_replace, PySem.F.type_str_replace, h1, h2, ?_⟩
  refine Calls.callWith_builtin rfl (Calls.evalArgs_plain ?_)
  refine Calls.spliced_cons (Calls.Constant_str (k := k1) (pos := p1) (Calls.spliced_cons (Calls.Constant_str (k := k2) (pos := p2) (Calls.spliced_cons (wpAny_Constant_int (k := k3) (pos := p3) (Calls.spliced_nil ?_))))))
  have n1 : s1.toks ≠ 0 := Nat.ne_of_gt I1.tk
  have hl : tooLong (i.length + (occurrences i y 0 i.length 1).length * z.length) = false := by
    have e1 := StrLaws.occ_length_le i y 0 i.length 1
    have e2 : (occurrences i y 0 i.length 1).length * z.length ≤ 2 * z.length := Nat.mul_le_mul_right _ (by omega)
    have e : (2 : Nat) ^ 24 = 16777216 := by decide
    unfold tooLong sizeLine
    exact decide_eq_false (by omega)
  refine call_gives F.slot_str_replace (typeIs_str _ _ _) F.entry_str_replace (args_rep4 _ _ _ _) (gives_rep1 i y z t.1 s1.toks (s1.toks + 1) (s1.toks + 1 + 1) fun _ => ⟨by simp [n1], by simp, hyz, hl⟩) ?_
  unfold rep1 at q hl2
  cases hc : ((occurrences i y 0 i.length 1).isEmpty || (y.length == 0 && z.length == 0))
  · rw [hc] at q hl2
    simp only [Bool.false_eq_true, if_false] at q hl2 ⊢
    exact ⟨hl2, .str _, H1, I1.tok _, ⟨⟨_, Nat.succ_ne_zero _⟩, rfl⟩, q⟩
  · rw [hc] at q
    simp only [if_true] at q ⊢
    exact ⟨.str _, H1, I1.tok _, ⟨t, rfl⟩, q⟩
end
end L2
namespace Lib
open PySem L2 Fr Op Tx
def preT : List Pc → List Str
  | [] => []
  | p :: r => toks p ++ (sOf ";" :: preT r)
theorem pParts_pre {ws : List Str} : ∀ (pre : List Pc) (n i : Nat), (∀ p ∈ pre, PShort p) → TkAt ws i (preT pre) →
    pParts (pPart ws 5) ws (pre.length + n) i = (pParts (pPart ws 5) ws n (i + (preT pre).length)).map fun x => (pre.map (pPc 4) ++ x.1, x.2)
  | [], n, i, _, _ => by
    show pParts (pPart ws 5) ws (0 + n) i = (pParts (pPart ws 5) ws n (i + 0)).map fun x => ([] ++ x.1, x.2)
    rw [Nat.zero_add, Nat.add_zero]
    cases pParts (pPart ws 5) ws n i with
    | none => rfl
    | some x => rfl
  | p :: r, n, i, wp, tk => by
    have h1 : pPart ws 5 i = some (pPc 4 p, i + (toks p).length) := pPart_good 5 (pPc 4 p) i (wp p (by simp)) tk.left
    have t2 : TkAt ws (i + (toks p).length) (sOf ";" :: preT r) := tk.right
    have hd := t2.head
    have ih := pParts_pre r n (i + (toks p).length + 1) (fun q hq => wp q (List.mem_cons_of_mem _ hq)) t2.tail
    have el : i + (preT (p :: r)).length = i + (toks p).length + 1 + (preT r).length := by
      show i + (toks p ++ (sOf ";" :: preT r)).length = _
      rw [List.length_append, List.length_cons]
      omega
    rw [show (p :: r).length + n = (r.length + n) + 1 by rw [List.length_cons]; omega, pParts, h1]
    dsimp only
    rw [if_pos hd, ih, el]
    cases pParts (pPart ws 5) ws n (i + (toks p).length + 1 + (preT r).length) with
    | none => rfl
    | some x => rfl
theorem parse_pre {x : Str} {pre : List Pc} {rest : List Str} (hx : x ≠ sOf "") (hw : wordsF (Txt.split x (sOf " ")) = preT pre ++ rest) (wp : ∀ p ∈ pre, PShort p)
    (h : ∀ n ps j, pParts (pPart (preT pre ++ rest) 5) (preT pre ++ rest) n (preT pre).length = some (ps, j) → j ≠ (preT pre ++ rest).length) : parseB x = none := by
  have hl : pre.length ≤ (preT pre ++ rest).length + 1 := by
    have : ∀ ps : List Pc, ps.length ≤ (preT ps).length := fun ps => by
      induction ps with
      | nil => exact Nat.le_refl _
      | cons p r ih =>
        show r.length + 1 ≤ (toks p ++ (sOf ";" :: preT r)).length
        rw [List.length_append, List.length_cons]
        omega
    have := this pre
    rw [List.length_append]
    omega
  unfold parseB
  rw [if_neg hx]
  dsimp only
  rw [hw]
  have tk : TkAt (preT pre ++ rest) 0 (preT pre) := fun j t ht => by
    rw [Nat.zero_add, List.getElem?_append_left (lt_of_get ht)]
    exact ht
  have e := pParts_pre (ws := preT pre ++ rest) pre ((preT pre ++ rest).length + 1 - pre.length) 0 wp tk
  rw [show pre.length + ((preT pre ++ rest).length + 1 - pre.length) = (preT pre ++ rest).length + 1 by omega, Nat.zero_add] at e
  rw [e]
  cases e2 : pParts (pPart (preT pre ++ rest) 5) (preT pre ++ rest) ((preT pre ++ rest).length + 1 - pre.length) (preT pre).length with
  | none => rfl
  | some y =>
    obtain ⟨ps, j⟩ := y
    dsimp only [Option.map]
    rw [if_neg (h _ _ _ e2)]
theorem no_part {ws : List Str} {i : Nat} (h : pPart ws 5 i = none) : ∀ n ps j, pParts (pPart ws 5) ws n i = some (ps, j) → j ≠ ws.length := fun n ps j e => by
  rw [pParts_no h] at e
  cases e
theorem no_end {ws : List Str} {i j' : Nat} {p : Part 5} (h : pPart ws 5 i = some (p, j')) (h1 : ws[j']? ≠ some (sOf ";")) (h2 : j' ≠ ws.length) : ∀ n ps j, pParts (pPart ws 5) ws n i = some (ps, j) → j ≠ ws.length := fun n ps j e => by
  cases n with
  | zero => cases e
  | succ n =>
    rw [pParts, h] at e
    dsimp only at e
    rw [if_neg h1] at e
    cases e
    exact h2
theorem no_next {ws : List Str} {i j' : Nat} {p : Part 5} (h : pPart ws 5 i = some (p, j')) (h1 : ws[j']? = some (sOf ";")) (h2 : pPart ws 5 (j' + 1) = none) : ∀ n ps j, pParts (pPart ws 5) ws n i = some (ps, j) → j ≠ ws.length := fun n ps j e => by
  rw [pParts_no2 h h1 fun n => pParts_no h2] at e
  cases e
end Lib
namespace Lib
open PySem L2 Fr Op Tx
theorem cut_both (c : Nat) : ∀ a b : List Nat, cut c (a ++ c :: b) = cut c a ++ cut c b
  | [], b => by
    show cut c (c :: b) = [[]] ++ cut c b
    rw [cut, if_pos rfl]
    rfl
  | x :: a, b => by
    show cut c (x :: (a ++ c :: b)) = _
    by_cases h : x = c
    · rw [cut, if_pos h, cut, if_pos h, cut_both c a b]
      rfl
    · rw [cut, if_neg h, cut_both c a b, cut, if_neg h]
      cases e : cut c a with
      | nil => exact absurd e (cut_ne c a)
      | cons p ps => rfl
theorem cut_snoc {c d : Nat} (h : d ≠ c) : ∀ a : List Nat, ∃ us w, cut c a = us ++ [w] ∧ cut c (a ++ [d]) = us ++ [w ++ [d]]
  | [] => ⟨[], [], rfl, by show cut c [d] = [[d]]; rw [cut, if_neg h]; rfl⟩
  | x :: a => by
    obtain ⟨us, w, e1, e2⟩ := cut_snoc h a
    by_cases hx : x = c
    · refine ⟨[] :: us, w, ?_, ?_⟩
      · rw [cut, if_pos hx, e1]; rfl
      · show cut c (x :: (a ++ [d])) = _
        rw [cut, if_pos hx, e2]; rfl
    · cases us with
      | nil =>
        refine ⟨[], x :: w, ?_, ?_⟩
        · rw [cut, if_neg hx, e1]; rfl
        · show cut c (x :: (a ++ [d])) = _
          rw [cut, if_neg hx, e2]; rfl
      | cons u us =>
        refine ⟨(x :: u) :: us, w, ?_, ?_⟩
        · rw [cut, if_neg hx, e1]; rfl
        · show cut c (x :: (a ++ [d])) = _
          rw [cut, if_neg hx, e2]; rfl
theorem map_cl_last {ws : List Str} {us : List (List Nat)} {w : List Nat} (h : ws.map cl = us ++ [w]) : ∃ vs v, ws = vs ++ [v] ∧ vs.map cl = us ∧ cl v = w := by
  have hne : ws ≠ [] := fun e => by rw [e] at h; simp at h
  refine ⟨ws.dropLast, ws.getLast hne, (List.dropLast_concat_getLast hne).symm, ?_, ?_⟩
  · rw [List.map_dropLast, h, List.dropLast_concat]
  · have e := congrArg List.getLast? h
    rw [List.getLast?_map, List.getLast?_eq_some_getLast hne, List.getLast?_concat] at e
    exact Option.some.inj e
theorem split_semi (t b : Str) : ∃ us w, Txt.split t (sOf " ") = us ++ [w] ∧ Txt.split (t ++ sOf "; " ++ b) (sOf " ") = us ++ (w ++ ⟨#[59]⟩) :: Txt.split b (sOf " ") := by
  obtain ⟨us, w, e1, e2⟩ := cut_snoc (c := 32) (d := 59) (by decide) (cl t)
  have s1 := split_cut t 32
  rw [e1] at s1
  obtain ⟨vs, v, f1, f2, f3⟩ := map_cl_last s1
  have eb : sOf " " = (⟨#[32]⟩ : Str) := by decide +kernel
  have es : cl (sOf "; ") = [59, 32] := by decide +kernel
  rw [eb]
  refine ⟨vs, v, f1, map_cl_inj ?_⟩
  rw [split_cut, cl_app, cl_app, es, List.append_assoc, show cl t ++ ([59, 32] ++ cl b) = (cl t ++ [59]) ++ 32 :: cl b by simp, cut_both, e2, List.map_append, f2, List.map_cons, cl_app, f3, split_cut, List.append_assoc]
  rfl
theorem wordsF_app (a b : List Str) : wordsF (a ++ b) = wordsF a ++ wordsF b := by
  unfold wordsF
  rw [List.map_append, List.flatten_append]
theorem wordsF_toks (p : Pc) : wordsF (toks p) = toks p := words_toks [p] (by simp)
theorem words_piece (p : Pc) (b : Str) : wordsF (Txt.split (textP p ++ sOf "; " ++ b) (sOf " ")) = toks p ++ sOf ";" :: wordsF (Txt.split b (sOf " ")) := by
  obtain ⟨us, w, e1, e2⟩ := split_semi (textP p) b
  have e3 : Txt.split (textP p) (sOf " ") = toks p := by
    have h := split_text (ps := [p]) (by simp)
    have ht : textB [p] = textP p := by
      show Txt.join _ [textP p] = _
      rw [joinT]
      rfl
    rw [ht] at h
    exact h
  rw [e3] at e1
  have e4 := wordsF_toks p
  rw [e1, wordsF_app] at e4
  rw [e2, e1, wordsF_app]
  have hw : wordF w = [w] ∧ wordsF us = us := by
    have hf : ∀ t ∈ toks p, 59 ∉ cl t := fun t ht => by
      cases p <;> simp only [toks, wd, fracs, List.map_cons, List.map_nil, List.mem_cons, List.not_mem_nil, or_false] at ht
      all_goals first
        | (rcases ht with rfl | rfl | rfl)
        | (rcases ht with rfl | rfl)
      all_goals first
        | exact sh_free _ 59 (by omega)
        | decide +kernel
    refine ⟨wordF_no (hf w (by rw [e1]; simp)), ?_⟩
    have : ∀ l : List Str, (∀ t ∈ l, 59 ∉ cl t) → wordsF l = l := fun l hl => by
      induction l with
      | nil => rfl
      | cons t r ih => rw [wordsF_cons, wordF_no (hl t (by simp)), ih fun x hx => hl x (List.mem_cons_of_mem _ hx)]; rfl
    exact this us fun t ht => hf t (by rw [e1]; exact List.mem_append_left _ ht)
  rw [hw.2, wordsF_cons, wordF_semi, List.append_assoc]
  rfl
def preX : List Pc → Str → Str
  | [], b => b
  | p :: r, b => textP p ++ sOf "; " ++ preX r b
theorem words_pre : ∀ (pre : List Pc) (b : Str), wordsF (Txt.split (preX pre b) (sOf " ")) = preT pre ++ wordsF (Txt.split b (sOf " "))
  | [], _ => rfl
  | p :: r, b => by
    show wordsF (Txt.split (textP p ++ sOf "; " ++ preX r b) (sOf " ")) = (toks p ++ (sOf ";" :: preT r)) ++ _
    rw [words_piece, words_pre r b, List.append_assoc]
    rfl
theorem words_post (t b : Str) : ∃ us w, Txt.split t (sOf " ") = us ++ [w] ∧ wordsF (Txt.split (t ++ sOf "; " ++ b) (sOf " ")) = wordsF us ++ w :: sOf ";" :: wordsF (Txt.split b (sOf " ")) := by
  obtain ⟨us, w, e1, e2⟩ := split_semi t b
  refine ⟨us, w, e1, ?_⟩
  rw [e2, wordsF_app, wordsF_cons, wordF_semi]
  rfl
theorem join_pre : ∀ (pre : List Pc) (t : Str) (post : List Str), Txt.join (sOf "; ") (pre.map textP ++ t :: post) = preX pre (Txt.join (sOf "; ") (t :: post))
  | [], _, _ => rfl
  | p :: r, t, post => by
    have ih := join_pre r t post
    show Txt.join (sOf "; ") (textP p :: (r.map textP ++ t :: post)) = textP p ++ sOf "; " ++ preX r _
    rw [← ih]
    rw [joinT, joinT]
    cases r with
    | nil => rfl
    | cons q r => rfl
end Lib
namespace Lib
open PySem L2 Fr Op Tx PySem.NumText PySem.Builtin.Str
def numL (l : List Nat) : Bool :=
  let neg := decide (l.head? = some 45)
  let bo := if neg = true then l.drop 1 else l
  match cut 47 bo with
  | [a] => decide (dg (digitsVal a) = a) && decide (digitsVal a < 10 ^ 15) && (!neg || decide (digitsVal a ≠ 0))
  | [a, b] => decide (dg (digitsVal a) = a) && decide (digitsVal a < 10 ^ 15) && (!neg || decide (digitsVal a ≠ 0)) && decide (dg (digitsVal b) = b) && decide (digitsVal b < 10 ^ 15) && decide (1 < digitsVal b) && decide (Nat.gcd (digitsVal a) (digitsVal b) = 1)
  | _ => false
theorem numL_sh {q : Rat} (h : Short q) : numL (sh q) = true := by
  unfold numL
  dsimp only
  have e1 := sh_head q
  have e2 := sh_bd q
  have n0 : q.num < 0 → q.num.natAbs ≠ 0 := fun z => by omega
  by_cases z : q.num < 0
  · rw [decide_eq_true z] at e1
    rw [if_pos z] at e2
    rw [e1, if_pos rfl, e2, cut_bd]
    by_cases d1 : q.den = 1
    · rw [if_pos d1]
      simp only [dg_val, decide_true, Bool.true_and, Bool.not_true, Bool.false_or]
      rw [decide_eq_true h.n, decide_eq_true (n0 z)]
      rfl
    · rw [if_neg d1]
      simp only [dg_val, decide_true, Bool.true_and, Bool.not_true, Bool.false_or]
      rw [decide_eq_true h.n, decide_eq_true (n0 z), decide_eq_true h.d, decide_eq_true (show 1 < q.den by have := q.den_nz; omega), decide_eq_true q.reduced]
      rfl
  · rw [decide_eq_false z] at e1
    rw [if_neg z] at e2
    rw [e1, if_neg Bool.false_ne_true, e2, cut_bd]
    by_cases d1 : q.den = 1
    · rw [if_pos d1]
      simp only [dg_val, decide_true, Bool.true_and, Bool.not_false, Bool.true_or, Bool.and_true]
      rw [decide_eq_true h.n]
    · rw [if_neg d1]
      simp only [dg_val, decide_true, Bool.true_and, Bool.not_false, Bool.true_or, Bool.and_true]
      rw [decide_eq_true h.n, decide_eq_true h.d, decide_eq_true (show 1 < q.den by have := q.den_nz; omega), decide_eq_true q.reduced]
      rfl
theorem numOf_no {x : Str} (h : numL (cl x) = false) : numOf x = none := numOf_none fun q hq e => by
  rw [← e, cl_shS, numL_sh hq] at h
  cases h
end Lib
namespace Lib
open PySem L2 Fr Op Tx
def tailW (w : Str) (post : List Pc) : List Str := if post = [] then wordF w else w :: sOf ";" :: toksB post
theorem spoilt_words (t : Str) (post : List Pc) : ∃ us w, Txt.split t (sOf " ") = us ++ [w] ∧ wordsF (Txt.split (Txt.join (sOf "; ") (t :: post.map textP)) (sOf " ")) = wordsF us ++ tailW w post := by
  cases post with
  | nil =>
    obtain ⟨us, w, e1, _⟩ := split_semi t t
    refine ⟨us, w, e1, ?_⟩
    have ht : Txt.join (sOf "; ") (t :: ([] : List Pc).map textP) = t := by
      show Txt.join _ [t] = _
      rw [joinT]
      rfl
    rw [ht, e1, wordsF_app]
    unfold tailW
    rw [if_pos rfl]
    show wordsF us ++ wordsF [w] = _
    rw [wordsF_cons]
    show _ ++ (wordF w ++ []) = _
    rw [List.append_nil]
  | cons q r =>
    obtain ⟨us, w, e1, e2⟩ := words_post t (textB (q :: r))
    refine ⟨us, w, e1, ?_⟩
    have ht : Txt.join (sOf "; ") (t :: (q :: r).map textP) = t ++ sOf "; " ++ textB (q :: r) := by
      unfold textB
      rw [joinT, joinT]
      rfl
    have hs : wordsF (Txt.split (textB (q :: r)) (sOf " ")) = toksB (q :: r) := by
      have h := split_text (ps := q :: r) (by simp)
      rw [show Txt.split (textB (q :: r)) (sOf " ") = toksS (q :: r) from h, words_toks _ (by simp)]
    rw [ht, e2, hs]
    unfold tailW
    rw [if_neg (by simp)]
theorem spoilt_no {t : Str} {pre post : List Pc} (wp : ∀ p ∈ pre, PShort p) (hx : Txt.join (sOf "; ") (pre.map textP ++ t :: post.map textP) ≠ sOf "")
    (h : ∀ us w, Txt.split t (sOf " ") = us ++ [w] → ∀ n ps j, pParts (pPart (preT pre ++ (wordsF us ++ tailW w post)) 5) (preT pre ++ (wordsF us ++ tailW w post)) n (preT pre).length = some (ps, j) → j ≠ (preT pre ++ (wordsF us ++ tailW w post)).length) :
    parseB (Txt.join (sOf "; ") (pre.map textP ++ t :: post.map textP)) = none := by
  obtain ⟨us, w, e1, e2⟩ := spoilt_words t post
  refine parse_pre (pre := pre) (rest := wordsF us ++ tailW w post) hx ?_ wp (h us w e1)
  rw [join_pre, words_pre, e2]
theorem at_pre {pre : List Pc} {rest : List Str} {k : Nat} : (preT pre ++ rest)[(preT pre).length + k]? = rest[k]? := by
  rw [List.getElem?_append_right (by omega)]
  congr 1
  omega
theorem num_bad {ws : List Str} {i : Nat} {p : Pc} {b : Str} (wp : PShort p) (tk : TkAt ws i ((toks p).dropLast ++ [b])) (h : numOf b = none) : pPart ws 5 i = none := by
  cases p with
  | gap q =>
    have t0 : ws[i]? = some (sOf "gap") := tk 0 _ rfl
    have t1 : ws[i + 1]? = some b := tk 1 _ rfl
    unfold pPart
    rw [t0]
    dsimp only
    rw [if_pos rfl]
    unfold pNum
    rw [t1]
    simp only [Option.bind_some, h, Option.map_none]
  | glass q =>
    have t0 : ws[i]? = some (sOf "glass") := tk 0 _ rfl
    have t1 : ws[i + 1]? = some b := tk 1 _ rfl
    unfold pPart
    rw [t0]
    dsimp only
    rw [if_neg (by decide +kernel), if_pos rfl]
    unfold pNum
    rw [t1]
    simp only [Option.bind_some, h, Option.map_none]
  | stop lo hi =>
    have t0 : ws[i]? = some (sOf "stop") := tk 0 _ rfl
    have t1 : ws[i + 1]? = some (shS lo) := tk 1 _ rfl
    have t2 : ws[i + 1 + 1]? = some b := tk 2 _ rfl
    unfold pPart
    rw [t0]
    dsimp only
    rw [if_neg (by decide +kernel), if_neg (by decide +kernel), if_pos rfl]
    unfold pStop
    rw [pNum_good t1 (wp.2 lo (by simp [fracs]))]
    dsimp only
    unfold pNum
    rw [t2]
    simp only [Option.bind_some, h, Option.map_none]
end Lib
namespace Lib
open PySem L2 Fr Op Tx
theorem split_words {ws : List Str} (ne : ws ≠ []) (free : ∀ w ∈ ws, 32 ∉ cl w) : Txt.split (Txt.join (sOf " ") ws) (sOf " ") = ws := by
  refine map_cl_inj ?_
  rw [show sOf " " = (⟨#[32]⟩ : Str) by decide +kernel, split_cut, joinT]
  exact cut_join ne free
theorem toks_free (p : Pc) : ∀ t ∈ toks p, 32 ∉ cl t ∧ 59 ∉ cl t := fun t ht => by
  cases p <;> simp only [toks, wd, fracs, List.map_cons, List.map_nil, List.mem_cons, List.not_mem_nil, or_false] at ht
  all_goals first
    | (rcases ht with rfl | rfl | rfl)
    | (rcases ht with rfl | rfl)
  all_goals first
    | exact ⟨sh_free _ 32 (by omega), sh_free _ 59 (by omega)⟩
    | exact ⟨by decide +kernel, by decide +kernel⟩
theorem wordsF_free : ∀ (l : List Str), (∀ t ∈ l, 59 ∉ cl t) → wordsF l = l
  | [], _ => rfl
  | t :: r, h => by
    rw [wordsF_cons, wordF_no (h t (by simp)), wordsF_free r fun x hx => h x (List.mem_cons_of_mem _ hx)]
    rfl
theorem pre_ne {x : Str} {pre : List Pc} {rest : List Str} (hw : wordsF (Txt.split x (sOf " ")) = preT pre ++ rest) (h : 2 ≤ rest.length) : x ≠ sOf "" := fun e => by
  have h1 : wordsF (Txt.split (sOf "") (sOf " ")) = [sOf ""] := by decide +kernel
  rw [e, h1] at hw
  have := congrArg List.length hw
  rw [List.length_append] at this
  simp only [List.length_cons, List.length_nil] at this
  omega
theorem spoilt_by {ws : List Str} {w : Str} {pre post : List Pc} (wp : ∀ p ∈ pre, PShort p) (free : ∀ t ∈ ws ++ [w], 32 ∉ cl t) (h2 : 2 ≤ (wordsF ws ++ tailW w post).length)
    (h : ∀ n ps j, pParts (pPart (preT pre ++ (wordsF ws ++ tailW w post)) 5) (preT pre ++ (wordsF ws ++ tailW w post)) n (preT pre).length = some (ps, j) → j ≠ (preT pre ++ (wordsF ws ++ tailW w post)).length) :
    parseB (Txt.join (sOf "; ") (pre.map textP ++ Txt.join (sOf " ") (ws ++ [w]) :: post.map textP)) = none := by
  have e0 := split_words (ws := ws ++ [w]) (by simp) free
  have same : ∀ us w', Txt.split (Txt.join (sOf " ") (ws ++ [w])) (sOf " ") = us ++ [w'] → us = ws ∧ w' = w := fun us w' e => by
    rw [e0] at e
    have h1 := congrArg List.dropLast e
    have h2 := congrArg List.getLast? e
    rw [List.dropLast_concat, List.dropLast_concat] at h1
    rw [List.getLast?_concat, List.getLast?_concat] at h2
    exact ⟨h1.symm, (Option.some.inj h2).symm⟩
  refine spoilt_no wp ?_ fun us w' e => ?_
  · obtain ⟨us, w', e1, e2⟩ := spoilt_words (Txt.join (sOf " ") (ws ++ [w])) post
    obtain ⟨rfl, rfl⟩ := same us w' e1
    refine pre_ne (pre := pre) (rest := wordsF us ++ tailW w' post) ?_ h2
    rw [join_pre, words_pre, e2]
  · obtain ⟨rfl, rfl⟩ := same us w' e
    exact h
theorem tail_head {w : Str} {post : List Pc} (h : 59 ∉ cl w) : ∃ r, tailW w post = w :: r := by
  unfold tailW
  by_cases e : post = []
  · rw [if_pos e, wordF_no h]; exact ⟨_, rfl⟩
  · rw [if_neg e]; exact ⟨_, rfl⟩
theorem tk_of {pre : List Pc} {a r : List Str} : TkAt (preT pre ++ (a ++ r)) (preT pre).length a := fun j t ht => by
  rw [at_pre, List.getElem?_append_left (lt_of_get ht)]
  exact ht
theorem drop_len (p : Pc) : 1 ≤ (toks p).dropLast.length := by cases p <;> simp [toks, fracs]
theorem num_one {p : Pc} {b : Str} {pre post : List Pc} (wp : ∀ p ∈ pre, PShort p) (sp : PShort p) (h : numOf b = none) (h1 : 32 ∉ cl b) (h2 : 59 ∉ cl b) :
    parseB (Txt.join (sOf "; ") (pre.map textP ++ Txt.join (sOf " ") ((toks p).dropLast ++ [b]) :: post.map textP)) = none := by
  have fr : ∀ t ∈ (toks p).dropLast, 32 ∉ cl t ∧ 59 ∉ cl t := fun t ht => toks_free p t (List.mem_of_mem_take (by rw [List.dropLast_eq_take] at ht; exact ht))
  have ew := wordsF_free (toks p).dropLast fun t ht => (fr t ht).2
  obtain ⟨r, er⟩ := tail_head (post := post) h2
  have dl := drop_len p
  refine spoilt_by wp (fun t ht => ?_) ?_ ?_
  · rcases List.mem_append.mp ht with m | m
    · exact (fr t m).1
    · rw [List.mem_singleton.mp m]; exact h1
  · rw [ew, er, List.length_append, List.length_cons]; omega
  · rw [ew, er]
    refine no_part (num_bad sp ?_ h)
    rw [show (toks p).dropLast ++ b :: r = ((toks p).dropLast ++ [b]) ++ r by simp]
    exact tk_of
end Lib
namespace Lib
open PySem L2 Fr Op Tx
theorem join_two : ∀ (l : List Str) (a b : Str), Txt.join (sOf " ") (l ++ [a ++ sOf " " ++ b]) = Txt.join (sOf " ") (l ++ [a, b])
  | [], a, b => by
    rw [joinT, joinT]
    rfl
  | x :: l, a, b => by
    have ih := join_two l a b
    rw [joinT, joinT] at ih ⊢
    cases l with
    | nil =>
      show x ++ sOf " " ++ PySem.Str.join (sOf " ") ([] ++ [a ++ sOf " " ++ b]) = x ++ sOf " " ++ PySem.Str.join (sOf " ") ([] ++ [a, b])
      rw [ih]
    | cons y l =>
      show x ++ sOf " " ++ PySem.Str.join (sOf " ") ((y :: l) ++ [a ++ sOf " " ++ b]) = x ++ sOf " " ++ PySem.Str.join (sOf " ") ((y :: l) ++ [a, b])
      rw [ih]
theorem num_other {ws : List Str} {i : Nat} {p : Pc} {q : Rat} (wp : PShort p) (sq : Short q) (tk : TkAt ws i ((toks p).dropLast ++ [shS q])) : pPart ws 5 i = none ∨ ∃ p', pPart ws 5 i = some (p', i + (toks p).length) := by
  cases p with
  | gap r =>
    have t0 : ws[i]? = some (sOf "gap") := tk 0 _ rfl
    have t1 : ws[i + 1]? = some (shS q) := tk 1 _ rfl
    refine .inr ⟨pPc 4 (.gap q), ?_⟩
    unfold pPart
    rw [t0]
    dsimp only
    rw [if_pos rfl, pNum_good t1 sq]
    rfl
  | glass r =>
    have t0 : ws[i]? = some (sOf "glass") := tk 0 _ rfl
    have t1 : ws[i + 1]? = some (shS q) := tk 1 _ rfl
    refine .inr ⟨pPc 4 (.glass q), ?_⟩
    unfold pPart
    rw [t0]
    dsimp only
    rw [if_neg (by decide +kernel), if_pos rfl, pNum_good t1 sq]
    rfl
  | stop lo hi =>
    have t0 : ws[i]? = some (sOf "stop") := tk 0 _ rfl
    have t1 : ws[i + 1]? = some (shS lo) := tk 1 _ rfl
    have t2 : ws[i + 1 + 1]? = some (shS q) := tk 2 _ rfl
    have e : pPart ws 5 i = if q < lo then none else some (pPc 4 (.stop lo q), i + 1 + 1 + 1) := by
      unfold pPart
      rw [t0]
      dsimp only
      rw [if_neg (by decide +kernel), if_neg (by decide +kernel), if_pos rfl]
      unfold pStop
      rw [pNum_good t1 (wp.2 lo (by simp [fracs]))]
      dsimp only
      rw [pNum_good t2 sq]
    rw [e]
    by_cases c : q < lo
    · rw [if_pos c]; exact .inl rfl
    · rw [if_neg c]; exact .inr ⟨_, rfl⟩
theorem num_more {p : Pc} {q : Rat} {b : Str} {pre post : List Pc} (wp : ∀ p ∈ pre, PShort p) (sp : PShort p) (sq : Short q) (h1 : 32 ∉ cl b) (h2 : 59 ∉ cl b) (hb : b ≠ sOf ";") :
    parseB (Txt.join (sOf "; ") (pre.map textP ++ Txt.join (sOf " ") ((toks p).dropLast ++ [shS q] ++ [b]) :: post.map textP)) = none := by
  have fr : ∀ t ∈ (toks p).dropLast ++ [shS q], 32 ∉ cl t ∧ 59 ∉ cl t := fun t ht => by
    rcases List.mem_append.mp ht with m | m
    · exact toks_free p t (List.mem_of_mem_take (by rw [List.dropLast_eq_take] at m; exact m))
    · rw [List.mem_singleton.mp m]; exact ⟨sh_free _ 32 (by omega), sh_free _ 59 (by omega)⟩
  have ew := wordsF_free ((toks p).dropLast ++ [shS q]) fun t ht => (fr t ht).2
  obtain ⟨r, er⟩ := tail_head (post := post) h2
  have dl := drop_len p
  have tl : ((toks p).dropLast ++ [shS q]).length = (toks p).length := by
    have : 1 ≤ (toks p).length := by cases p <;> simp [toks]
    rw [List.length_append, List.length_dropLast, List.length_singleton]
    omega
  refine spoilt_by wp (fun t ht => ?_) ?_ ?_
  · rcases List.mem_append.mp ht with m | m
    · exact (fr t m).1
    · rw [List.mem_singleton.mp m]; exact h1
  · rw [ew, er, List.length_append, tl, List.length_cons]
    have : 1 ≤ (toks p).length := by cases p <;> simp [toks]
    omega
  · rw [ew, er]
    have hw : (preT pre ++ ((toks p).dropLast ++ [shS q] ++ b :: r))[(preT pre).length + (toks p).length]? = some b := by
      rw [at_pre, ← tl, List.getElem?_append_right (Nat.le_refl _), Nat.sub_self]
      rfl
    rcases num_other (ws := preT pre ++ ((toks p).dropLast ++ [shS q] ++ b :: r)) (i := (preT pre).length) sp sq tk_of with e | ⟨p', e⟩
    · exact no_part e
    · refine no_end e (by rw [hw]; exact fun z => hb (Option.some.inj z)) ?_
      have := lt_of_get hw
      omega
end Lib
namespace Lib
open PySem L2 Fr Op Tx
theorem num_one2 {p : Pc} {b w : Str} {pre post : List Pc} (wp : ∀ p ∈ pre, PShort p) (sp : PShort p) (h : numOf b = none) (h1 : 32 ∉ cl b) (h2 : 59 ∉ cl b) (h3 : 32 ∉ cl w) (h4 : 59 ∉ cl w) :
    parseB (Txt.join (sOf "; ") (pre.map textP ++ Txt.join (sOf " ") ((toks p).dropLast ++ [b] ++ [w]) :: post.map textP)) = none := by
  have fr : ∀ t ∈ (toks p).dropLast ++ [b], 32 ∉ cl t ∧ 59 ∉ cl t := fun t ht => by
    rcases List.mem_append.mp ht with m | m
    · exact toks_free p t (List.mem_of_mem_take (by rw [List.dropLast_eq_take] at m; exact m))
    · rw [List.mem_singleton.mp m]; exact ⟨h1, h2⟩
  have ew := wordsF_free ((toks p).dropLast ++ [b]) fun t ht => (fr t ht).2
  obtain ⟨r, er⟩ := tail_head (post := post) h4
  refine spoilt_by wp (fun t ht => ?_) ?_ ?_
  · rcases List.mem_append.mp ht with m | m
    · exact (fr t m).1
    · rw [List.mem_singleton.mp m]; exact h3
  · rw [ew, er, List.length_append, List.length_append, List.length_singleton, List.length_cons]; omega
  · rw [ew, er]
    exact no_part (num_bad sp tk_of h)
def badNs : List Str := [sOf "01", sOf "+1", sOf "-0", sOf "1/1", sOf "2/4", sOf "1/0", sOf "-1/-2", sOf "1.5", sOf "1/", sOf "/2", sOf "1/2/3", sOf "a", sOf "1_0", sOf "1111111111111111", sOf "--1", sOf "1/3333333333333333", sOf "0/5", sOf "- 1", sOf "-", sOf "1/-2", sOf "1/02", sOf "3/1", sOf "1 /2", sOf "1,0", sOf "0x1"]
theorem badNs_cases : ∀ b ∈ badNs, b = sOf "- 1" ∨ b = sOf "1 /2" ∨ (numL (cl b) = false ∧ 32 ∉ cl b ∧ 59 ∉ cl b) := by decide +kernel
theorem numbers_no {b : Str} (hb : b ∈ badNs) {p : Pc} {pre post : List Pc} (wp : ∀ p ∈ pre, PShort p) (sp : PShort p) :
    parseB (Txt.join (sOf "; ") (pre.map textP ++ Txt.join (sOf " ") ((toks p).dropLast ++ [b]) :: post.map textP)) = none := by
  rcases badNs_cases b hb with rfl | rfl | ⟨h, h1, h2⟩
  · rw [show sOf "- 1" = sOf "-" ++ sOf " " ++ sOf "1" by decide +kernel, join_two, show (toks p).dropLast ++ [sOf "-", sOf "1"] = (toks p).dropLast ++ [sOf "-"] ++ [sOf "1"] by simp]
    exact num_one2 wp sp (numOf_no (by decide +kernel)) (by decide +kernel) (by decide +kernel) (by decide +kernel) (by decide +kernel)
  · rw [show sOf "1 /2" = sOf "1" ++ sOf " " ++ sOf "/2" by decide +kernel, join_two, show (toks p).dropLast ++ [sOf "1", sOf "/2"] = (toks p).dropLast ++ [sOf "1"] ++ [sOf "/2"] by simp, ← shS_one]
    exact num_more wp sp short_one (by decide +kernel) (by decide +kernel) (by decide +kernel)
  · exact num_one wp sp (numOf_no h) h1 h2
end Lib
namespace Lib
open PySem L2 Fr Op Tx
structure NoW (x : Str) : Prop where
  a : x ≠ sOf "gap"
  b : x ≠ sOf "glass"
  c : x ≠ sOf "stop"
  t : timesOf x = none
theorem noW_no {x : Str} (h : NoW x) {ws : List Str} {i : Nat} (e : ws[i]? = some x) : pPart ws 5 i = none := pPart_word e h.a h.b h.c h.t
theorem first_no {x : Str} {xs : List Str} {w : Str} {pre post : List Pc} (wp : ∀ p ∈ pre, PShort p) (hx : NoW x) (h5 : 59 ∉ cl x) (free : ∀ t ∈ (x :: xs) ++ [w], 32 ∉ cl t) :
    parseB (Txt.join (sOf "; ") (pre.map textP ++ Txt.join (sOf " ") ((x :: xs) ++ [w]) :: post.map textP)) = none := by
  have ew : wordsF (x :: xs) = x :: wordsF xs := by rw [wordsF_cons, wordF_no h5]; rfl
  have tl : 1 ≤ (tailW w post).length := by
    unfold tailW wordF
    by_cases e : post = []
    · rw [if_pos e]
      split <;> simp
    · rw [if_neg e]; simp
  refine spoilt_by wp free ?_ ?_
  · rw [ew, List.length_append, List.length_cons]; omega
  · rw [ew]
    refine no_part (noW_no hx ?_)
    have := at_pre (pre := pre) (rest := x :: wordsF xs ++ tailW w post) (k := 0)
    rw [Nat.add_zero] at this
    rw [this]
    rfl
theorem only_no {x : Str} {pre post : List Pc} (wp : ∀ p ∈ pre, PShort p) (hx : NoW x) (h5 : 59 ∉ cl x) (h3 : 32 ∉ cl x) (hn : x ≠ sOf "") :
    parseB (Txt.join (sOf "; ") (pre.map textP ++ x :: post.map textP)) = none := by
  have e0 : Txt.split x (sOf " ") = [x] := by
    have h := split_words (ws := [x]) (by simp) (fun t ht => by rw [List.mem_singleton.mp ht]; exact h3)
    have hj : Txt.join (sOf " ") [x] = x := by rw [joinT]; rfl
    rw [hj] at h
    exact h
  refine spoilt_no wp ?_ fun us w e => ?_
  · intro z
    obtain ⟨us, w', e1, e2⟩ := spoilt_words x post
    have hw : wordsF (Txt.split (Txt.join (sOf "; ") (pre.map textP ++ x :: post.map textP)) (sOf " ")) = preT pre ++ (wordsF us ++ tailW w' post) := by rw [join_pre, words_pre, e2]
    rw [e0] at e1
    have hu : us = [] ∧ w' = x := by
      cases us with
      | nil => exact ⟨rfl, (List.cons.inj e1).1.symm⟩
      | cons u us => cases us <;> cases e1
    obtain ⟨rfl, rfl⟩ := hu
    have h1 : wordsF (Txt.split (sOf "") (sOf " ")) = [sOf ""] := by decide +kernel
    rw [z, h1] at hw
    obtain ⟨r, er⟩ := tail_head (post := post) h5
    rw [er] at hw
    cases pre with
    | nil => exact hn (List.cons.inj hw).1.symm
    | cons p r' =>
      have := congrArg List.length hw
      rw [show preT (p :: r') = toks p ++ (sOf ";" :: preT r') from rfl] at this
      simp only [List.length_append, List.length_cons, List.length_nil] at this
      omega
  · rw [e0] at e
    have hu : us = [] ∧ w = x := by
      cases us with
      | nil => exact ⟨rfl, (List.cons.inj e).1.symm⟩
      | cons u us => cases us <;> cases e
    obtain ⟨rfl, rfl⟩ := hu
    obtain ⟨r, er⟩ := tail_head (post := post) h5
    refine no_part (noW_no hx ?_)
    have := at_pre (pre := pre) (rest := wordsF [] ++ tailW w post) (k := 0)
    rw [Nat.add_zero] at this
    rw [this, er]
    rfl
theorem noW_lit : ∀ x ∈ [sOf "", sOf "GAP", sOf "GLASS", sOf "STOP", sOf "ap", sOf "lass", sOf "top", sOf "gaps", sOf "glasss", sOf "stops", sOf "lens", sOf "(gap", sOf "(glass", sOf "(stop", sOf "(", sOf ")", sOf ";", sOf "61", sOf "05", sOf "100", sOf "-1", sOf "x", sOf "times", sOf "+2", sOf "2.0", sOf "T"],
    x ≠ sOf "gap" ∧ x ≠ sOf "glass" ∧ x ≠ sOf "stop" ∧ timesOf x = none := by decide +kernel
theorem noW_of {x : Str} (h : x ∈ [sOf "", sOf "GAP", sOf "GLASS", sOf "STOP", sOf "ap", sOf "lass", sOf "top", sOf "gaps", sOf "glasss", sOf "stops", sOf "lens", sOf "(gap", sOf "(glass", sOf "(stop", sOf "(", sOf ")", sOf ";", sOf "61", sOf "05", sOf "100", sOf "-1", sOf "x", sOf "times", sOf "+2", sOf "2.0", sOf "T"]) : NoW x :=
  have e := noW_lit x h
  ⟨e.1, e.2.1, e.2.2.1, e.2.2.2⟩
end Lib
namespace Lib
open PySem L2 Fr Op Tx
def lastQ : Pc → Rat
  | .gap q => q
  | .glass q => q
  | .stop _ q => q
theorem toks_last (p : Pc) : toks p = (toks p).dropLast ++ [shS (lastQ p)] := by cases p <;> rfl
theorem short_last {p : Pc} (h : PShort p) : Short (lastQ p) := by cases p <;> exact h.2 _ (by simp [fracs, lastQ])
theorem piece_more {p : Pc} {b : Str} {pre post : List Pc} (wp : ∀ p ∈ pre, PShort p) (sp : PShort p) (h1 : 32 ∉ cl b) (h2 : 59 ∉ cl b) (hb : b ≠ sOf ";") :
    parseB (Txt.join (sOf "; ") (pre.map textP ++ Txt.join (sOf " ") (toks p ++ [b]) :: post.map textP)) = none := by
  rw [toks_last p]
  exact num_more wp sp (short_last sp) h1 h2 hb
theorem blank_ahead {p : Pc} {pre post : List Pc} (wp : ∀ p ∈ pre, PShort p) :
    parseB (Txt.join (sOf "; ") (pre.map textP ++ Txt.join (sOf " ") (sOf "" :: toks p) :: post.map textP)) = none := by
  rw [toks_last p, ← List.cons_append]
  refine first_no wp (noW_of (by simp)) (by decide +kernel) fun t ht => ?_
  rw [List.cons_append, ← toks_last p] at ht
  rcases List.mem_cons.mp ht with rfl | m
  · decide +kernel
  · exact (toks_free p t m).1
theorem second_bad {ws : List Str} {i : Nat} {p : Pc} (h0 : ws[i]? = some (wd p)) (h : ws[i + 1]?.bind numOf = none) : pPart ws 5 i = none := by
  have hn : pNum ws (i + 1) = none := by unfold pNum; rw [h]; rfl
  cases p with
  | gap q =>
    unfold pPart
    rw [h0]
    dsimp only
    rw [if_pos (show wd (.gap q) = sOf "gap" from rfl), hn]
    rfl
  | glass q =>
    unfold pPart
    rw [h0]
    dsimp only
    rw [if_neg (by show ¬ sOf "glass" = _; decide +kernel), if_pos (show wd (.glass q) = sOf "glass" from rfl), hn]
    rfl
  | stop lo hi =>
    unfold pPart
    rw [h0]
    dsimp only
    rw [if_neg (by show ¬ sOf "stop" = _; decide +kernel), if_neg (by show ¬ sOf "stop" = _; decide +kernel), if_pos (show wd (.stop lo hi) = sOf "stop" from rfl)]
    unfold pStop
    rw [hn]
theorem wd_free (p : Pc) : 32 ∉ cl (wd p) ∧ 59 ∉ cl (wd p) := toks_free p _ (by simp [toks])
theorem second_no {p : Pc} {b : Str} {xs : List Str} {w : Str} {pre post : List Pc} (wp : ∀ p ∈ pre, PShort p) (h : numOf b = none) (h5 : 59 ∉ cl b) (free : ∀ t ∈ (wd p :: b :: xs) ++ [w], 32 ∉ cl t) :
    parseB (Txt.join (sOf "; ") (pre.map textP ++ Txt.join (sOf " ") ((wd p :: b :: xs) ++ [w]) :: post.map textP)) = none := by
  have ew : wordsF (wd p :: b :: xs) = wd p :: b :: wordsF xs := by
    rw [wordsF_cons, wordF_no (wd_free p).2, wordsF_cons, wordF_no h5]
    rfl
  refine spoilt_by wp free ?_ ?_
  · rw [ew, List.length_append, List.length_cons, List.length_cons]; omega
  · rw [ew]
    have a0 := at_pre (pre := pre) (rest := wd p :: b :: wordsF xs ++ tailW w post) (k := 0)
    have a1 := at_pre (pre := pre) (rest := wd p :: b :: wordsF xs ++ tailW w post) (k := 1)
    rw [Nat.add_zero] at a0
    refine no_part (second_bad (p := p) (by rw [a0]; rfl) ?_)
    rw [a1]
    exact h
theorem sign_behind {p : Pc} {c : Nat} {pre post : List Pc} (wp : ∀ p ∈ pre, PShort p) (sp : PShort p) (h : ¬ ((48 ≤ c ∧ c ≤ 57) ∨ c = 45 ∨ c = 47)) (h1 : c ≠ 32) (h2 : c ≠ 59) :
    parseB (Txt.join (sOf "; ") (pre.map textP ++ Txt.join (sOf " ") ((toks p).dropLast ++ [shS (lastQ p) ++ ⟨#[c]⟩]) :: post.map textP)) = none := by
  have ec : cl (shS (lastQ p) ++ ⟨#[c]⟩) = cl (shS (lastQ p)) ++ [c] := cl_app _ _
  refine num_one wp sp (numOf_none fun q _ e => ?_) ?_ ?_
  · have m : c ∈ cl (shS q) := by rw [e, ec]; simp
    exact sh_free q c h m
  · rw [ec]
    intro m
    rcases List.mem_append.mp m with m | m
    · exact sh_free _ 32 (by omega) m
    · exact h1 (List.mem_singleton.mp m).symm
  · rw [ec]
    intro m
    rcases List.mem_append.mp m with m | m
    · exact sh_free _ 59 (by omega) m
    · exact h2 (List.mem_singleton.mp m).symm
end Lib
namespace Lib
open PySem L2 Fr Op Tx
theorem semi_behind {p : Pc} {pre post : List Pc} (wp : ∀ p ∈ pre, PShort p) (sp : PShort p) :
    parseB (Txt.join (sOf "; ") (pre.map textP ++ Txt.join (sOf " ") ((toks p).dropLast ++ [shS (lastQ p) ++ ⟨#[59]⟩]) :: post.map textP)) = none := by
  have fr : ∀ t ∈ (toks p).dropLast, 32 ∉ cl t ∧ 59 ∉ cl t := fun t m => toks_free p t (List.mem_of_mem_take (by rw [List.dropLast_eq_take] at m; exact m))
  have ew := wordsF_free (toks p).dropLast fun t ht => (fr t ht).2
  have ec : cl (shS (lastQ p) ++ ⟨#[59]⟩) = cl (shS (lastQ p)) ++ [59] := cl_app _ _
  have dl := drop_len p
  have free : ∀ t ∈ (toks p).dropLast ++ [shS (lastQ p) ++ ⟨#[59]⟩], 32 ∉ cl t := fun t ht => by
    rcases List.mem_append.mp ht with m | m
    · exact (fr t m).1
    · rw [List.mem_singleton.mp m, ec]
      intro m
      rcases List.mem_append.mp m with m | m
      · exact sh_free _ 32 (by omega) m
      · exact absurd (List.mem_singleton.mp m) (by decide)
  by_cases hp : post = []
  · have et : tailW (shS (lastQ p) ++ ⟨#[59]⟩) post = [shS (lastQ p), sOf ";"] := by
      unfold tailW
      rw [if_pos hp]
      exact wordF_semi _
    refine spoilt_by wp free ?_ ?_
    · rw [ew, et, List.length_append]; simp only [List.length_cons, List.length_nil]; omega
    · rw [ew, et]
      have e1 : (toks p).dropLast ++ [shS (lastQ p), sOf ";"] = toks p ++ [sOf ";"] := by
        conv => rhs; rw [toks_last p]
        simp
      rw [e1]
      have hg : pPart (preT pre ++ (toks p ++ [sOf ";"])) 5 (preT pre).length = some (pPc 4 p, (preT pre).length + (toks p).length) := pPart_good 5 (pPc 4 p) _ sp tk_of
      refine no_next hg ?_ (pPart_end ?_)
      · rw [at_pre, List.getElem?_append_right (Nat.le_refl _), Nat.sub_self]
        rfl
      · rw [Nat.add_assoc, at_pre, List.getElem?_eq_none]
        rw [List.length_append]
        simp
  · have et : tailW (shS (lastQ p) ++ ⟨#[59]⟩) post = (shS (lastQ p) ++ ⟨#[59]⟩) :: sOf ";" :: toksB post := by
      unfold tailW
      rw [if_neg hp]
    refine spoilt_by wp free ?_ ?_
    · rw [ew, et, List.length_append]; simp only [List.length_cons]; omega
    · rw [ew, et, show (toks p).dropLast ++ (shS (lastQ p) ++ ⟨#[59]⟩) :: sOf ";" :: toksB post = ((toks p).dropLast ++ [shS (lastQ p) ++ ⟨#[59]⟩]) ++ (sOf ";" :: toksB post) by simp]
      refine no_part (num_bad sp tk_of (numOf_none fun q _ e => ?_))
      have m : 59 ∈ cl (shS q) := by rw [e, ec]; simp
      exact sh_free q 59 (by omega) m
end Lib
namespace Lib
open PySem L2 Fr Op Tx
theorem next_none {pre post : List Pc} {a : List Str} {w : Str} (h5 : 59 ∉ cl w) : (preT pre ++ (a ++ tailW w post))[(preT pre).length + (a.length + 1)]?.bind numOf = none := by
  rw [at_pre, List.getElem?_append_right (by omega), show a.length + 1 - a.length = 1 by omega]
  unfold tailW
  by_cases hp : post = []
  · rw [if_pos hp, wordF_no h5]
    rfl
  · rw [if_neg hp]
    show numOf (sOf ";") = none
    exact numOf_no (by decide +kernel)
theorem part_gone {p : Pc} {pre post : List Pc} (wp : ∀ p ∈ pre, PShort p) (sp : PShort p) :
    parseB (Txt.join (sOf "; ") (pre.map textP ++ Txt.join (sOf " ") (toks p).dropLast :: post.map textP)) = none := by
  -- one word: the piece's own
  have one : ∀ p : Pc, (toks p).dropLast = [wd p] → parseB (Txt.join (sOf "; ") (pre.map textP ++ Txt.join (sOf " ") (toks p).dropLast :: post.map textP)) = none := fun p e => by
    have f := wd_free p
    have ej : Txt.join (sOf " ") (toks p).dropLast = wd p := by rw [e, joinT]; rfl
    rw [ej]
    have e0 : Txt.split (wd p) (sOf " ") = [wd p] := by
      have h := split_words (ws := [wd p]) (by simp) (fun t ht => by rw [List.mem_singleton.mp ht]; exact f.1)
      have hj : Txt.join (sOf " ") [wd p] = wd p := by rw [joinT]; rfl
      rw [hj] at h
      exact h
    have same : ∀ us w, Txt.split (wd p) (sOf " ") = us ++ [w] → us = [] ∧ w = wd p := fun us w h => by
      rw [e0] at h
      cases us with
      | nil => exact ⟨rfl, (List.cons.inj h).1.symm⟩
      | cons u us => cases us <;> cases h
    refine spoilt_no wp (fun z => ?_) fun us w h => ?_
    · obtain ⟨us, w, e1, e2⟩ := spoilt_words (wd p) post
      have hw : wordsF (Txt.split (Txt.join (sOf "; ") (pre.map textP ++ wd p :: post.map textP)) (sOf " ")) = preT pre ++ (wordsF us ++ tailW w post) := by rw [join_pre, words_pre, e2]
      obtain ⟨rfl, rfl⟩ := same us w e1
      have h1 : wordsF (Txt.split (sOf "") (sOf " ")) = [sOf ""] := by decide +kernel
      rw [z, h1] at hw
      obtain ⟨r, er⟩ := tail_head (post := post) f.2
      rw [er] at hw
      cases pre with
      | nil =>
        have hh : sOf "" = wd p := (List.cons.inj hw).1
        cases p <;> exact absurd hh (by show ¬ sOf "" = sOf _; decide +kernel)
      | cons p' r' =>
        have := congrArg List.length hw
        rw [show preT (p' :: r') = toks p' ++ (sOf ";" :: preT r') from rfl] at this
        simp only [List.length_append, List.length_cons, List.length_nil] at this
        omega
    · obtain ⟨rfl, rfl⟩ := same us w h
      obtain ⟨r, er⟩ := tail_head (post := post) f.2
      refine no_part (second_bad (p := p) ?_ ?_)
      · have a0 := at_pre (pre := pre) (rest := wordsF [] ++ tailW (wd p) post) (k := 0)
        rw [Nat.add_zero] at a0
        rw [a0, er]
        rfl
      · exact next_none (a := wordsF []) f.2
  cases p with
  | gap q => exact one _ rfl
  | glass q => exact one _ rfl
  | stop lo hi =>
    have fl : 32 ∉ cl (shS lo) ∧ 59 ∉ cl (shS lo) := ⟨sh_free _ 32 (by omega), sh_free _ 59 (by omega)⟩
    have fs := wd_free (.stop lo hi)
    show parseB (Txt.join (sOf "; ") (pre.map textP ++ Txt.join (sOf " ") ([sOf "stop"] ++ [shS lo]) :: post.map textP)) = none
    have ew : wordsF [sOf "stop"] = [sOf "stop"] := wordsF_free _ fun t ht => by rw [List.mem_singleton.mp ht]; exact fs.2
    obtain ⟨r, er⟩ := tail_head (post := post) fl.2
    refine spoilt_by wp (fun t ht => ?_) ?_ ?_
    · rcases List.mem_append.mp ht with m | m
      · rw [List.mem_singleton.mp m]; exact fs.1
      · rw [List.mem_singleton.mp m]; exact fl.1
    · rw [ew, er]; simp
    · rw [ew]
      have a0 := at_pre (pre := pre) (rest := [sOf "stop"] ++ tailW (shS lo) post) (k := 0)
      have a1 := at_pre (pre := pre) (rest := [sOf "stop"] ++ tailW (shS lo) post) (k := 1)
      have a2 := next_none (pre := pre) (post := post) (a := [sOf "stop"]) fl.2
      rw [Nat.add_zero] at a0
      generalize hw : preT pre ++ ([sOf "stop"] ++ tailW (shS lo) post) = ws at a0 a1 a2 ⊢
      have t0 : ws[(preT pre).length]? = some (sOf "stop") := by rw [a0]; rfl
      have t1 : ws[(preT pre).length + 1]? = some (shS lo) := by rw [a1, er]; rfl
      refine no_part ?_
      unfold pPart
      rw [t0]
      dsimp only
      rw [if_neg (by decide +kernel), if_neg (by decide +kernel), if_pos rfl]
      unfold pStop
      rw [pNum_good t1 (sp.2 lo (by simp [fracs]))]
      dsimp only
      have : pNum ws ((preT pre).length + 1 + 1) = none := by
        unfold pNum
        rw [show (preT pre).length + 1 + 1 = (preT pre).length + ([sOf "stop"].length + 1) from rfl, a2]
        rfl
      rw [this]
end Lib
namespace Lib
open PySem L2 Fr Op Tx
theorem timesOf_sign {x : Str} {c : Nat} (hc : c ∈ cl x) (h : ¬ (48 ≤ c ∧ c ≤ 57)) : timesOf x = none := by
  cases e : timesOf x with
  | none => rfl
  | some n => exact absurd (timesOf_some e).1.symm (dgS_ne hc h)
theorem noW_sign {x : Str} {c : Nat} (hc : c ∈ cl x) (h : ¬ (48 ≤ c ∧ c ≤ 57)) (h1 : c ∉ [103, 97, 112, 108, 115, 116, 111]) : NoW x := by
  have out : ∀ y ∈ [sOf "gap", sOf "glass", sOf "stop"], ∀ d ∈ cl y, d ∈ [103, 97, 112, 108, 115, 116, 111] := by decide +kernel
  refine ⟨fun e => ?_, fun e => ?_, fun e => ?_, timesOf_sign hc h⟩
  · exact h1 (out (sOf "gap") (by simp) c (by rw [← e]; exact hc))
  · exact h1 (out (sOf "glass") (by simp) c (by rw [← e]; exact hc))
  · exact h1 (out (sOf "stop") (by simp) c (by rw [← e]; exact hc))
theorem noW_glued (p : Pc) (q : Rat) : NoW (wd p ++ shS q) := by
  have e : cl (wd p ++ shS q) = cl (wd p) ++ cl (shS q) := cl_app _ _
  have ne : cl (shS q) ≠ [] := by
    rw [cl_shS]
    unfold sh
    intro z
    have := dg_ne q.num.natAbs
    simp only [List.append_eq_nil_iff] at z
    exact this z.1.2
  have lets : ∀ y ∈ [sOf "gap", sOf "glass", sOf "stop"], ∀ d ∈ cl y, ¬ ((48 ≤ d ∧ d ≤ 57) ∨ d = 45 ∨ d = 47) := by decide +kernel
  obtain ⟨c, r, ec⟩ := List.exists_cons_of_ne_nil ne
  have hc : (48 ≤ c ∧ c ≤ 57) ∨ c = 45 ∨ c = 47 := by
    have := sh_signs q c (by rw [← cl_shS, ec]; simp)
    exact this
  have hm : c ∈ cl (wd p ++ shS q) := by rw [e, ec]; simp
  have hw : ∃ d ∈ cl (wd p), ¬ (48 ≤ d ∧ d ≤ 57) := by
    cases p
    · exact ⟨103, by show 103 ∈ cl (sOf "gap"); decide +kernel, by decide⟩
    · exact ⟨103, by show 103 ∈ cl (sOf "glass"); decide +kernel, by decide⟩
    · exact ⟨115, by show 115 ∈ cl (sOf "stop"); decide +kernel, by decide⟩
  obtain ⟨d, hd, nd⟩ := hw
  refine ⟨fun z => ?_, fun z => ?_, fun z => ?_, timesOf_sign (c := d) (by rw [e]; exact List.mem_append_left _ hd) nd⟩
  · exact lets (sOf "gap") (by simp) c (by rw [← z]; exact hm) hc
  · exact lets (sOf "glass") (by simp) c (by rw [← z]; exact hm) hc
  · exact lets (sOf "stop") (by simp) c (by rw [← z]; exact hm) hc
end Lib
namespace Lib
open PySem L2 Fr Op Tx
section
variable {ws : List Str} {i : Nat} {x : Str}
theorem rnd_at (h : ws[i]? = some x) (n : x ≠ sOf "gap" ∧ x ≠ sOf "glass" ∧ x ≠ sOf "stop") : pPart ws 5 i = pRnd (pPart ws 4) ws x (i + 1) := pPart_rnd h n.1 n.2.1 n.2.2
theorem rnd_times (h : ws[i]? = some x) (n : x ≠ sOf "gap" ∧ x ≠ sOf "glass" ∧ x ≠ sOf "stop") (h1 : ws[i + 1]? ≠ some (sOf "times")) : pPart ws 5 i = none := by
  rw [rnd_at h n]
  unfold pRnd
  cases timesOf x with
  | none => rfl
  | some k =>
    dsimp only
    rw [if_neg (by decide), if_neg h1]
theorem rnd_open (h : ws[i]? = some x) (n : x ≠ sOf "gap" ∧ x ≠ sOf "glass" ∧ x ≠ sOf "stop") (h1 : ws[i + 1 + 1]? ≠ some (sOf "(")) : pPart ws 5 i = none := by
  rw [rnd_at h n]
  unfold pRnd
  cases timesOf x with
  | none => rfl
  | some k =>
    dsimp only
    rw [if_neg (by decide)]
    by_cases c : ws[i + 1]? = some (sOf "times")
    · rw [if_pos c, if_neg h1]
    · rw [if_neg c]
theorem rnd_in (h : ws[i]? = some x) (n : x ≠ sOf "gap" ∧ x ≠ sOf "glass" ∧ x ≠ sOf "stop") (h1 : pParts (pPart ws 4) ws (ws.length + 1) (i + 1 + 1 + 1) = none) : pPart ws 5 i = none := by
  rw [rnd_at h n]
  exact pRnd_in h1
theorem rnd_shut (h : ws[i]? = some x) (n : x ≠ sOf "gap" ∧ x ≠ sOf "glass" ∧ x ≠ sOf "stop") (h1 : ∀ ps j, pParts (pPart ws 4) ws (ws.length + 1) (i + 1 + 1 + 1) = some (ps, j) → ws[j]? ≠ some (sOf ")")) : pPart ws 5 i = none := by
  cases e : pParts (pPart ws 4) ws (ws.length + 1) (i + 1 + 1 + 1) with
  | none => exact rnd_in h n e
  | some y =>
    obtain ⟨ps, j⟩ := y
    rw [rnd_at h n]
    unfold pRnd
    cases timesOf x with
    | none => rfl
    | some k =>
      dsimp only
      rw [if_neg (by decide)]
      by_cases c : ws[i + 1]? = some (sOf "times")
      · rw [if_pos c]
        by_cases c2 : ws[i + 1 + 1]? = some (sOf "(")
        · rw [if_pos c2, e]
          dsimp only
          rw [if_neg (h1 ps j e)]
        · rw [if_neg c2]
      · rw [if_neg c]
end
end Lib
namespace Lib
open PySem L2 Fr Op Tx
theorem jcons (sep x : Str) {ws : List Str} (h : ws ≠ []) : Txt.join sep (x :: ws) = x ++ sep ++ Txt.join sep ws := by
  rw [joinT, joinT]
  cases ws with
  | nil => exact absurd rfl h
  | cons y r => rfl
theorem jsnoc (sep : Str) : ∀ (ws : List Str) (w : Str), ws ≠ [] → Txt.join sep (ws ++ [w]) = Txt.join sep ws ++ sep ++ w
  | [], _, h => absurd rfl h
  | [x], w, _ => by
    rw [joinT, joinT]
    rfl
  | x :: y :: r, w, _ => by
    have ih := jsnoc sep (y :: r) w (by simp)
    rw [show (x :: y :: r) ++ [w] = x :: ((y :: r) ++ [w]) from rfl, jcons sep x (by simp), ih, jcons sep x (by simp)]
    apply ext
    simp only [cl_app, List.append_assoc]
theorem toks_ne (p : Pc) : toks p ≠ [] := by cases p <;> simp [toks]
theorem drop_ne (p : Pc) : (toks p).dropLast ≠ [] := fun e => by have := drop_len p; rw [e] at this; simp at this
theorem text_then (p : Pc) (z : Str) : textP p ++ z = Txt.join (sOf " ") ((toks p).dropLast ++ [shS (lastQ p) ++ z]) := by
  have e : textP p = Txt.join (sOf " ") ((toks p).dropLast ++ [shS (lastQ p)]) := by
    conv => rhs; rw [← toks_last p]
    rfl
  rw [e, jsnoc _ _ _ (drop_ne p), jsnoc _ _ _ (drop_ne p)]
  apply ext
  simp only [cl_app, List.append_assoc]
section
variable {p : Pc} {pre post : List Pc}
theorem sg_blank (wp : ∀ p ∈ pre, PShort p) (sp : PShort p) : parseB (Txt.join (sOf "; ") (pre.map textP ++ (textP p ++ sOf " ") :: post.map textP)) = none := by
  have e : textP p ++ sOf " " = Txt.join (sOf " ") (toks p ++ [sOf ""]) := by
    rw [jsnoc _ _ _ (toks_ne p)]
    apply ext
    simp only [cl_app]
    show _ = cl (textP p) ++ cl (sOf " ") ++ []
    simp
  rw [e]
  exact piece_more wp sp (by decide +kernel) (by decide +kernel) (by decide +kernel)
theorem sg_one (wp : ∀ p ∈ pre, PShort p) (sp : PShort p) : parseB (Txt.join (sOf "; ") (pre.map textP ++ (textP p ++ sOf " 1") :: post.map textP)) = none := by
  have e : textP p ++ sOf " 1" = Txt.join (sOf " ") (toks p ++ [sOf "1"]) := by
    rw [jsnoc _ _ _ (toks_ne p), show sOf " 1" = sOf " " ++ sOf "1" by decide +kernel]
    apply ext
    simp only [cl_app, List.append_assoc]
    rfl
  rw [e]
  exact piece_more wp sp (by decide +kernel) (by decide +kernel) (by decide +kernel)
theorem sg_ahead (wp : ∀ p ∈ pre, PShort p) : parseB (Txt.join (sOf "; ") (pre.map textP ++ (sOf " " ++ textP p) :: post.map textP)) = none := by
  have e : sOf " " ++ textP p = Txt.join (sOf " ") (sOf "" :: toks p) := by
    rw [jcons _ _ (toks_ne p)]
    apply ext
    simp only [cl_app]
    show _ = [] ++ cl (sOf " ") ++ cl (textP p)
    simp
  rw [e]
  exact blank_ahead wp
theorem sg_semi (wp : ∀ p ∈ pre, PShort p) (sp : PShort p) : parseB (Txt.join (sOf "; ") (pre.map textP ++ (textP p ++ sOf ";") :: post.map textP)) = none := by
  rw [text_then, show sOf ";" = (⟨#[59]⟩ : Str) by decide +kernel]
  exact semi_behind wp sp
theorem sg_end (wp : ∀ p ∈ pre, PShort p) (sp : PShort p) : parseB (Txt.join (sOf "; ") (pre.map textP ++ (textP p ++ sOf "\n") :: post.map textP)) = none := by
  rw [text_then, show sOf "\n" = (⟨#[10]⟩ : Str) by decide +kernel]
  exact sign_behind wp sp (by omega) (by decide) (by decide)
theorem sg_comma (wp : ∀ p ∈ pre, PShort p) (sp : PShort p) : parseB (Txt.join (sOf "; ") (pre.map textP ++ (textP p ++ sOf ",") :: post.map textP)) = none := by
  rw [text_then, show sOf "," = (⟨#[44]⟩ : Str) by decide +kernel]
  exact sign_behind wp sp (by omega) (by decide) (by decide)
end
end Lib
namespace Lib
open PySem L2 Fr Op Tx
section
variable {p : Pc} {pre post : List Pc}
theorem sg_lens (wp : ∀ p ∈ pre, PShort p) : parseB (Txt.join (sOf "; ") (pre.map textP ++ sOf "lens 1" :: post.map textP)) = none := by
  rw [show sOf "lens 1" = Txt.join (sOf " ") ((sOf "lens" :: []) ++ [sOf "1"]) by decide +kernel]
  exact first_no wp (noW_of (by simp)) (by decide +kernel) (by decide +kernel)
theorem sg_space (wp : ∀ p ∈ pre, PShort p) : parseB (Txt.join (sOf "; ") (pre.map textP ++ sOf " " :: post.map textP)) = none := by
  rw [show (sOf " " :: post.map textP) = (Txt.join (sOf " ") ((sOf "" :: []) ++ [sOf ""]) :: post.map textP) by
    rw [show Txt.join (sOf " ") ((sOf "" :: []) ++ [sOf ""]) = sOf " " by decide +kernel]]
  exact first_no wp (noW_of (by simp)) (by decide +kernel) (by decide +kernel)
theorem sg_round (wp : ∀ p ∈ pre, PShort p) : parseB (Txt.join (sOf "; ") (pre.map textP ++ (sOf "( " ++ textP p ++ sOf " )") :: post.map textP)) = none := by
  have e : sOf "( " ++ textP p ++ sOf " )" = Txt.join (sOf " ") ((sOf "(" :: toks p) ++ [sOf ")"]) := by
    rw [jsnoc _ _ _ (by simp), jcons _ _ (toks_ne p), show sOf "( " = sOf "(" ++ sOf " " by decide +kernel, show sOf " )" = sOf " " ++ sOf ")" by decide +kernel]
    apply ext
    simp only [cl_app, List.append_assoc]
    rfl
  rw [e]
  refine first_no wp (noW_of (by simp)) (by decide +kernel) fun t ht => ?_
  rcases List.mem_append.mp ht with m | m
  · rcases List.mem_cons.mp m with rfl | m
    · decide +kernel
    · exact (toks_free p t m).1
  · rw [List.mem_singleton.mp m]
    decide +kernel
theorem sg_only (wp : ∀ p ∈ pre, PShort p) : parseB (Txt.join (sOf "; ") (pre.map textP ++ sOf ";" :: post.map textP)) = none := by
  have e0 : Txt.split (sOf ";") (sOf " ") = [sOf ";"] := by decide +kernel
  have same : ∀ us w, Txt.split (sOf ";") (sOf " ") = us ++ [w] → us = [] ∧ w = sOf ";" := fun us w h => by
    rw [e0] at h
    cases us with
    | nil => exact ⟨rfl, (List.cons.inj h).1.symm⟩
    | cons u us => cases us <;> cases h
  have hd : ∃ x r, tailW (sOf ";") post = x :: r ∧ NoW x ∧ 1 ≤ r.length := by
    unfold tailW
    by_cases hp : post = []
    · rw [if_pos hp, show wordF (sOf ";") = [sOf "", sOf ";"] by decide +kernel]
      exact ⟨_, _, rfl, noW_of (by simp), by simp⟩
    · rw [if_neg hp]
      exact ⟨_, _, rfl, noW_of (by simp), by simp⟩
  obtain ⟨x, r, ex, nx, rl⟩ := hd
  refine spoilt_no wp ?_ fun us w h => ?_
  · obtain ⟨us, w, e1, e2⟩ := spoilt_words (sOf ";") post
    obtain ⟨rfl, rfl⟩ := same us w e1
    refine pre_ne (pre := pre) (rest := wordsF [] ++ tailW (sOf ";") post) ?_ ?_
    · rw [join_pre, words_pre, e2]
    · rw [ex]
      show 2 ≤ (x :: r).length
      rw [List.length_cons]
      omega
  · obtain ⟨rfl, rfl⟩ := same us w h
    refine no_part (noW_no nx ?_)
    have a0 := at_pre (pre := pre) (rest := wordsF [] ++ tailW (sOf ";") post) (k := 0)
    rw [Nat.add_zero] at a0
    rw [a0, ex]
    rfl
end
end Lib
namespace Lib
open PySem L2 Fr Op Tx
section
variable {p : Pc} {pre post : List Pc}
theorem sg_two (wp : ∀ p ∈ pre, PShort p) : parseB (Txt.join (sOf "; ") (pre.map textP ++ Txt.join (sOf "  ") (toks p) :: post.map textP)) = none := by
  have nb : numOf (sOf "") = none := numOf_no (by decide +kernel)
  have bl : sOf "  " = sOf " " ++ sOf " " := by decide +kernel
  have fr : ∀ q : Rat, 32 ∉ cl (shS q) := fun q => sh_free _ 32 (by omega)
  have two : ∀ a b : Str, Txt.join (sOf "  ") [a, b] = Txt.join (sOf " ") ((a :: sOf "" :: []) ++ [b]) := fun a b => by
    rw [joinT, joinT]
    show a ++ sOf "  " ++ b = a ++ sOf " " ++ (sOf "" ++ sOf " " ++ b)
    rw [bl]
    apply ext
    simp only [cl_app, List.append_assoc]
    rfl
  have three : ∀ a b c : Str, Txt.join (sOf "  ") [a, b, c] = Txt.join (sOf " ") ((a :: sOf "" :: [b, sOf ""]) ++ [c]) := fun a b c => by
    rw [joinT, joinT]
    show a ++ sOf "  " ++ (b ++ sOf "  " ++ c) = a ++ sOf " " ++ (sOf "" ++ sOf " " ++ (b ++ sOf " " ++ (sOf "" ++ sOf " " ++ c)))
    rw [bl]
    apply ext
    simp only [cl_app, List.append_assoc]
    rfl
  have w := (wd_free p).1
  cases p with
  | gap q =>
    rw [show toks (.gap q) = [wd (.gap q), shS q] from rfl, two]
    refine second_no wp nb (by decide +kernel) fun t ht => ?_
    simp only [List.cons_append, List.nil_append, List.mem_cons, List.not_mem_nil, or_false] at ht
    rcases ht with rfl | rfl | rfl
    · exact w
    · decide +kernel
    · exact fr q
  | glass q =>
    rw [show toks (.glass q) = [wd (.glass q), shS q] from rfl, two]
    refine second_no wp nb (by decide +kernel) fun t ht => ?_
    simp only [List.cons_append, List.nil_append, List.mem_cons, List.not_mem_nil, or_false] at ht
    rcases ht with rfl | rfl | rfl
    · exact w
    · decide +kernel
    · exact fr q
  | stop lo hi =>
    rw [show toks (.stop lo hi) = [wd (.stop lo hi), shS lo, shS hi] from rfl, three]
    refine second_no wp nb (by decide +kernel) fun t ht => ?_
    simp only [List.cons_append, List.nil_append, List.mem_cons, List.not_mem_nil, or_false] at ht
    rcases ht with rfl | rfl | rfl | rfl | rfl
    · exact w
    · decide +kernel
    · exact fr lo
    · decide +kernel
    · exact fr hi
theorem sg_word {x : Str} (wp : ∀ p ∈ pre, PShort p) (hx : NoW x) (h5 : 59 ∉ cl x) (h3 : 32 ∉ cl x) :
    parseB (Txt.join (sOf "; ") (pre.map textP ++ Txt.join (sOf " ") (x :: (fracs p).map shS) :: post.map textP)) = none := by
  have fr : ∀ q : Rat, 32 ∉ cl (shS q) := fun q => sh_free _ 32 (by omega)
  cases p with
  | gap q =>
    refine first_no (x := x) (xs := []) (w := shS q) wp hx h5 fun t ht => ?_
    simp only [List.cons_append, List.nil_append, List.mem_cons, List.not_mem_nil, or_false] at ht
    rcases ht with rfl | rfl
    · exact h3
    · exact fr q
  | glass q =>
    refine first_no (x := x) (xs := []) (w := shS q) wp hx h5 fun t ht => ?_
    simp only [List.cons_append, List.nil_append, List.mem_cons, List.not_mem_nil, or_false] at ht
    rcases ht with rfl | rfl
    · exact h3
    · exact fr q
  | stop lo hi =>
    refine first_no (x := x) (xs := [shS lo]) (w := shS hi) wp hx h5 fun t ht => ?_
    simp only [List.cons_append, List.nil_append, List.mem_cons, List.not_mem_nil, or_false] at ht
    rcases ht with rfl | rfl | rfl
    · exact h3
    · exact fr lo
    · exact fr hi
end
end Lib
namespace Lib
open PySem L2 Fr Op Tx
section
variable {p : Pc} {pre post : List Pc}
def gluedW : Pc → Str
  | .gap q => wd (.gap q) ++ shS q
  | .glass q => wd (.glass q) ++ shS q
  | .stop lo hi => Txt.join (sOf " ") [wd (.stop lo hi) ++ shS lo, shS hi]
theorem sg_glued (wp : ∀ p ∈ pre, PShort p) : parseB (Txt.join (sOf "; ") (pre.map textP ++ gluedW p :: post.map textP)) = none := by
  have fr : ∀ (c : Nat) (p : Pc) (q : Rat), c ∉ cl (wd p) → c ∉ cl (shS q) → c ∉ cl (wd p ++ shS q) := fun c p q h1 h2 m => by
    rw [cl_app] at m
    rcases List.mem_append.mp m with m | m
    · exact h1 m
    · exact h2 m
  have s3 : ∀ q : Rat, 32 ∉ cl (shS q) := fun q => sh_free _ 32 (by omega)
  have s5 : ∀ q : Rat, 59 ∉ cl (shS q) := fun q => sh_free _ 59 (by omega)
  have ne : ∀ (p : Pc) (q : Rat), wd p ++ shS q ≠ sOf "" := fun p q e => by
    have h := congrArg cl e
    rw [cl_app] at h
    have h0 : cl (sOf "") = [] := by decide +kernel
    rw [h0, List.append_eq_nil_iff] at h
    cases p <;> exact absurd h.1 (by show ¬ cl (sOf _) = []; decide +kernel)
  cases p with
  | gap q => exact only_no wp (noW_glued _ q) (fr 59 _ q (wd_free _).2 (s5 q)) (fr 32 _ q (wd_free _).1 (s3 q)) (ne _ q)
  | glass q => exact only_no wp (noW_glued _ q) (fr 59 _ q (wd_free _).2 (s5 q)) (fr 32 _ q (wd_free _).1 (s3 q)) (ne _ q)
  | stop lo hi =>
    refine first_no (x := wd (.stop lo hi) ++ shS lo) (xs := []) (w := shS hi) wp (noW_glued _ lo) (fr 59 _ lo (wd_free _).2 (s5 lo)) fun t ht => ?_
    simp only [List.cons_append, List.nil_append, List.mem_cons, List.not_mem_nil, or_false] at ht
    rcases ht with rfl | rfl
    · exact fr 32 _ lo (wd_free _).1 (s3 lo)
    · exact s3 hi
end
end Lib
namespace Lib
open PySem L2 Fr Op Tx
theorem split_blank (a b : Str) : Txt.split (a ++ sOf " " ++ b) (sOf " ") = Txt.split a (sOf " ") ++ Txt.split b (sOf " ") := by
  refine map_cl_inj ?_
  have e : cl (⟨#[32]⟩ : Str) = [32] := rfl
  rw [List.map_append, show sOf " " = (⟨#[32]⟩ : Str) by decide +kernel, split_cut, split_cut, split_cut, cl_app, cl_app, e, List.append_assoc]
  exact cut_both 32 (cl a) (cl b)
theorem join_ahead (a b : Str) (r : List Str) : Txt.join (sOf "; ") ((a ++ sOf " " ++ b) :: r) = a ++ sOf " " ++ Txt.join (sOf "; ") (b :: r) := by
  cases r with
  | nil => rw [joinT, joinT]; rfl
  | cons c r =>
    rw [jcons _ _ (by simp), jcons _ b (by simp)]
    apply ext
    simp only [cl_app, List.append_assoc]
def Hd (t : Str) (A : List Str) : Prop := ∀ post : List Pc, ∃ r, wordsF (Txt.split (Txt.join (sOf "; ") (t :: post.map textP)) (sOf " ")) = A ++ r
theorem hd_any (t : Str) : Hd t [] := fun _ => ⟨_, rfl⟩
theorem hd_more {a b : Str} {A B : List Str} (ha : wordsF (Txt.split a (sOf " ")) = A) (h : Hd b B) : Hd (a ++ sOf " " ++ b) (A ++ B) := fun post => by
  obtain ⟨r, e⟩ := h post
  refine ⟨r, ?_⟩
  rw [join_ahead, split_blank, wordsF_app, ha, e, List.append_assoc]
theorem tail_head1 {w : Str} {post : List Pc} (h : wordF w = [w]) : ∃ r, tailW w post = w :: r := by
  unfold tailW
  by_cases e : post = []
  · rw [if_pos e, h]; exact ⟨_, rfl⟩
  · rw [if_neg e]; exact ⟨_, rfl⟩
theorem hd_all {ws : List Str} {w : Str} (free : ∀ t ∈ ws ++ [w], 32 ∉ cl t) (h5 : wordF w = [w]) : Hd (Txt.join (sOf " ") (ws ++ [w])) (wordsF ws ++ [w]) := fun post => by
  have e0 := split_words (ws := ws ++ [w]) (by simp) free
  obtain ⟨us, w', e1, e2⟩ := spoilt_words (Txt.join (sOf " ") (ws ++ [w])) post
  rw [e0] at e1
  have h1 := congrArg List.dropLast e1
  have h2 := congrArg List.getLast? e1
  rw [List.dropLast_concat, List.dropLast_concat] at h1
  rw [List.getLast?_concat, List.getLast?_concat] at h2
  obtain rfl := h1
  obtain rfl := Option.some.inj h2
  obtain ⟨r, er⟩ := tail_head1 (post := post) h5
  refine ⟨r, ?_⟩
  rw [e2, er]
  simp
theorem hd_one {w : Str} (h3 : 32 ∉ cl w) (h5 : wordF w = [w]) : Hd w [w] := by
  have h := hd_all (ws := []) (w := w) (fun t ht => by rw [List.mem_singleton.mp ht]; exact h3) h5
  have e : Txt.join (sOf " ") ([] ++ [w]) = w := by rw [joinT]; rfl
  rw [e] at h
  exact h
section
variable {t : Str} {A : List Str} {pre post : List Pc}
theorem hd_no (wp : ∀ p ∈ pre, PShort p) (hd : Hd t A) (h2 : 2 ≤ A.length)
    (h : ∀ ws i, TkAt ws i A → ∀ n ps j, pParts (pPart ws 5) ws n i = some (ps, j) → j ≠ ws.length) : parseB (Txt.join (sOf "; ") (pre.map textP ++ t :: post.map textP)) = none := by
  obtain ⟨r, e⟩ := hd post
  have hw : wordsF (Txt.split (Txt.join (sOf "; ") (pre.map textP ++ t :: post.map textP)) (sOf " ")) = preT pre ++ (A ++ r) := by rw [join_pre, words_pre, e]
  refine parse_pre (pre := pre) (rest := A ++ r) (pre_ne hw ?_) hw wp (h _ _ tk_of)
  rw [List.length_append]
  omega
theorem hd_bad (wp : ∀ p ∈ pre, PShort p) (hd : Hd t A) (h2 : 2 ≤ A.length) (h : ∀ ws i, TkAt ws i A → pPart ws 5 i = none) : parseB (Txt.join (sOf "; ") (pre.map textP ++ t :: post.map textP)) = none :=
  hd_no wp hd h2 fun ws i tk => no_part (h ws i tk)
end
structure Blk (x : Str) (B : List Str) : Prop where
  j : x = Txt.join (sOf " ") B
  f : ∀ t ∈ B, 32 ∉ cl t ∧ 59 ∉ cl t
  n : B ≠ []
  h : ∃ f r, B = f :: r ∧ f ≠ sOf "(" ∧ f ≠ sOf ""
  g : (∃ p, PShort p ∧ B = toks p) ∨ ∃ f r, B = f :: r ∧ NoW f
theorem blk_piece {p : Pc} (h : PShort p) : Blk (textP p) (toks p) := by
  refine ⟨rfl, toks_free p, toks_ne p, ⟨wd p, (fracs p).map shS, rfl, ?_, ?_⟩, .inl ⟨p, h, rfl⟩⟩
  · cases p <;> (show ¬ sOf _ = _; decide +kernel)
  · cases p <;> (show ¬ sOf _ = _; decide +kernel)
theorem blk_sign : Blk (sOf "T") [sOf "T"] := ⟨by decide +kernel, by decide +kernel, by simp, ⟨_, [], rfl, by decide +kernel, by decide +kernel⟩, .inr ⟨_, [], rfl, noW_of (by simp)⟩⟩
theorem Blk.split {x : Str} {B : List Str} (b : Blk x B) : Txt.split x (sOf " ") = B := by
  have h := split_words b.n fun t ht => (b.f t ht).1
  rw [← b.j] at h
  exact h
theorem Blk.words {x : Str} {B : List Str} (b : Blk x B) : wordsF (Txt.split x (sOf " ")) = B := by
  rw [b.split]
  exact wordsF_free B fun t ht => (b.f t ht).2
theorem Blk.semi {x : Str} {B : List Str} (b : Blk x B) : wordsF (Txt.split (x ++ sOf ";") (sOf " ")) = B ++ [sOf ";"] := by
  have hb := List.dropLast_concat_getLast b.n
  generalize B.getLast b.n = w at hb
  have e : x ++ sOf ";" = Txt.join (sOf " ") (B.dropLast ++ [w ++ sOf ";"]) := by
    rw [b.j]
    conv => lhs; rw [← hb]
    by_cases z : B.dropLast = []
    · rw [z, joinT, joinT]; rfl
    · rw [jsnoc _ _ _ z, jsnoc _ _ _ z]
      apply ext
      simp only [cl_app, List.append_assoc]
  have hf : ∀ t ∈ B.dropLast ++ [w ++ sOf ";"], 32 ∉ cl t := fun t ht => by
    rcases List.mem_append.mp ht with m | m
    · exact (b.f t (List.mem_of_mem_take (by rw [List.dropLast_eq_take] at m; exact m))).1
    · rw [List.mem_singleton.mp m, cl_app]
      intro m
      rcases List.mem_append.mp m with m | m
      · exact (b.f w (by rw [← hb]; simp)).1 m
      · exact absurd m (by decide +kernel)
  rw [e, split_words (by simp) hf, wordsF_app, wordsF_free _ fun t m => (b.f t (List.mem_of_mem_take (by rw [List.dropLast_eq_take] at m; exact m))).2, wordsF_cons, show sOf ";" = (⟨#[59]⟩ : Str) by decide +kernel, wordF_semi]
  conv => rhs; rw [← hb]
  show B.dropLast ++ ([w, sOf ";"] ++ []) = _
  rw [show sOf ";" = (⟨#[59]⟩ : Str) by decide +kernel]
  simp
theorem Blk.hd {x : Str} {B : List Str} (b : Blk x B) : Hd x B := by
  have hb := List.dropLast_concat_getLast b.n
  generalize B.getLast b.n = w at hb
  have h := hd_all (ws := B.dropLast) (w := w) (fun t ht => (b.f t (by rw [← hb]; exact ht)).1) (wordF_no (b.f w (by rw [← hb]; simp)).2)
  rw [wordsF_free _ fun t m => (b.f t (List.mem_of_mem_take (by rw [List.dropLast_eq_take] at m; exact m))).2, hb, ← b.j] at h
  exact h
end Lib
namespace Lib
open PySem L2 Fr Op Tx
theorem two_n : sOf "2" ≠ sOf "gap" ∧ sOf "2" ≠ sOf "glass" ∧ sOf "2" ≠ sOf "stop" := by decide +kernel
theorem one_n : sOf "1" ≠ sOf "gap" ∧ sOf "1" ≠ sOf "glass" ∧ sOf "1" ≠ sOf "stop" := by decide +kernel
theorem blk_parts {x : Str} {B : List Str} (b : Blk x B) {ws : List Str} {i : Nat} (tk : TkAt ws i B) {z : Str} (hz : ws[i + B.length]? = some z) (nz : z ≠ sOf ";") :
    ∀ ps j, pParts (pPart ws 4) ws (ws.length + 1) i = some (ps, j) → j = i + B.length := fun ps j e => by
  rcases b.g with ⟨p, sp, rfl⟩ | ⟨f, r, rfl, nf⟩
  · have hg : pPart ws 4 i = some (pPc 3 p, i + (toks p).length) := pPart_good 4 (pPc 3 p) _ sp tk
    rw [pParts, hg] at e
    dsimp only at e
    rw [hz, if_neg (fun z => nz (Option.some.inj z))] at e
    cases e
    rfl
  · rw [pParts_no (pPart_word tk.head nf.a nf.b nf.c nf.t)] at e
    cases e
theorem shut_no {x : Str} {B : List Str} (b : Blk x B) {z : Str} (nz : z ≠ sOf ";") (nb : z ≠ sOf ")") {ws : List Str} {i : Nat} (tk : TkAt ws i ([sOf "2", sOf "times", sOf "("] ++ (B ++ [z]))) : pPart ws 5 i = none := by
  refine rnd_shut tk.head two_n fun ps j e => ?_
  have t3 : TkAt ws (i + 1 + 1 + 1) (B ++ [z]) := tk.right
  have hz := t3.right.head
  rw [blk_parts b t3.left hz nz ps j e, hz]
  exact fun h => nb (Option.some.inj h)
theorem toksB_jn (k : Nat) : ∀ ps : List Pc, toksB ps = jn (toksP (k + 1)) (ps.map (pPc k))
  | [] => rfl
  | [p] => rfl
  | p :: q :: r => by
    show toks p ++ sOf ";" :: toksB (q :: r) = toks p ++ sOf ";" :: jn (toksP (k + 1)) ((q :: r).map (pPc k))
    rw [toksB_jn k (q :: r)]
section
variable {x : Str} {B : List Str} {pre post : List Pc}
theorem rd_first {a : Str} (wp : ∀ p ∈ pre, PShort p) (c y : Str) {w1 w2 : Str} {A : List Str} (ha : wordsF (Txt.split a (sOf " ")) = w1 :: w2 :: A) (n : NoW w1) (e : c = a ++ sOf " " ++ y) : parseB (Txt.join (sOf "; ") (pre.map textP ++ c :: post.map textP)) = none := by
  rw [e]
  exact hd_bad wp (hd_more ha (hd_any y)) (by simp) fun ws i tk => noW_no n tk.head
theorem rd_times {a : Str} (wp : ∀ p ∈ pre, PShort p) (c y : Str) {w2 : Str} {A : List Str} (ha : wordsF (Txt.split a (sOf " ")) = sOf "2" :: w2 :: A) (n : w2 ≠ sOf "times") (e : c = a ++ sOf " " ++ y) : parseB (Txt.join (sOf "; ") (pre.map textP ++ c :: post.map textP)) = none := by
  rw [e]
  refine hd_bad wp (hd_more ha (hd_any y)) (by simp) fun ws i tk => rnd_times tk.head two_n ?_
  rw [tk.tail.head]
  exact fun h => n (Option.some.inj h)
theorem rd_open {c : Str} (wp : ∀ p ∈ pre, PShort p) {w3 : Str} {A : List Str} (hd : Hd c (sOf "2" :: sOf "times" :: w3 :: A)) (n : w3 ≠ sOf "(") : parseB (Txt.join (sOf "; ") (pre.map textP ++ c :: post.map textP)) = none := by
  refine hd_bad wp hd (by simp) fun ws i tk => rnd_open tk.head two_n ?_
  rw [tk.tail.tail.head]
  exact fun h => n (Option.some.inj h)
theorem rd_in {c : Str} (wp : ∀ p ∈ pre, PShort p) {w1 w4 : Str} {A : List Str} (n1 : w1 ≠ sOf "gap" ∧ w1 ≠ sOf "glass" ∧ w1 ≠ sOf "stop") (hd : Hd c (w1 :: sOf "times" :: sOf "(" :: w4 :: A)) (n : NoW w4) : parseB (Txt.join (sOf "; ") (pre.map textP ++ c :: post.map textP)) = none :=
  hd_bad wp hd (by simp) fun _ _ tk => rnd_in tk.head n1 (pParts_no (pPart_word tk.tail.tail.tail.head n.a n.b n.c n.t))
theorem rd_shut (b : Blk x B) (wp : ∀ p ∈ pre, PShort p) {c z : Str} {A : List Str} (hd : Hd c ([sOf "2", sOf "times", sOf "("] ++ (B ++ (z :: A)))) (nz : z ≠ sOf ";") (nb : z ≠ sOf ")") : parseB (Txt.join (sOf "; ") (pre.map textP ++ c :: post.map textP)) = none := by
  refine hd_bad wp hd (by simp) fun ws i tk => shut_no b nz nb (z := z) ?_
  rw [show [sOf "2", sOf "times", sOf "("] ++ (B ++ (z :: A)) = ([sOf "2", sOf "times", sOf "("] ++ (B ++ [z])) ++ A by simp] at tk
  exact tk.left
theorem rd_twice (b : Blk x B) (wp : ∀ p ∈ pre, PShort p) {c : Str} (hd : Hd c ([sOf "2", sOf "times", sOf "("] ++ (B ++ [sOf ")", sOf ")"]))) : parseB (Txt.join (sOf "; ") (pre.map textP ++ c :: post.map textP)) = none := by
  refine hd_no wp hd (by simp) fun ws i tk => ?_
  rcases b.g with ⟨p, sp, rfl⟩ | ⟨f, r, rfl, nf⟩
  · have tk1 : TkAt ws i (toksP 5 (pRd 4 2 [pPc 3 p])) := by
      show TkAt ws i (dgS 2 :: sOf "times" :: sOf "(" :: (toks p ++ [sOf ")"]))
      rw [show dgS 2 = sOf "2" by decide +kernel]
      rw [show [sOf "2", sOf "times", sOf "("] ++ (toks p ++ [sOf ")", sOf ")"]) = (sOf "2" :: sOf "times" :: sOf "(" :: (toks p ++ [sOf ")"])) ++ [sOf ")"] by simp] at tk
      exact tk.left
    have hg := pPart_good (ws := ws) 5 (pRd 4 2 [pPc 3 p]) i ⟨by decide, by simp, by simp, fun q hq => by rw [List.mem_singleton.mp hq]; exact sp⟩ tk1
    have hl : (toksP 5 (pRd 4 2 [pPc 3 p])).length = (toks p).length + 4 := by
      show (dgS 2 :: sOf "times" :: sOf "(" :: (toks p ++ [sOf ")"])).length = _
      simp
    rw [hl] at hg
    have hz : ws[i + ((toks p).length + 4)]? = some (sOf ")") := by
      refine tk ((toks p).length + 4) _ ?_
      rw [List.getElem?_append_right (by simp only [List.length_cons, List.length_nil]; omega), List.getElem?_append_right (by simp only [List.length_cons, List.length_nil]; omega)]
      rw [show (toks p).length + 4 - [sOf "2", sOf "times", sOf "("].length - (toks p).length = 1 by simp only [List.length_cons, List.length_nil]; omega]
      rfl
    exact no_end hg (by rw [hz]; decide +kernel) (by have := lt_of_get hz; omega)
  · exact no_part (rnd_in tk.head two_n (pParts_no (pPart_word (w := f) (tk 3 f (by simp)) nf.a nf.b nf.c nf.t)))
theorem rd_semi (b : Blk x B) (wp : ∀ p ∈ pre, PShort p) {c : Str} (hd : Hd c ([sOf "2", sOf "times", sOf "("] ++ (B ++ [sOf ";", sOf ")"]))) : parseB (Txt.join (sOf "; ") (pre.map textP ++ c :: post.map textP)) = none := by
  refine hd_bad wp hd (by simp) fun ws i tk => rnd_in tk.head two_n ?_
  have t3 : TkAt ws (i + 1 + 1 + 1) (B ++ [sOf ";", sOf ")"]) := tk.right
  rcases b.g with ⟨p, sp, rfl⟩ | ⟨f, r, rfl, nf⟩
  · have hg : pPart ws 4 (i + 1 + 1 + 1) = some (pPc 3 p, i + 1 + 1 + 1 + (toks p).length) := pPart_good 4 (pPc 3 p) _ sp t3.left
    have nw : NoW (sOf ")") := noW_of (by simp)
    exact pParts_no2 hg t3.right.head fun n => pParts_no (pPart_word t3.right.tail.head nw.a nw.b nw.c nw.t)
  · exact pParts_no (pPart_word (w := f) t3.head nf.a nf.b nf.c nf.t)
theorem rd_one (wp : ∀ p ∈ pre, PShort p) : parseB (Txt.join (sOf "; ") (pre.map textP ++ sOf "2 times ( 1 )" :: post.map textP)) = none := by
  have hd : Hd (sOf "2 times ( 1 )") ([sOf "2", sOf "times", sOf "(", sOf "1"] ++ [sOf ")"]) := by
    rw [show sOf "2 times ( 1 )" = sOf "2 times ( 1" ++ sOf " " ++ sOf ")" by decide +kernel]
    exact hd_more (by decide +kernel) (hd_one (by decide +kernel) (wordF_no (by decide +kernel)))
  refine hd_bad wp hd (by simp) fun ws i tk => rnd_in tk.head two_n (pParts_no ?_)
  rw [pPart_rnd tk.tail.tail.tail.head one_n.1 one_n.2.1 one_n.2.2]
  unfold pRnd
  cases timesOf (sOf "1") with
  | none => rfl
  | some k =>
    dsimp only
    rw [if_neg (by decide), tk.tail.tail.tail.tail.head, if_neg (by decide +kernel)]
theorem rd_deep {y : Str} (wp : ∀ p ∈ pre, PShort p) : parseB (Txt.join (sOf "; ") (pre.map textP ++ (sOf "1 times ( 1 times ( 1 times ( 1 times ( 1 times (" ++ sOf " " ++ y) :: post.map textP)) = none := by
  have hd : Hd (sOf "1 times ( 1 times ( 1 times ( 1 times ( 1 times (" ++ sOf " " ++ y) _ := hd_more (A := [sOf "1", sOf "times", sOf "(", sOf "1", sOf "times", sOf "(", sOf "1", sOf "times", sOf "(", sOf "1", sOf "times", sOf "(", sOf "1", sOf "times", sOf "("]) (by decide +kernel) (hd_any y)
  refine hd_bad wp hd (by simp) fun ws i tk => ?_
  have t0 := tk.head
  have t1 := tk 3 _ rfl
  have t2 := tk 6 _ rfl
  have t3 := tk 9 _ rfl
  have t4 := tk 12 _ rfl
  obtain ⟨a, b, c⟩ := one_n
  rw [pPart_rnd t0 a b c]
  refine pRnd_in (pParts_no ?_)
  rw [pPart_rnd t1 a b c]
  refine pRnd_in (pParts_no ?_)
  rw [pPart_rnd t2 a b c]
  refine pRnd_in (pParts_no ?_)
  rw [pPart_rnd t3 a b c]
  refine pRnd_in (pParts_no ?_)
  rw [pPart_rnd t4 a b c]
  exact pRnd_deep
theorem rd_never (b : Blk x B) (wp : ∀ p ∈ pre, PShort p) (wq : ∀ p ∈ post, PShort p) : parseB (Txt.join (sOf "; ") (pre.map textP ++ (sOf "2 times (" ++ sOf " " ++ x) :: post.map textP)) = none := by
  rcases b.g with ⟨p, sp, e⟩ | ⟨f, r, e, nf⟩
  · have ex : x = textP p := by rw [b.j, e]; rfl
    have hw : wordsF (Txt.split (Txt.join (sOf "; ") ((sOf "2 times (" ++ sOf " " ++ x) :: post.map textP)) (sOf " ")) = [sOf "2", sOf "times", sOf "("] ++ toksB (p :: post) := by
      rw [join_ahead, split_blank, wordsF_app, ex]
      have h := split_text (ps := p :: post) (by simp)
      rw [show Txt.join (sOf "; ") (textP p :: post.map textP) = textB (p :: post) from rfl, show Txt.split (textB (p :: post)) (sOf " ") = toksS (p :: post) from h, words_toks _ (by simp)]
      rw [show wordsF (Txt.split (sOf "2 times (") (sOf " ")) = [sOf "2", sOf "times", sOf "("] by decide +kernel]
    have hw2 : wordsF (Txt.split (Txt.join (sOf "; ") (pre.map textP ++ (sOf "2 times (" ++ sOf " " ++ x) :: post.map textP)) (sOf " ")) = preT pre ++ ([sOf "2", sOf "times", sOf "("] ++ toksB (p :: post)) := by rw [join_pre, words_pre, hw]
    refine parse_pre (pre := pre) (rest := [sOf "2", sOf "times", sOf "("] ++ toksB (p :: post)) (pre_ne hw2 (by simp)) hw2 wp ?_
    have tk : TkAt (preT pre ++ (([sOf "2", sOf "times", sOf "("] ++ toksB (p :: post)) ++ [])) (preT pre).length ([sOf "2", sOf "times", sOf "("] ++ toksB (p :: post)) := tk_of
    rw [List.append_nil] at tk
    have hl : (preT pre ++ ([sOf "2", sOf "times", sOf "("] ++ toksB (p :: post))).length = (preT pre).length + 1 + 1 + 1 + (toksB (p :: post)).length := by
      rw [List.length_append, List.length_append]
      simp only [List.length_cons, List.length_nil]
      omega
    generalize preT pre ++ ([sOf "2", sOf "times", sOf "("] ++ toksB (p :: post)) = ws at tk hl ⊢
    refine no_part (rnd_shut tk.head two_n fun ps j ej => ?_)
    have t3 : TkAt ws ((preT pre).length + 1 + 1 + 1) (jn (toksP 4) ((p :: post).map (pPc 3))) := by
      rw [← toksB_jn 3]
      exact tk.right
    have lj : (jn (toksP 4) ((p :: post).map (pPc 3))).length = (toksB (p :: post)).length := by rw [← toksB_jn 3]
    have e0 : ws[(preT pre).length + 1 + 1 + 1 + (jn (toksP 4) ((p :: post).map (pPc 3))).length]? = none := List.getElem?_eq_none (by rw [lj]; omega)
    have lp := jn_ge ((p :: post).map (pPc 3))
    have hle : ((p :: post).map (pPc 3)).length ≤ ws.length + 1 := by
      rw [lj] at lp
      omega
    rw [pParts_good (fun q i => pPart_good 4 q i) ((p :: post).map (pPc 3)) (ws.length + 1) _ (by simp) hle (fun q hq => by
      obtain ⟨a, ma, rfl⟩ := List.mem_map.mp hq
      rcases List.mem_cons.mp ma with rfl | ma
      · exact sp
      · exact wq a ma) t3 (by rw [e0]; simp)] at ej
    cases ej
    rw [e0]
    simp
  · refine rd_in wp (w4 := f) (A := r) two_n ?_ nf
    have h := hd_more (a := sOf "2 times (") (A := [sOf "2", sOf "times", sOf "("]) (by decide +kernel) b.hd
    rw [e] at h
    exact h
theorem rd_many {p : Pc} (sp : PShort p) (wp : ∀ p ∈ pre, PShort p) (wq : ∀ p ∈ post, PShort p) : parseB (Txt.join (sOf "; ") (pre.map textP ++ (sOf "60 times ( " ++ textP p ++ sOf "; " ++ textP p ++ sOf " )") :: post.map textP)) = none := by
  have e : Txt.join (sOf "; ") (pre.map textP ++ (sOf "60 times ( " ++ textP p ++ sOf "; " ++ textP p ++ sOf " )") :: post.map textP) = textL 5 (pre.map (pPc 4) ++ pRd 4 60 [pPc 3 p, pPc 3 p] :: post.map (pPc 4)) := by
    unfold textL
    rw [List.map_append, List.map_cons, List.map_map, List.map_map]
    have e1 : textK 5 (pRd 4 60 [pPc 3 p, pPc 3 p]) = sOf "60 times ( " ++ textP p ++ sOf "; " ++ textP p ++ sOf " )" := by
      show dgS 60 ++ sOf " times ( " ++ Txt.join (sOf "; ") [textP p, textP p] ++ sOf " )" = _
      rw [show sOf "60 times ( " = dgS 60 ++ sOf " times ( " by decide +kernel, jcons _ _ (by simp), show Txt.join (sOf "; ") [textP p] = textP p by rw [joinT]; rfl]
      apply ext
      simp only [cl_app, List.append_assoc]
    rw [e1]
    rfl
  have hw : ∀ q ∈ pre.map (pPc 4) ++ pRd 4 60 [pPc 3 p, pPc 3 p] :: post.map (pPc 4), WP 5 q := fun q hq => by
    rcases List.mem_append.mp hq with m | m
    · obtain ⟨a, ma, rfl⟩ := List.mem_map.mp m
      exact wp a ma
    · rcases List.mem_cons.mp m with rfl | m
      · refine ⟨by decide, by simp, by simp, fun q hq => ?_⟩
        simp only [List.mem_cons, List.not_mem_nil, or_false] at hq
        rcases hq with rfl | rfl <;> exact sp
      · obtain ⟨a, ma, rfl⟩ := List.mem_map.mp m
        exact wq a ma
  rw [e, parse_good hw, if_neg]
  have hc : cntL 5 (pre.map (pPc 4) ++ pRd 4 60 [pPc 3 p, pPc 3 p] :: post.map (pPc 4)) = cntL 5 (pre.map (pPc 4)) + (120 + cntL 5 (post.map (pPc 4))) := by
    unfold cntL
    rw [List.map_append, List.sum_append, List.map_cons, List.sum_cons]
    rfl
  omega
end
end Lib
namespace Lib
open PySem L2 Fr Op Tx PySem.Builtin.Str
def partsOf (t : Str) : List Str := partsBetween t (occurrences t (sOf "T") 0 t.length (t.length + 1)) 1
theorem rep_parts (t x : Str) : Txt.replace t (sOf "T") x = PySem.Str.join x (partsOf t) := by
  have l1 : (sOf "T").length = 1 := by decide +kernel
  unfold Txt.replace partsOf
  rw [l1]
  cases h : (occurrences t (sOf "T") 0 t.length (t.length + 1)) with
  | nil =>
    show t = PySem.Str.join x [strSub t 0 t.length]
    show t = strSub t 0 t.length
    unfold strSub PySem.Str.length
    rw [Array.extract_size]
  | cons i r =>
    rw [if_neg (by simp)]
    exact StrLaws.glued_eq_join _ _
def rndP : List Str := [sOf "61 times ( T )", sOf "05 times ( T )", sOf "100 times ( T )", sOf "-1 times ( T )", sOf "x times ( T )", sOf "2 times ( )",
  sOf "2 times ( T", sOf "2 times T )", sOf "2 times T", sOf "2 times ( T ) )", sOf "2 times (T)", sOf "2 time ( T )",
  sOf "2  times ( T )", sOf "times ( T )", sOf "2 times ( T; )", sOf "2 times ( ; T )", sOf "2 ( T )", sOf "2 times ( T )1",
  sOf "1 times ( 1 times ( 1 times ( 1 times ( 1 times ( T ) ) ) ) )", sOf "2 times ( T ;)", sOf "2 tim ( T )", sOf "2 times [ T ]", sOf "2 times ( 1 )",
  sOf "2 times ( T  )", sOf "2 times () T", sOf "+2 times ( T )", sOf "2.0 times ( T )", sOf "60 times ( T; T )"]
def rndQ : List (List Str) := [[sOf "61 times ( ", sOf " )"], [sOf "05 times ( ", sOf " )"], [sOf "100 times ( ", sOf " )"], [sOf "-1 times ( ", sOf " )"], [sOf "x times ( ", sOf " )"], [sOf "2 times ( )"],
  [sOf "2 times ( ", sOf ""], [sOf "2 times ", sOf " )"], [sOf "2 times ", sOf ""], [sOf "2 times ( ", sOf " ) )"], [sOf "2 times (", sOf ")"], [sOf "2 time ( ", sOf " )"],
  [sOf "2  times ( ", sOf " )"], [sOf "times ( ", sOf " )"], [sOf "2 times ( ", sOf "; )"], [sOf "2 times ( ; ", sOf " )"], [sOf "2 ( ", sOf " )"], [sOf "2 times ( ", sOf " )1"],
  [sOf "1 times ( 1 times ( 1 times ( 1 times ( 1 times ( ", sOf " ) ) ) ) )"], [sOf "2 times ( ", sOf " ;)"], [sOf "2 tim ( ", sOf " )"], [sOf "2 times [ ", sOf " ]"], [sOf "2 times ( 1 )"],
  [sOf "2 times ( ", sOf "  )"], [sOf "2 times () ", sOf ""], [sOf "+2 times ( ", sOf " )"], [sOf "2.0 times ( ", sOf " )"], [sOf "60 times ( ", sOf "; ", sOf " )"]]
theorem rnd_parts : rndP.map partsOf = rndQ := by decide +kernel
theorem rnd_self : rndQ.map (PySem.Str.join (sOf "T")) = rndP := by decide +kernel
theorem rw3 {a0 a x b : Str} (h : a0 = a ++ sOf " ") : a0 ++ x ++ b = a ++ sOf " " ++ (x ++ b) := by
  rw [h]
  apply ext
  simp only [cl_app, List.append_assoc]
theorem rw3e {a0 a x : Str} (h : a0 = a ++ sOf " ") : a0 ++ x ++ sOf "" = a ++ sOf " " ++ x := by
  rw [h]
  apply ext
  simp only [cl_app, List.append_assoc]
  rw [show cl (sOf "") = [] by decide +kernel, List.append_nil]
theorem rw4 {b0 b x : Str} (h : b0 = sOf " " ++ b) : x ++ b0 = x ++ sOf " " ++ b := by
  rw [h]
  apply ext
  simp only [cl_app, List.append_assoc]
theorem hd_lit {w : Str} (h : 32 ∉ cl w ∧ wordF w = [w]) : Hd w [w] := hd_one h.1 h.2
section
variable {x : Str} {B : List Str} {pre post : List Pc}
theorem par_hd (b : Blk x B) : ∃ w, Hd (sOf "(" ++ x ++ sOf ")") [w] ∧ w ≠ sOf "(" := by
  obtain ⟨f, r, e, n1, n2⟩ := b.h
  have ff := b.f f (by rw [e]; simp)
  have c1 : cl (sOf "(") = [40] := by decide +kernel
  have c2 : cl (sOf ")") = [41] := by decide +kernel
  have nf : cl f ≠ [] := fun z => n2 (ext (by rw [z]; decide +kernel))
  cases r with
  | nil =>
    have ex : x = f := by rw [b.j, e, joinT]; rfl
    refine ⟨sOf "(" ++ f ++ sOf ")", ?_, fun z => ?_⟩
    · rw [ex]
      refine hd_one ?_ (wordF_no ?_)
      · rw [cl_app, cl_app, c1, c2]; simp [ff.1]
      · rw [cl_app, cl_app, c1, c2]; simp [ff.2]
    · have := congrArg cl z
      rw [cl_app, cl_app, c1, c2] at this
      simp at this
  | cons g r =>
    refine ⟨sOf "(" ++ f, ?_, fun z => ?_⟩
    · have ex : sOf "(" ++ x ++ sOf ")" = (sOf "(" ++ f) ++ sOf " " ++ (Txt.join (sOf " ") (g :: r) ++ sOf ")") := by
        rw [b.j, e, jcons _ _ (by simp)]
        apply ext
        simp only [cl_app, List.append_assoc]
      rw [ex]
      have f3 : 32 ∉ cl (sOf "(" ++ f) := by rw [cl_app, c1]; simp [ff.1]
      have hs : wordsF (Txt.split (sOf "(" ++ f) (sOf " ")) = [sOf "(" ++ f] := by
        have h := split_words (ws := [sOf "(" ++ f]) (by simp) (fun t ht => by rw [List.mem_singleton.mp ht]; exact f3)
        have hj : Txt.join (sOf " ") [sOf "(" ++ f] = sOf "(" ++ f := by rw [joinT]; rfl
        rw [hj] at h
        rw [h]
        exact wordsF_free _ fun t ht => by rw [List.mem_singleton.mp ht, cl_app, c1]; simp [ff.2]
      exact hd_more hs (hd_any _)
    · have := congrArg cl z
      rw [cl_app, c1] at this
      simp at this
      exact nf (by show f.cps.toList = []; rw [this])
theorem rounds_no (b : Blk x B) (wp : ∀ p ∈ pre, PShort p) (wq : ∀ p ∈ post, PShort p) : ∀ q ∈ rndQ, parseB (Txt.join (sOf "; ") (pre.map textP ++ PySem.Str.join x q :: post.map textP)) = none := fun q hq => by
  simp only [rndQ, List.mem_cons, List.not_mem_nil, or_false] at hq
  have in2 : wordsF (Txt.split (sOf "2 times (") (sOf " ")) = [sOf "2", sOf "times", sOf "("] := by decide +kernel
  have tm2 : wordsF (Txt.split (sOf "2 times") (sOf " ")) = [sOf "2", sOf "times"] := by decide +kernel
  have o2 : sOf "2 times ( " = sOf "2 times (" ++ sOf " " := by decide +kernel
  rcases hq with rfl | rfl | rfl | rfl | rfl | rfl | rfl | rfl | rfl | rfl | rfl | rfl | rfl | rfl | rfl | rfl | rfl | rfl | rfl | rfl | rfl | rfl | rfl | rfl | rfl | rfl | rfl | rfl
  · exact rd_first wp _ (x ++ sOf " )") (a := sOf "61 times (") (w1 := sOf "61") (w2 := sOf "times") (A := [sOf "("]) (by decide +kernel) (noW_of (by simp)) (rw3 (by decide +kernel))
  · exact rd_first wp _ (x ++ sOf " )") (a := sOf "05 times (") (w1 := sOf "05") (w2 := sOf "times") (A := [sOf "("]) (by decide +kernel) (noW_of (by simp)) (rw3 (by decide +kernel))
  · exact rd_first wp _ (x ++ sOf " )") (a := sOf "100 times (") (w1 := sOf "100") (w2 := sOf "times") (A := [sOf "("]) (by decide +kernel) (noW_of (by simp)) (rw3 (by decide +kernel))
  · exact rd_first wp _ (x ++ sOf " )") (a := sOf "-1 times (") (w1 := sOf "-1") (w2 := sOf "times") (A := [sOf "("]) (by decide +kernel) (noW_of (by simp)) (rw3 (by decide +kernel))
  · exact rd_first wp _ (x ++ sOf " )") (a := sOf "x times (") (w1 := sOf "x") (w2 := sOf "times") (A := [sOf "("]) (by decide +kernel) (noW_of (by simp)) (rw3 (by decide +kernel))
  · -- 5
    show parseB (Txt.join (sOf "; ") (pre.map textP ++ sOf "2 times ( )" :: post.map textP)) = none
    rw [show sOf "2 times ( )" = sOf "2 times (" ++ sOf " " ++ sOf ")" by decide +kernel]
    exact rd_in wp (w4 := sOf ")") (A := []) two_n (hd_more in2 (hd_lit (by decide +kernel))) (noW_of (by simp))
  · -- 6
    show parseB (Txt.join (sOf "; ") (pre.map textP ++ (sOf "2 times ( " ++ x ++ sOf "") :: post.map textP)) = none
    rw [rw3e o2]
    exact rd_never b wp wq
  · -- 7
    show parseB (Txt.join (sOf "; ") (pre.map textP ++ (sOf "2 times " ++ x ++ sOf " )") :: post.map textP)) = none
    rw [rw3 (show sOf "2 times " = sOf "2 times" ++ sOf " " by decide +kernel), rw4 (show sOf " )" = sOf " " ++ sOf ")" by decide +kernel)]
    obtain ⟨f, r, e, n1, n2⟩ := b.h
    have h := hd_more tm2 (hd_more b.words (hd_lit (w := sOf ")") (by decide +kernel)))
    rw [e] at h
    exact rd_open wp (w3 := f) (A := r ++ [sOf ")"]) h n1
  · -- 8
    show parseB (Txt.join (sOf "; ") (pre.map textP ++ (sOf "2 times " ++ x ++ sOf "") :: post.map textP)) = none
    rw [rw3e (show sOf "2 times " = sOf "2 times" ++ sOf " " by decide +kernel)]
    obtain ⟨f, r, e, n1, n2⟩ := b.h
    have h := hd_more tm2 b.hd
    rw [e] at h
    exact rd_open wp (w3 := f) (A := r) h n1
  · -- 9
    show parseB (Txt.join (sOf "; ") (pre.map textP ++ (sOf "2 times ( " ++ x ++ sOf " ) )") :: post.map textP)) = none
    rw [rw3 o2, rw4 (show sOf " ) )" = sOf " " ++ (sOf ")" ++ sOf " " ++ sOf ")") by decide +kernel)]
    exact rd_twice b wp (hd_more in2 (hd_more b.words (hd_more (A := [sOf ")"]) (by decide +kernel) (hd_lit (w := sOf ")") (by decide +kernel)))))
  · -- 10
    show parseB (Txt.join (sOf "; ") (pre.map textP ++ (sOf "2 times (" ++ x ++ sOf ")") :: post.map textP)) = none
    have e : sOf "2 times (" ++ x ++ sOf ")" = sOf "2 times" ++ sOf " " ++ (sOf "(" ++ x ++ sOf ")") := by
      rw [show sOf "2 times (" = sOf "2 times" ++ sOf " " ++ sOf "(" by decide +kernel]
      apply ext
      simp only [cl_app, List.append_assoc]
    rw [e]
    obtain ⟨w, hw, nw⟩ := par_hd b
    exact rd_open wp (w3 := w) (A := []) (hd_more tm2 hw) nw
  · exact rd_times wp _ (x ++ sOf " )") (a := sOf "2 time (") (w2 := sOf "time") (A := [sOf "("]) (by decide +kernel) (by decide +kernel) (rw3 (by decide +kernel))
  · exact rd_times wp _ (x ++ sOf " )") (a := sOf "2  times (") (w2 := sOf "") (A := [sOf "times", sOf "("]) (by decide +kernel) (by decide +kernel) (rw3 (by decide +kernel))
  · exact rd_first wp _ (x ++ sOf " )") (a := sOf "times (") (w1 := sOf "times") (w2 := sOf "(") (A := []) (by decide +kernel) (noW_of (by simp)) (rw3 (by decide +kernel))
  · -- 14
    show parseB (Txt.join (sOf "; ") (pre.map textP ++ (sOf "2 times ( " ++ x ++ sOf "; )") :: post.map textP)) = none
    have e : x ++ sOf "; )" = (x ++ sOf ";") ++ sOf " " ++ sOf ")" := by
      rw [show sOf "; )" = sOf ";" ++ sOf " " ++ sOf ")" by decide +kernel]
      apply ext
      simp only [cl_app, List.append_assoc]
    rw [rw3 o2, e]
    have h := hd_more in2 (hd_more b.semi (hd_lit (w := sOf ")") (by decide +kernel)))
    rw [show (B ++ [sOf ";"]) ++ [sOf ")"] = B ++ [sOf ";", sOf ")"] by simp] at h
    exact rd_semi b wp h
  · -- 15
    show parseB (Txt.join (sOf "; ") (pre.map textP ++ (sOf "2 times ( ; " ++ x ++ sOf " )") :: post.map textP)) = none
    rw [rw3 (show sOf "2 times ( ; " = sOf "2 times ( ;" ++ sOf " " by decide +kernel)]
    exact rd_in wp (w4 := sOf "") (A := [sOf ";"]) two_n (hd_more (A := [sOf "2", sOf "times", sOf "(", sOf "", sOf ";"]) (B := []) (by decide +kernel) (hd_any _)) (noW_of (by simp))
  · exact rd_times wp _ (x ++ sOf " )") (a := sOf "2 (") (w2 := sOf "(") (A := []) (by decide +kernel) (by decide +kernel) (rw3 (by decide +kernel))
  · -- 17
    show parseB (Txt.join (sOf "; ") (pre.map textP ++ (sOf "2 times ( " ++ x ++ sOf " )1") :: post.map textP)) = none
    rw [rw3 o2, rw4 (show sOf " )1" = sOf " " ++ sOf ")1" by decide +kernel)]
    exact rd_shut b wp (z := sOf ")1") (A := []) (hd_more in2 (hd_more b.words (hd_lit (by decide +kernel)))) (by decide +kernel) (by decide +kernel)
  · -- 18
    show parseB (Txt.join (sOf "; ") (pre.map textP ++ (sOf "1 times ( 1 times ( 1 times ( 1 times ( 1 times ( " ++ x ++ sOf " ) ) ) ) )") :: post.map textP)) = none
    rw [rw3 (show sOf "1 times ( 1 times ( 1 times ( 1 times ( 1 times ( " = sOf "1 times ( 1 times ( 1 times ( 1 times ( 1 times (" ++ sOf " " by decide +kernel)]
    exact rd_deep wp
  · -- 19
    show parseB (Txt.join (sOf "; ") (pre.map textP ++ (sOf "2 times ( " ++ x ++ sOf " ;)") :: post.map textP)) = none
    rw [rw3 o2, rw4 (show sOf " ;)" = sOf " " ++ sOf ";)" by decide +kernel)]
    exact rd_shut b wp (z := sOf ";)") (A := []) (hd_more in2 (hd_more b.words (hd_lit (by decide +kernel)))) (by decide +kernel) (by decide +kernel)
  · exact rd_times wp _ (x ++ sOf " )") (a := sOf "2 tim (") (w2 := sOf "tim") (A := [sOf "("]) (by decide +kernel) (by decide +kernel) (rw3 (by decide +kernel))
  · -- 21
    show parseB (Txt.join (sOf "; ") (pre.map textP ++ (sOf "2 times [ " ++ x ++ sOf " ]") :: post.map textP)) = none
    rw [rw3 (show sOf "2 times [ " = sOf "2 times [" ++ sOf " " by decide +kernel)]
    exact rd_open wp (w3 := sOf "[") (A := []) (hd_more (A := [sOf "2", sOf "times", sOf "["]) (B := []) (by decide +kernel) (hd_any _)) (by decide +kernel)
  · exact rd_one wp
  · -- 23
    show parseB (Txt.join (sOf "; ") (pre.map textP ++ (sOf "2 times ( " ++ x ++ sOf "  )") :: post.map textP)) = none
    rw [rw3 o2, rw4 (show sOf "  )" = sOf " " ++ (sOf "" ++ sOf " " ++ sOf ")") by decide +kernel)]
    exact rd_shut b wp (z := sOf "") (A := [sOf ")"]) (hd_more in2 (hd_more b.words (hd_more (A := [sOf ""]) (by decide +kernel) (hd_lit (w := sOf ")") (by decide +kernel))))) (by decide +kernel) (by decide +kernel)
  · -- 24
    show parseB (Txt.join (sOf "; ") (pre.map textP ++ (sOf "2 times () " ++ x ++ sOf "") :: post.map textP)) = none
    rw [rw3e (show sOf "2 times () " = sOf "2 times ()" ++ sOf " " by decide +kernel)]
    exact rd_open wp (w3 := sOf "()") (A := []) (hd_more (A := [sOf "2", sOf "times", sOf "()"]) (B := []) (by decide +kernel) (hd_any _)) (by decide +kernel)
  · exact rd_first wp _ (x ++ sOf " )") (a := sOf "+2 times (") (w1 := sOf "+2") (w2 := sOf "times") (A := [sOf "("]) (by decide +kernel) (noW_of (by simp)) (rw3 (by decide +kernel))
  · exact rd_first wp _ (x ++ sOf " )") (a := sOf "2.0 times (") (w1 := sOf "2.0") (w2 := sOf "times") (A := [sOf "("]) (by decide +kernel) (noW_of (by simp)) (rw3 (by decide +kernel))
  · -- 27
    show parseB (Txt.join (sOf "; ") (pre.map textP ++ (sOf "60 times ( " ++ x ++ (sOf "; " ++ x ++ sOf " )")) :: post.map textP)) = none
    rcases b.g with ⟨p, sp, e⟩ | ⟨f, r, e, nf⟩
    · have ex : x = textP p := by rw [b.j, e]; rfl
      rw [ex, show sOf "60 times ( " ++ textP p ++ (sOf "; " ++ textP p ++ sOf " )") = sOf "60 times ( " ++ textP p ++ sOf "; " ++ textP p ++ sOf " )" by apply ext; simp only [cl_app, List.append_assoc]]
      exact rd_many sp wp wq
    · have e2 : sOf "60 times ( " ++ x ++ (sOf "; " ++ x ++ sOf " )") = sOf "60 times (" ++ sOf " " ++ ((x ++ sOf ";") ++ sOf " " ++ (x ++ sOf " )")) := by
        rw [show sOf "60 times ( " = sOf "60 times (" ++ sOf " " by decide +kernel, show sOf "; " = sOf ";" ++ sOf " " by decide +kernel]
        apply ext
        simp only [cl_app, List.append_assoc]
      rw [e2]
      have h := hd_more (a := sOf "60 times (") (A := [sOf "60", sOf "times", sOf "("]) (by decide +kernel) (hd_more b.semi (hd_any (x ++ sOf " )")))
      rw [e] at h
      exact rd_in wp (w1 := sOf "60") (w4 := f) (A := r ++ [sOf ";"]) (by decide +kernel) (by rw [List.append_nil] at h; exact h) nf
end
end Lib
namespace Lib
open PySem L2 Fr Op Tx PySem.Builtin.Str
theorem ix_fromK {n k : Nat} (hk : k ≤ n) : Builtin.Str.strSliceIndices (some (k : Int)) none 1 n = (List.range (n - k)).map (k + ·) := by
  unfold Builtin.Str.strSliceIndices sliceRange
  simp only [show (1 : Int) > 0 by decide, if_true]
  have h1 : max 0 (min (if (k : Int) < 0 then (k : Int) + (n : Int) else (k : Int)) (n : Int)) = (k : Int) := by
    rw [if_neg (by omega)]
    omega
  rw [h1]
  have h2 : (if (k : Int) < (n : Int) then ((n : Int) - (k : Int) + 1 - 1) / 1 else 0).toNat = n - k := by
    split <;> simp <;> omega
  rw [h2]
  apply List.map_congr_left
  intro j _
  omega
theorem pick_toK : ∀ (l : List Nat) (k : Nat), k ≤ l.length → (List.range k).filterMap (fun j => l[j]?) = l.take k
  | l, 0, _ => by simp
  | l, k + 1, h => by
    rw [List.range_succ, List.filterMap_append, pick_toK l k (by omega), List.take_add_one]
    congr 1
theorem pick_fromK (l : List Nat) (k : Nat) (hk : k ≤ l.length) : ((List.range (l.length - k)).map (k + ·)).filterMap (fun j => l[j]?) = l.drop k := by
  rw [List.filterMap_map]
  have e : ((fun j => l[j]?) ∘ fun x => k + x) = fun j => (l.drop k)[j]? := by
    funext j
    rw [List.getElem?_drop]
    rfl
  rw [e, ← List.length_drop, pick_toK _ _ (Nat.le_refl _), List.take_length]
theorem slice_fromK (l : List Nat) (k : Nat) (hk : k ≤ l.length) : Txt.slice ⟨l.toArray⟩ (some (k : Int)) none = ⟨(l.drop k).toArray⟩ := by
  have hl : (PySem.Str.mk l.toArray).length = l.length := by show l.toArray.size = _; simp
  unfold Txt.slice
  rw [hl, ix_fromK hk]
  split
  · rename_i h
    simp at h
    have : k = 0 ∨ l.length = 0 := by omega
    rcases this with rfl | h0
    · simp
    · rw [List.eq_nil_of_length_eq_zero h0]; simp
  · show (⟨(((List.range (l.length - k)).map (k + ·)).filterMap (fun j => l.toArray[j]?)).toArray⟩ : PySem.Str) = _
    rw [← pick_fromK l k hk]
    simp
theorem slice1 (x : Str) (h : 1 ≤ x.length) : cl (Txt.slice x (some 1) none) = (cl x).drop 1 := by
  obtain ⟨⟨l⟩⟩ := x
  have := slice_fromK l 1 h
  rw [show Txt.slice ⟨⟨l⟩⟩ (some 1) none = ⟨(l.drop 1).toArray⟩ from this]
theorem cl_upper (x : Str) : cl (Txt.upper x) = (cl x).flatMap Unicode.upperOf := by
  obtain ⟨a⟩ := x
  unfold Txt.upper placed cl
  have : ∀ (l : List Nat) (f : Nat → Array Nat), List.mapIdx (fun _ c => f c) l = l.map f := fun l f => by
    apply List.ext_getElem?
    intro i
    simp
  simp [List.flatMap, this]
  rfl
theorem up_id : ∀ l : List Nat, (∀ c ∈ l, Unicode.upperOf c = [c]) → l.flatMap Unicode.upperOf = l
  | [], _ => rfl
  | c :: r, h => by
    rw [List.flatMap_cons, h c (by simp), up_id r fun d hd => h d (List.mem_cons_of_mem _ hd)]
    rfl
theorem up_sign : ∀ c ∈ [45, 47, 32, 48, 49, 50, 51, 52, 53, 54, 55, 56, 57], Unicode.upperOf c = [c] := by decide +kernel
theorem up_sh (q : Rat) : ∀ c ∈ cl (shS q), Unicode.upperOf c = [c] := fun c hc => by
  have := sh_signs q c (by rw [← cl_shS]; exact hc)
  refine up_sign c ?_
  simp only [List.mem_cons, List.not_mem_nil, or_false]
  omega
theorem text_word (p : Pc) : textP p = wd p ++ sOf " " ++ Txt.join (sOf " ") ((fracs p).map shS) := by
  cases p <;> exact jcons _ _ (by simp [fracs])
theorem word_text (x : Str) (p : Pc) : Txt.join (sOf " ") (x :: (fracs p).map shS) = x ++ sOf " " ++ Txt.join (sOf " ") ((fracs p).map shS) := by
  cases p <;> exact jcons _ _ (by simp [fracs])
theorem up_rest (p : Pc) : ∀ c ∈ cl (Txt.join (sOf " ") ((fracs p).map shS)), Unicode.upperOf c = [c] := fun c hc => by
  have one : ∀ q : Rat, Txt.join (sOf " ") [shS q] = shS q := fun q => by rw [joinT]; rfl
  cases p with
  | gap q =>
    rw [show (fracs (.gap q)).map shS = [shS q] from rfl, one] at hc
    exact up_sh q c hc
  | glass q =>
    rw [show (fracs (.glass q)).map shS = [shS q] from rfl, one] at hc
    exact up_sh q c hc
  | stop lo hi =>
    rw [show (fracs (.stop lo hi)).map shS = [shS lo, shS hi] from rfl, jcons _ _ (by simp), one, cl_app, cl_app] at hc
    rcases List.mem_append.mp hc with m | m
    · rcases List.mem_append.mp m with m | m
      · exact up_sh lo c m
      · rw [show cl (sOf " ") = [32] by decide +kernel] at m
        rw [List.mem_singleton.mp m]
        exact up_sign 32 (by simp)
    · exact up_sh hi c m
def upW : Pc → Str
  | .gap _ => sOf "GAP"
  | .glass _ => sOf "GLASS"
  | .stop _ _ => sOf "STOP"
def ofW : Pc → Str
  | .gap _ => sOf "ap"
  | .glass _ => sOf "lass"
  | .stop _ _ => sOf "top"
theorem upper_text (p : Pc) : Txt.upper (textP p) = Txt.join (sOf " ") (upW p :: (fracs p).map shS) := by
  rw [word_text, text_word]
  apply ext
  rw [cl_upper, cl_app, cl_app, cl_app, cl_app, List.flatMap_append, List.flatMap_append, up_id _ (up_rest p), up_id (cl (sOf " ")) (by decide +kernel)]
  congr 2
  cases p <;> (show (cl (sOf _)).flatMap _ = cl (sOf _); decide +kernel)
theorem slice_text (p : Pc) : Txt.slice (textP p) (some 1) none = Txt.join (sOf " ") (ofW p :: (fracs p).map shS) := by
  have hl : ∀ p : Pc, 1 ≤ (cl (wd p)).length ∧ (cl (wd p)).drop 1 = cl (ofW p) := fun p => by
    cases p
    · show 1 ≤ (cl (sOf "gap")).length ∧ (cl (sOf "gap")).drop 1 = cl (sOf "ap"); decide +kernel
    · show 1 ≤ (cl (sOf "glass")).length ∧ (cl (sOf "glass")).drop 1 = cl (sOf "lass"); decide +kernel
    · show 1 ≤ (cl (sOf "stop")).length ∧ (cl (sOf "stop")).drop 1 = cl (sOf "top"); decide +kernel
  have h1 : 1 ≤ (textP p).length := by
    show 1 ≤ (cl (textP p)).length
    rw [text_word, cl_app, cl_app, List.length_append, List.length_append]
    have := (hl p).1
    omega
  apply ext
  rw [slice1 _ h1, word_text, text_word, cl_app, cl_app, cl_app, cl_app, List.append_assoc, List.drop_append_of_le_length (hl p).1, (hl p).2, List.append_assoc]
theorem s_text (p : Pc) : wd p ++ sOf "s " ++ Txt.join (sOf " ") ((fracs p).map shS) = Txt.join (sOf " ") ((wd p ++ sOf "s") :: (fracs p).map shS) := by
  rw [word_text, show sOf "s " = sOf "s" ++ sOf " " by decide +kernel]
  apply ext
  simp only [cl_app, List.append_assoc]
theorem sub_blank (x : Str) (i : Nat) : subAt x (sOf " ") i = true ↔ (cl x)[i]? = some 32 := by
  have e : (sOf " ").cps = #[32] := by decide +kernel
  have l : (sOf " ").length = 1 := by decide +kernel
  unfold subAt
  rw [l, e, beq_iff_eq, ← Array.toList_inj]
  show (x.cps.extract i (i + 1)).toList = [32] ↔ x.cps.toList[i]? = some 32
  rw [Array.toList_extract, List.extract_eq_drop_take, Nat.add_sub_cancel_left]
  generalize x.cps.toList = l
  rw [← List.head?_drop]
  cases l.drop i with
  | nil => simp
  | cons a r => simp
theorem rep1_first {w J : Str} (h : 32 ∉ cl w) : rep1 (w ++ sOf " " ++ J) (sOf " ") (sOf "") = w ++ J := by
  have l1 : (sOf " ").length = 1 := by decide +kernel
  have c1 : cl (sOf " ") = [32] := by decide +kernel
  have ex : cl (w ++ sOf " " ++ J) = cl w ++ 32 :: cl J := by rw [cl_app, cl_app, c1, List.append_assoc]; rfl
  have hx : (w ++ sOf " " ++ J).length = (cl w).length + (1 + (cl J).length) := by
    show (cl (w ++ sOf " " ++ J)).length = _
    rw [ex, List.length_append, List.length_cons]
    omega
  have hat : ∀ k, StrLaws.At (w ++ sOf " " ++ J) (sOf " ") (w ++ sOf " " ++ J).length k ↔ (cl w ++ 32 :: cl J)[k]? = some 32 := fun k => by
    unfold StrLaws.At
    rw [sub_blank, ex, l1]
    constructor
    · exact fun h => h.2
    · intro h
      refine ⟨?_, h⟩
      have := lt_of_get h
      rw [List.length_append, List.length_cons] at this
      omega
  have here : (cl w ++ 32 :: cl J)[(cl w).length]? = some 32 := by
    rw [List.getElem?_append_right (Nat.le_refl _), Nat.sub_self]
    rfl
  have ho : occurrences (w ++ sOf " " ++ J) (sOf " ") 0 (w ++ sOf " " ++ J).length 1 = [(cl w).length] := by
    rcases StrLaws.occ_head (w ++ sOf " " ++ J) (sOf " ") 1 (Nat.le_refl _) with ⟨_, hn⟩ | ⟨i, r, e, ha, hn⟩
    · exact absurd ((hat _).mpr here) (hn _)
    · have hl := StrLaws.occ_length_le (w ++ sOf " " ++ J) (sOf " ") 0 (w ++ sOf " " ++ J).length 1
      rw [e, List.length_cons] at hl
      have hr : r = [] := List.eq_nil_of_length_eq_zero (by omega)
      have ha := (hat i).mp ha
      have h1 : (cl w).length ≤ i := Nat.le_of_not_lt fun lt => by
        rw [List.getElem?_append_left lt] at ha
        exact h (List.mem_of_getElem? ha)
      have h2 : i ≤ (cl w).length := Nat.le_of_not_lt fun lt => hn _ lt ((hat _).mpr here)
      rw [e, hr, Nat.le_antisymm h2 h1]
  unfold rep1
  rw [ho, if_neg (by rw [l1]; simp)]
  rw [StrLaws.glued_eq_join]
  show strSub _ 0 (cl w).length ++ sOf "" ++ strSub _ ((cl w).length + (sOf " ").length) (w ++ sOf " " ++ J).length = _
  have sub : ∀ (x : Str) (a b : Nat), cl (strSub x a b) = ((cl x).drop a).take (b - a) := fun x a b => by
    show (x.cps.extract a b).toList = _
    rw [Array.toList_extract, List.extract_eq_drop_take]
  apply ext
  rw [cl_app, cl_app, cl_app, sub, sub, show cl (sOf "") = [] by decide +kernel, ex, l1, hx, List.append_nil, List.drop_zero, Nat.sub_zero, List.take_left]
  congr 1
  rw [show cl w ++ 32 :: cl J = (cl w ++ [32]) ++ cl J by simp, List.drop_left' (by simp)]
  exact List.take_of_length_le (by omega)
theorem rep1_text (p : Pc) : rep1 (textP p) (sOf " ") (sOf "") = gluedW p := by
  rw [text_word, rep1_first (wd_free p).1]
  have one : ∀ q : Rat, Txt.join (sOf " ") [shS q] = shS q := fun q => by rw [joinT]; rfl
  cases p with
  | gap q => show wd _ ++ Txt.join (sOf " ") [shS q] = _; rw [one]; rfl
  | glass q => show wd _ ++ Txt.join (sOf " ") [shS q] = _; rw [one]; rfl
  | stop lo hi =>
    show wd _ ++ Txt.join (sOf " ") [shS lo, shS hi] = Txt.join (sOf " ") [wd _ ++ shS lo, shS hi]
    rw [jcons (sOf " ") (shS lo) (ws := [shS hi]) (by simp), jcons (sOf " ") _ (ws := [shS hi]) (by simp)]
    apply ext
    simp only [cl_app, List.append_assoc]
section
variable {p : Pc} {pre post : List Pc}
theorem sg_upper (wp : ∀ p ∈ pre, PShort p) : parseB (Txt.join (sOf "; ") (pre.map textP ++ Txt.upper (textP p) :: post.map textP)) = none := by
  rw [upper_text]
  refine sg_word wp ?_ ?_ ?_
  · cases p <;> exact noW_of (by simp [upW])
  · cases p <;> (show 59 ∉ cl (sOf _); decide +kernel)
  · cases p <;> (show 32 ∉ cl (sOf _); decide +kernel)
theorem sg_slice (wp : ∀ p ∈ pre, PShort p) : parseB (Txt.join (sOf "; ") (pre.map textP ++ Txt.slice (textP p) (some 1) none :: post.map textP)) = none := by
  rw [slice_text]
  refine sg_word wp ?_ ?_ ?_
  · cases p <;> exact noW_of (by simp [ofW])
  · cases p <;> (show 59 ∉ cl (sOf _); decide +kernel)
  · cases p <;> (show 32 ∉ cl (sOf _); decide +kernel)
theorem sg_s (wp : ∀ p ∈ pre, PShort p) : parseB (Txt.join (sOf "; ") (pre.map textP ++ (wd p ++ sOf "s " ++ Txt.join (sOf " ") ((fracs p).map shS)) :: post.map textP)) = none := by
  rw [s_text]
  have e : wd p ++ sOf "s" ∈ [sOf "gaps", sOf "glasss", sOf "stops"] := by
    cases p
    · show sOf "gap" ++ sOf "s" ∈ _; decide +kernel
    · show sOf "glass" ++ sOf "s" ∈ _; decide +kernel
    · show sOf "stop" ++ sOf "s" ∈ _; decide +kernel
  generalize wd p ++ sOf "s" = x at e
  simp only [List.mem_cons, List.not_mem_nil, or_false] at e
  refine sg_word wp ?_ ?_ ?_
  · rcases e with rfl | rfl | rfl <;> exact noW_of (by simp)
  · rcases e with rfl | rfl | rfl <;> decide +kernel
  · rcases e with rfl | rfl | rfl <;> decide +kernel
theorem sg_par (wp : ∀ p ∈ pre, PShort p) : parseB (Txt.join (sOf "; ") (pre.map textP ++ (sOf "(" ++ textP p ++ sOf ")") :: post.map textP)) = none := by
  have fr : ∀ q : Rat, 32 ∉ cl (shS q ++ sOf ")") := fun q => by
    rw [cl_app, show cl (sOf ")") = [41] by decide +kernel]
    have := sh_free q 32 (by omega)
    simp [this]
  have one : ∀ q : Rat, Txt.join (sOf " ") [shS q] = shS q := fun q => by rw [joinT]; rfl
  have nx : NoW (sOf "(" ++ wd p) := by
    have e : sOf "(" ++ wd p ∈ [sOf "(gap", sOf "(glass", sOf "(stop"] := by
      cases p
      · show sOf "(" ++ sOf "gap" ∈ _; decide +kernel
      · show sOf "(" ++ sOf "glass" ∈ _; decide +kernel
      · show sOf "(" ++ sOf "stop" ∈ _; decide +kernel
    simp only [List.mem_cons, List.not_mem_nil, or_false] at e
    rcases e with e | e | e <;> (rw [e]; exact noW_of (by simp))
  have f5 : 59 ∉ cl (sOf "(" ++ wd p) := by rw [cl_app, show cl (sOf "(") = [40] by decide +kernel]; have := (wd_free p).2; simp [this]
  have f3 : 32 ∉ cl (sOf "(" ++ wd p) := by rw [cl_app, show cl (sOf "(") = [40] by decide +kernel]; have := (wd_free p).1; simp [this]
  cases p with
  | gap q =>
    have e : sOf "(" ++ textP (.gap q) ++ sOf ")" = Txt.join (sOf " ") (((sOf "(" ++ wd (.gap q)) :: []) ++ [shS q ++ sOf ")"]) := by
      rw [text_word, jsnoc _ _ _ (by simp), show (fracs (.gap q)).map shS = [shS q] from rfl, one, show Txt.join (sOf " ") [sOf "(" ++ wd (.gap q)] = sOf "(" ++ wd (.gap q) by rw [joinT]; rfl]
      apply ext
      simp only [cl_app, List.append_assoc]
    rw [e]
    refine first_no wp nx f5 fun t ht => ?_
    simp only [List.cons_append, List.nil_append, List.mem_cons, List.not_mem_nil, or_false] at ht
    rcases ht with rfl | rfl
    · exact f3
    · exact fr q
  | glass q =>
    have e : sOf "(" ++ textP (.glass q) ++ sOf ")" = Txt.join (sOf " ") (((sOf "(" ++ wd (.glass q)) :: []) ++ [shS q ++ sOf ")"]) := by
      rw [text_word, jsnoc _ _ _ (by simp), show (fracs (.glass q)).map shS = [shS q] from rfl, one, show Txt.join (sOf " ") [sOf "(" ++ wd (.glass q)] = sOf "(" ++ wd (.glass q) by rw [joinT]; rfl]
      apply ext
      simp only [cl_app, List.append_assoc]
    rw [e]
    refine first_no wp nx f5 fun t ht => ?_
    simp only [List.cons_append, List.nil_append, List.mem_cons, List.not_mem_nil, or_false] at ht
    rcases ht with rfl | rfl
    · exact f3
    · exact fr q
  | stop lo hi =>
    have e : sOf "(" ++ textP (.stop lo hi) ++ sOf ")" = Txt.join (sOf " ") (((sOf "(" ++ wd (.stop lo hi)) :: [shS lo]) ++ [shS hi ++ sOf ")"]) := by
      rw [text_word, jsnoc _ _ _ (by simp), show (fracs (.stop lo hi)).map shS = [shS lo, shS hi] from rfl, jcons _ _ (by simp), one, jcons _ _ (by simp), one]
      apply ext
      simp only [cl_app, List.append_assoc]
    rw [e]
    refine first_no wp nx f5 fun t ht => ?_
    simp only [List.cons_append, List.nil_append, List.mem_cons, List.not_mem_nil, or_false] at ht
    rcases ht with rfl | rfl | rfl
    · exact f3
    · exact sh_free _ 32 (by omega)
    · exact fr hi
theorem sg_tab (wp : ∀ p ∈ pre, PShort p) : parseB (Txt.join (sOf "; ") (pre.map textP ++ Txt.join (sOf "\t") (toks p) :: post.map textP)) = none := by
  have c9 : cl (sOf "\t") = [9] := by decide +kernel
  have sgn : ∀ c ∈ cl (Txt.join (sOf "\t") (toks p)), c = 9 ∨ ∃ t ∈ toks p, c ∈ cl t := fun c hc => by
    rw [joinT] at hc
    rcases mem_join hc with m | m
    · rw [c9] at m
      exact .inl (List.mem_singleton.mp m)
    · exact .inr m
  have h9 : 9 ∈ cl (Txt.join (sOf "\t") (toks p)) := by
    rw [show toks p = wd p :: (fracs p).map shS from rfl, jcons _ _ (by cases p <;> simp [fracs]), cl_app, cl_app, c9]
    simp
  refine only_no wp (noW_sign h9 (by decide) (by decide)) (fun m => ?_) (fun m => ?_) (fun e => ?_)
  · rcases sgn _ m with e | ⟨t, ht, m⟩
    · exact absurd e (by decide)
    · exact (toks_free p t ht).2 m
  · rcases sgn _ m with e | ⟨t, ht, m⟩
    · exact absurd e (by decide)
    · exact (toks_free p t ht).1 m
  · rw [e] at h9
    exact absurd h9 (by decide +kernel)
end
def sgnL (p : Pc) : List Str := [textP p ++ sOf " ", sOf " " ++ textP p, Txt.join (sOf "  ") (toks p), Txt.join (sOf " ") (toks p).dropLast, textP p ++ sOf " 1", Txt.upper (textP p), Txt.slice (textP p) (some 1) none,
  textP p ++ sOf ";", textP p ++ sOf "\n", Txt.join (sOf "\t") (toks p), sOf ";", wd p ++ sOf "s " ++ Txt.join (sOf " ") ((fracs p).map shS), sOf "lens 1",
  textP p ++ sOf ",", sOf "(" ++ textP p ++ sOf ")", sOf "( " ++ textP p ++ sOf " )", sOf " ", rep1 (textP p) (sOf " ") (sOf "")]
theorem signs_no {p : Pc} {pre post : List Pc} (wp : ∀ p ∈ pre, PShort p) (sp : PShort p) : ∀ x ∈ sgnL p, parseB (Txt.join (sOf "; ") (pre.map textP ++ x :: post.map textP)) = none := fun x hx => by
  simp only [sgnL, List.mem_cons, List.not_mem_nil, or_false] at hx
  rcases hx with rfl | rfl | rfl | rfl | rfl | rfl | rfl | rfl | rfl | rfl | rfl | rfl | rfl | rfl | rfl | rfl | rfl | rfl
  · exact sg_blank wp sp
  · exact sg_ahead wp
  · exact sg_two wp
  · exact part_gone wp sp
  · exact sg_one wp sp
  · exact sg_upper wp
  · exact sg_slice wp
  · exact sg_semi wp sp
  · exact sg_end wp sp
  · exact sg_tab wp
  · exact sg_only wp
  · exact sg_s wp
  · exact sg_lens wp
  · exact sg_comma wp sp
  · exact sg_par wp
  · exact sg_round wp
  · exact sg_space wp
  · rw [rep1_text]
    exact sg_glued wp
end Lib
namespace L2
open PySem PySem.Spec PyProof.Rows
theorem seq_byK {a b : TS} {D : Ends} {σ : St} {H : Hp} (I : St → Hp → Prop) (h1 : ∀ nx : St → Hp → Prop, (∀ σ' H', I σ' H' → nx σ' H') → a { D with nx := nx } σ H) (h2 : ∀ σ' H', I σ' H' → b D σ' H') : tSeq a b D σ H := h1 (b D) h2
end L2
namespace Lib
open PySem L2 Fr Op Tx PySem.Builtin.Str
theorem len_app (a b : Str) : (a ++ b).length = a.length + b.length := by
  show (cl (a ++ b)).length = (cl a).length + (cl b).length
  rw [cl_app, List.length_append]
theorem toks_join_le {p : Pc} (sp : PShort p) {s : Str} (hs : s.length ≤ 2) {ts : List Str} (h : ∀ t ∈ ts, t.length ≤ 60) (hl : ts.length ≤ 3) : (Txt.join s ts).length ≤ 186 := by
  rw [joinT]
  have h1 := join_le s ts 60 h
  have h2 : ts.length * (60 + s.length) ≤ 3 * 62 := Nat.mul_le_mul hl (by omega)
  omega
theorem piece_len {p : Pc} (sp : PShort p) : (textP p).length ≤ 186 := toks_join_le sp (by decide +kernel) (fun t ht => Nat.le_trans (tok1_le p sp t ht) (by decide)) (by cases p <;> simp [toks, fracs])
theorem sgn_len {p : Pc} (sp : PShort p) : ∀ x ∈ sgnL p, x.length ≤ 400 := fun x hx => by
  have tl := piece_len sp
  have t50 : ∀ t ∈ toks p, t.length ≤ 60 := fun t ht => Nat.le_trans (tok1_le p sp t ht) (by decide)
  have f50 : ∀ t ∈ (fracs p).map shS, t.length ≤ 60 := fun t ht => t50 t (List.mem_cons_of_mem _ ht)
  have l3 : (toks p).length ≤ 3 := by cases p <;> simp [toks, fracs]
  have l2 : ((fracs p).map shS).length ≤ 2 := by cases p <;> simp [fracs]
  have wl : (wd p).length ≤ 5 := by cases p <;> (show (sOf _).length ≤ 5; decide +kernel)
  have word : ∀ y : Str, y.length ≤ 10 → (Txt.join (sOf " ") (y :: (fracs p).map shS)).length ≤ 186 := fun y hy => toks_join_le sp (by decide +kernel) (fun t ht => by
    rcases List.mem_cons.mp ht with rfl | m
    · omega
    · exact f50 t m) (by rw [List.length_cons]; omega)
  have one : ∀ y : Str, y.length ≤ 4 → (textP p ++ y).length ≤ 400 := fun y hy => by rw [len_app]; omega
  simp only [sgnL, List.mem_cons, List.not_mem_nil, or_false] at hx
  rcases hx with rfl | rfl | rfl | rfl | rfl | rfl | rfl | rfl | rfl | rfl | rfl | rfl | rfl | rfl | rfl | rfl | rfl | rfl
  · exact one _ (by decide +kernel)
  · rw [len_app, show (sOf " ").length = 1 by decide +kernel]; omega
  · exact Nat.le_trans (toks_join_le sp (by decide +kernel) t50 l3) (by decide)
  · exact Nat.le_trans (toks_join_le sp (by decide +kernel) (fun t ht => t50 t (List.mem_of_mem_take (by rw [List.dropLast_eq_take] at ht; exact ht))) (by rw [List.length_dropLast]; omega)) (by decide)
  · exact one _ (by decide +kernel)
  · rw [upper_text]
    exact Nat.le_trans (word _ (by cases p <;> (show (sOf _).length ≤ 10; decide +kernel))) (by decide)
  · rw [slice_text]
    exact Nat.le_trans (word _ (by cases p <;> (show (sOf _).length ≤ 10; decide +kernel))) (by decide)
  · exact one _ (by decide +kernel)
  · exact one _ (by decide +kernel)
  · exact Nat.le_trans (toks_join_le sp (by decide +kernel) t50 l3) (by decide)
  · decide +kernel
  · rw [s_text]
    exact Nat.le_trans (word _ (by rw [len_app, show (sOf "s").length = 1 by decide +kernel]; omega)) (by decide)
  · decide +kernel
  · exact one _ (by decide +kernel)
  · rw [len_app, len_app, show (sOf "(").length = 1 by decide +kernel, show (sOf ")").length = 1 by decide +kernel]; omega
  · rw [len_app, len_app, show (sOf "( ").length = 2 by decide +kernel, show (sOf " )").length = 2 by decide +kernel]; omega
  · decide +kernel
  · rw [rep1_text]
    cases p with
    | gap q => show (wd _ ++ shS q).length ≤ 400; rw [len_app]; have := t50 (shS q) (by simp [toks, fracs]); omega
    | glass q => show (wd _ ++ shS q).length ≤ 400; rw [len_app]; have := t50 (shS q) (by simp [toks, fracs]); omega
    | stop lo hi =>
      have a := t50 (shS lo) (by simp [toks, fracs])
      have b := t50 (shS hi) (by simp [toks, fracs])
      show (Txt.join (sOf " ") [wd _ ++ shS lo, shS hi]).length ≤ 400
      rw [jcons _ _ (by simp), len_app, len_app, len_app, show Txt.join (sOf " ") [shS hi] = shS hi by rw [joinT]; rfl, show (sOf " ").length = 1 by decide +kernel]
      omega
theorem rnd_len {x : Str} (hx : x.length ≤ 186) : ∀ q ∈ rndQ, (PySem.Str.join x q).length ≤ 1000 := fun q hq => by
  have h1 : ∀ q ∈ rndQ, q.length ≤ 3 ∧ ∀ t ∈ q, t.length ≤ 60 := by decide +kernel
  have h2 := join_le x q 60 (h1 q hq).2
  have h3 : q.length * (60 + x.length) ≤ 3 * 246 := Nat.mul_le_mul (h1 q hq).1 (by omega)
  omega
def BadT (x : Str) : Prop := x.length ≤ 2000 ∧ ∀ pre post : List Pc, (∀ p ∈ pre, PShort p) → (∀ p ∈ post, PShort p) → parseB (Txt.join (sOf "; ") (pre.map textP ++ x :: post.map textP)) = none
theorem bad_sgn {p : Pc} (sp : PShort p) {x : Str} (h : x ∈ sgnL p) : BadT x := ⟨Nat.le_trans (sgn_len sp x h) (by decide), fun _ _ wp _ => signs_no wp sp x h⟩
theorem bad_rnd {p : Pc} (sp : PShort p) {t : Str} (h : t ∈ rndP) : BadT (Txt.replace t (sOf "T") (textP p)) ∧ BadT t := by
  constructor
  · rw [rep_parts]
    have m : partsOf t ∈ rndQ := by rw [← rnd_parts]; exact List.mem_map_of_mem h
    exact ⟨Nat.le_trans (rnd_len (piece_len sp) _ m) (by decide), fun _ _ wp wq => rounds_no (blk_piece sp) wp wq _ m⟩
  · rw [← rnd_self] at h
    obtain ⟨q, m, rfl⟩ := List.mem_map.mp h
    exact ⟨Nat.le_trans (rnd_len (by decide +kernel) _ m) (by decide), fun _ _ wp wq => rounds_no blk_sign wp wq _ m⟩
theorem bad_stop {lo hi : Rat} (sp : PShort (.stop lo hi)) (ne : lo ≠ hi) : BadT (textP (.stop hi lo)) := by
  have h1 := sp.2 lo (by simp [fracs])
  have h2 := sp.2 hi (by simp [fracs])
  have sq : PShort (.stop hi hi) := ⟨Rat.lt_irrefl, fun r hr => by
    simp only [fracs, List.mem_cons, List.not_mem_nil, or_false] at hr
    rcases hr with rfl | rfl <;> exact h2⟩
  have hlt : lo < hi := by
    have : ¬ hi < lo := sp.1
    exact Rat.lt_of_le_of_ne (Rat.not_lt.mp this) ne
  refine ⟨?_, fun pre post wp _ => ?_⟩
  · have t50 : ∀ t ∈ toks (.stop hi lo), t.length ≤ 60 := fun t ht => by
      have e : t ∈ toks (.stop lo hi) := by
        simp only [toks, wd, fracs, List.map_cons, List.map_nil, List.mem_cons, List.not_mem_nil, or_false] at ht ⊢
        rcases ht with h | h | h
        · exact .inl h
        · exact .inr (.inr h)
        · exact .inr (.inl h)
      exact Nat.le_trans (tok1_le _ sp t e) (by decide)
    exact Nat.le_trans (toks_join_le sp (by decide +kernel) t50 (by simp [toks, fracs])) (by decide)
  · have fr : ∀ q : Rat, 32 ∉ cl (shS q) ∧ 59 ∉ cl (shS q) := fun q => ⟨sh_free _ 32 (by omega), sh_free _ 59 (by omega)⟩
    have hd : Hd (textP (.stop hi lo)) (toks (.stop hi lo)) := by
      have h := hd_all (ws := [wd (.stop hi lo), shS hi]) (w := shS lo) (fun t ht => toks_free (.stop hi lo) t ht |>.1) (wordF_no (fr lo).2)
      rw [wordsF_free _ fun t ht => toks_free (.stop hi lo) t (List.mem_append_left [shS lo] ht) |>.2] at h
      exact h
    refine hd_bad wp hd (by simp [toks, fracs]) fun ws i tk => ?_
    have t0 : ws[i]? = some (sOf "stop") := tk 0 _ rfl
    have t1 : ws[i + 1]? = some (shS hi) := tk 1 _ rfl
    have t2 : ws[i + 1 + 1]? = some (shS lo) := tk 2 _ rfl
    unfold pPart
    rw [t0]
    dsimp only
    rw [if_neg (by decide +kernel), if_neg (by decide +kernel), if_pos rfl]
    unfold pStop
    rw [pNum_good t1 h2]
    dsimp only
    rw [pNum_good t2 h1]
    dsimp only
    rw [if_pos hlt]
def spShowPF (K : PySem.W.Frag) : Sp := fun vs H Q _ => ∃ (v : V) (p : Pc), vs = [v] ∧ DV K H v (pcD p) ∧ (∀ q ∈ fracs p, Short q) ∧ ∀ H', Same H H' → Q (.str (textP p)) H'
theorem tokF_le (p : Pc) (h : ∀ q ∈ fracs p, Short q) (t : Str) (m : t ∈ toks p) : t.length ≤ 50 := by
  rcases List.mem_cons.mp m with rfl | m
  · cases p <;> (show (sOf _).length ≤ 50; decide +kernel)
  · obtain ⟨q, hq, rfl⟩ := List.mem_map.mp m
    have := shS_len (h q hq)
    omega
theorem bad_at {ps : List Pc} {k : Nat} {x : Str} (hk : k < ps.length) (l8 : ps.length ≤ 8) (h : ∀ p ∈ ps, PShort p) (b : BadT x) : parseB (Txt.join (sOf "; ") ((ps.map textP).set k x)) = none ∧ (Txt.join (sOf "; ") ((ps.map textP).set k x)).length ≤ 20000 ∧ ∀ t ∈ (ps.map textP).set k x, t.length ≤ 2000 := by
  have tl : ∀ t ∈ (ps.map textP).set k x, t.length ≤ 2000 := fun t ht => by
    rcases List.mem_or_eq_of_mem_set ht with m | rfl
    · obtain ⟨p, hp, rfl⟩ := List.mem_map.mp m
      exact Nat.le_trans (piece_len (h p hp)) (by decide)
    · exact b.1
  refine ⟨?_, ?_, tl⟩
  · rw [List.set_eq_take_append_cons_drop, if_pos (by rw [List.length_map]; exact hk), ← List.map_take, ← List.map_drop]
    exact b.2 _ _ (fun p hp => h p (List.mem_of_mem_take hp)) (fun p hp => h p (List.mem_of_mem_drop hp))
  · rw [joinT]
    have h1 := join_le (sOf "; ") ((ps.map textP).set k x) 2000 tl
    rw [List.length_set, List.length_map] at h1
    have h2 : ps.length * (2000 + (sOf "; ").length) ≤ 8 * 2002 := Nat.mul_le_mul l8 (by rw [show (sOf "; ").length = 2 by decide +kernel]; decide)
    omega
def spBad (K : PySem.W.Frag) : Sp := fun vs H Q _ => ∃ (v : V) (ps : List Pc) (z : Int), vs = [v, .int z] ∧ DV K H v (benchD ps) ∧ ps ≠ [] ∧ ps.length ≤ 8 ∧ (∀ p ∈ ps, PShort p) ∧ ∀ (x : Str) H', x.length ≤ 20000 → parseB x = none → Same H H' → Q (.str x) H'
end Lib
namespace Lib
open PySem L2 Fr Op Tx
theorem parse_text {ps : List Pc} (l : ps.length ≤ 60) (h : ∀ p ∈ ps, PShort p) : parseB (textB ps) = some ps := by
  have hw : ∀ q ∈ ps.map (pPc 4), WP 5 q := WP_pcs h
  have hc : cntL 5 (ps.map (pPc 4)) = ps.length := by
    rw [← cntL_told, toldL_pcs]
  rw [← textB_L 4 ps, parse_good hw, hc, if_pos l, toldL_pcs]
def fourP (ps : List Pc) : Part 5 := pRd 4 1 [pRd 3 1 [pRd 2 1 [pRd 1 1 (ps.map (pPc 0))]]]
theorem four_text (ps : List Pc) : textL 5 [fourP ps] = Txt.mul (sOf "1 times ( ") 4 ++ textB ps ++ Txt.mul (sOf " )") 4 := by
  have one : ∀ x : Str, Txt.join (sOf "; ") [x] = x := fun x => by rw [joinT]; rfl
  have rd : ∀ (k : Nat) (qs : List (Part (k + 1))), textK (k + 1 + 1) (pRd (k + 1) 1 qs) = sOf "1 times ( " ++ textL (k + 1) qs ++ sOf " )" := fun k qs => by
    show dgS 1 ++ sOf " times ( " ++ textL (k + 1) qs ++ sOf " )" = _
    rw [show sOf "1 times ( " = dgS 1 ++ sOf " times ( " by decide +kernel]
  have l1 : ∀ (k : Nat) (q : Part k), textL k [q] = textK k q := fun k q => one _
  rw [l1, fourP, rd 3, l1, rd 2, l1, rd 1, l1, rd 0, textB_L 0]
  have m1 : Txt.mul (sOf "1 times ( ") 4 = sOf "1 times ( " ++ (sOf "1 times ( " ++ (sOf "1 times ( " ++ sOf "1 times ( ")) := by decide +kernel
  have m2 : Txt.mul (sOf " )") 4 = sOf " )" ++ (sOf " )" ++ (sOf " )" ++ sOf " )")) := by decide +kernel
  rw [m1, m2]
  apply ext
  simp only [cl_app, List.append_assoc]
theorem parse_four {ps : List Pc} (ne : ps ≠ []) (l : ps.length ≤ 60) (h : ∀ p ∈ ps, PShort p) : parseB (Txt.mul (sOf "1 times ( ") 4 ++ textB ps ++ Txt.mul (sOf " )") 4) = some ps := by
  have h0 : ∀ q ∈ ps.map (pPc 0), WP 1 q := WP_pcs h
  have hw : ∀ q ∈ [fourP ps], WP 5 q := fun q hq => by
    rw [List.mem_singleton.mp hq]
    refine ⟨by decide, by simp, by simp, fun q hq => ?_⟩
    rw [List.mem_singleton.mp hq]
    refine ⟨by decide, by simp, by simp, fun q hq => ?_⟩
    rw [List.mem_singleton.mp hq]
    refine ⟨by decide, by simp, by simp, fun q hq => ?_⟩
    rw [List.mem_singleton.mp hq]
    exact ⟨by decide, by simpa using ne, by rw [List.length_map]; omega, h0⟩
  have one : ∀ (k : Nat) (qs : List (Part (k + 1))), told (k + 1 + 1) (pRd (k + 1) 1 qs) = toldL (k + 1) qs := fun k qs => by
    show (List.replicate 1 (toldL (k + 1) qs)).flatten = _
    simp
  have l1 : ∀ (k : Nat) (q : Part k), toldL k [q] = told k q := fun k q => by
    show [told k q].flatten = _
    simp
  have ht : toldL 5 [fourP ps] = ps := by
    rw [l1, fourP, one 3, l1, one 2, l1, one 1, l1, one 0, toldL_pcs]
  have hc : cntL 5 [fourP ps] = ps.length := by rw [← cntL_told, ht]
  rw [← four_text, parse_good hw, hc, if_pos l, ht]
theorem gap1_short : PShort (.gap 1) := ⟨trivial, fun r hr => by rw [List.mem_singleton.mp hr]; exact short_one⟩
theorem gap1_text : textP (.gap 1) = sOf "gap 1" := by decide +kernel
theorem many_no : parseB (Txt.join (sOf "; ") (List.replicate 61 (sOf "gap 1"))) = none := by
  have e : Txt.join (sOf "; ") (List.replicate 61 (sOf "gap 1")) = textL 5 ((List.replicate 61 (Pc.gap 1)).map (pPc 4)) := by
    rw [textB_L 4]
    unfold textB
    rw [List.map_replicate, gap1_text]
  have hs : ∀ p ∈ List.replicate 61 (Pc.gap 1), PShort p := fun p hp => by rw [(List.mem_replicate.mp hp).2]; exact gap1_short
  have hc : cntL 5 ((List.replicate 61 (Pc.gap 1)).map (pPc 4)) = 61 := by rw [← cntL_told, toldL_pcs, List.length_replicate]
  rw [e, parse_good (WP_pcs hs), hc, if_neg (by decide)]
theorem twice_no : parseB (sOf "31 times ( gap 1; gap 1 )") = none := by
  have e : sOf "31 times ( gap 1; gap 1 )" = textL 5 [pRd 4 31 [pPc 3 (.gap 1), pPc 3 (.gap 1)]] := by
    have t : textL 5 [pRd 4 31 [pPc 3 (.gap 1), pPc 3 (.gap 1)]] = dgS 31 ++ sOf " times ( " ++ Txt.join (sOf "; ") [textP (.gap 1), textP (.gap 1)] ++ sOf " )" := by
      show Txt.join (sOf "; ") [_] = _
      rw [joinT]
      rfl
    rw [t, gap1_text]
    decide +kernel
  rw [e, parse_good (fun q hq => ?_), if_neg (by decide)]
  rw [List.mem_singleton.mp hq]
  refine ⟨by decide, by simp, by simp, fun q hq => ?_⟩
  simp only [List.mem_cons, List.not_mem_nil, or_false] at hq
  rcases hq with rfl | rfl <;> exact gap1_short
theorem bench_len {ps : List Pc} (l : ps.length ≤ 8) (h : ∀ p ∈ ps, PShort p) : (textB ps).length ≤ 1504 := by
  unfold textB
  rw [joinT]
  have h1 := join_le (PySem.Str.ofString "; ") (ps.map textP) 186 fun t ht => by
    obtain ⟨p, hp, rfl⟩ := List.mem_map.mp ht
    exact piece_len (h p hp)
  rw [List.length_map, show (PySem.Str.ofString "; ").length = 2 by decide +kernel] at h1
  have h2 : ps.length * (186 + 2) ≤ 8 * 188 := Nat.mul_le_mul l (Nat.le_refl _)
  omega
end Lib
namespace K12
open PySem L2 Lib Fr Op
seal PE PT PW PA PS PSs PG PI PO
def top (i : Nat) : Stmt := PySem.Challenge.pw_grindbench_k12_texts_of_no_bench.main.body.getD i (.Pass ⟨0, 0, 0, 0⟩)
abbrev s_is_whole : Stmt := top 12
theorem sc_is_whole : FnScope ["thing"] ["thing"] (defScope s_is_whole) := ⟨rfl, rfl, rfl, by decide +kernel, rfl, by decide +kernel, by decide +kernel⟩
abbrev s_common_divisor : Stmt := top 13
theorem sc_common_divisor : FnScope ["one", "other", "greater", "lesser", "rest"] ["one", "other"] (defScope s_common_divisor) := ⟨rfl, rfl, rfl, by decide +kernel, rfl, by decide +kernel, by decide +kernel⟩
abbrev s_is_ratio : Stmt := top 14
theorem sc_is_ratio : FnScope ["thing", "top", "bottom"] ["thing"] (defScope s_is_ratio) := ⟨rfl, rfl, rfl, by decide +kernel, rfl, by decide +kernel, by decide +kernel⟩
abbrev s_is_less : Stmt := top 15
theorem sc_is_less : FnScope ["one", "other"] ["one", "other"] (defScope s_is_less) := ⟨rfl, rfl, rfl, by decide +kernel, rfl, by decide +kernel, by decide +kernel⟩
abbrev s_show_ratio : Stmt := top 19
theorem sc_show_ratio : FnScope ["one", "top", "bottom"] ["one"] (defScope s_show_ratio) := ⟨rfl, rfl, rfl, by decide +kernel, rfl, by decide +kernel, by decide +kernel⟩
abbrev s_read_part_figures : Stmt := top 20
theorem sc_read_part_figures : FnScope ["text"] ["text"] (defScope s_read_part_figures) := ⟨rfl, rfl, rfl, by decide +kernel, rfl, by decide +kernel, by decide +kernel⟩
abbrev s_read_ratio : Stmt := top 22
theorem sc_read_ratio : FnScope ["text", "is_below", "parts", "top", "bottom", "one"] ["text"] (defScope s_read_ratio) := ⟨rfl, rfl, rfl, by decide +kernel, rfl, by decide +kernel, by decide +kernel⟩
abbrev s_is_piece : Stmt := top 28
theorem sc_is_piece : FnScope ["thing"] ["thing"] (defScope s_is_piece) := ⟨rfl, rfl, rfl, by decide +kernel, rfl, by decide +kernel, by decide +kernel⟩
abbrev s_words_of : Stmt := top 37
theorem sc_words_of : FnScope ["text", "words", "word"] ["text"] (defScope s_words_of) := ⟨rfl, rfl, rfl, by decide +kernel, rfl, by decide +kernel, by decide +kernel⟩
abbrev s_read_number : Stmt := top 38
theorem sc_read_number : FnScope ["word"] ["word"] (defScope s_read_number) := ⟨rfl, rfl, rfl, by decide +kernel, rfl, by decide +kernel, by decide +kernel⟩
abbrev s_read_times : Stmt := top 39
theorem sc_read_times : FnScope ["word", "times"] ["word"] (defScope s_read_times) := ⟨rfl, rfl, rfl, by decide +kernel, rfl, by decide +kernel, by decide +kernel⟩
abbrev s_read_round : Stmt := top 40
theorem sc_read_round : FnScope ["reader", "word", "deep", "times", "parts"] ["reader", "word", "deep"] (defScope s_read_round) := ⟨rfl, rfl, rfl, by decide +kernel, rfl, by decide +kernel, by decide +kernel⟩
abbrev s_read_part_texts : Stmt := top 41
theorem sc_read_part_texts : FnScope ["reader", "deep", "word", "low", "high"] ["reader", "deep"] (defScope s_read_part_texts) := ⟨rfl, rfl, rfl, by decide +kernel, rfl, by decide +kernel, by decide +kernel⟩
abbrev s_read_parts : Stmt := top 43
theorem sc_read_parts : FnScope ["reader", "deep", "parts"] ["reader", "deep"] (defScope s_read_parts) := ⟨rfl, rfl, rfl, by decide +kernel, rfl, by decide +kernel, by decide +kernel⟩
abbrev s_count_of : Stmt := top 44
theorem sc_count_of : FnScope ["parts", "count", "part"] ["parts"] (defScope s_count_of) := ⟨rfl, rfl, rfl, by decide +kernel, rfl, by decide +kernel, by decide +kernel⟩
abbrev s_told_out : Stmt := top 45
theorem sc_told_out : FnScope ["parts", "pieces", "part"] ["parts"] (defScope s_told_out) := ⟨rfl, rfl, rfl, by decide +kernel, rfl, by decide +kernel, by decide +kernel⟩
abbrev s_read_bench : Stmt := top 46
theorem sc_read_bench : FnScope ["text", "reader", "parts"] ["text"] (defScope s_read_bench) := ⟨rfl, rfl, rfl, by decide +kernel, rfl, by decide +kernel, by decide +kernel⟩
abbrev s__law_cell_at : Stmt := top 48
theorem sc__law_cell_at : FnScope ["_law_script", "_law_k"] ["_law_script", "_law_k"] (defScope s__law_cell_at) := ⟨rfl, rfl, rfl, by decide +kernel, rfl, by decide +kernel, by decide +kernel⟩
abbrev s__law_drawn : Stmt := top 50
theorem sc__law_drawn : FnScope ["_law_script", "_law_start"] ["_law_script", "_law_start"] (defScope s__law_drawn) := ⟨rfl, rfl, rfl, by decide +kernel, rfl, by decide +kernel, by decide +kernel⟩
abbrev s__law_draw : Stmt := top 51
theorem sc__law_draw : FnScope ["_law_drawn_here", "_law_many", "_law_cells", "_law_number"] ["_law_drawn_here", "_law_many"] (defScope s__law_draw) := ⟨rfl, rfl, rfl, by decide +kernel, rfl, by decide +kernel, by decide +kernel⟩
abbrev s__law_low : Stmt := top 52
theorem sc__law_low : FnScope ["_law_top", "_law_bottom", "_law_one", "_law_other"] ["_law_top", "_law_bottom"] (defScope s__law_low) := ⟨rfl, rfl, rfl, by decide +kernel, rfl, by decide +kernel, by decide +kernel⟩
abbrev s__law_under : Stmt := top 53
theorem sc__law_under : FnScope ["_law_one", "_law_other"] ["_law_one", "_law_other"] (defScope s__law_under) := ⟨rfl, rfl, rfl, by decide +kernel, rfl, by decide +kernel, by decide +kernel⟩
abbrev s__law_part : Stmt := top 54
theorem sc__law_part : FnScope ["_law_drawn_here", "_law_far", "_law_top", "_law_bottom"] ["_law_drawn_here", "_law_far"] (defScope s__law_part) := ⟨rfl, rfl, rfl, by decide +kernel, rfl, by decide +kernel, by decide +kernel⟩
abbrev s__law_piece : Stmt := top 55
theorem sc__law_piece : FnScope ["_law_drawn_here", "_law_far", "_law_way", "_law_one", "_law_other"] ["_law_drawn_here", "_law_far"] (defScope s__law_piece) := ⟨rfl, rfl, rfl, by decide +kernel, rfl, by decide +kernel, by decide +kernel⟩
abbrev s__law_written : Stmt := top 56
theorem sc__law_written : FnScope ["_law_number", "_law_figures", "_law_left"] ["_law_number"] (defScope s__law_written) := ⟨rfl, rfl, rfl, by decide +kernel, rfl, by decide +kernel, by decide +kernel⟩
abbrev s__law_shown : Stmt := top 57
theorem sc__law_shown : FnScope ["_law_part_here"] ["_law_part_here"] (defScope s__law_shown) := ⟨rfl, rfl, rfl, by decide +kernel, rfl, by decide +kernel, by decide +kernel⟩
abbrev s__law_piece_text : Stmt := top 58
theorem sc__law_piece_text : FnScope ["_law_piece_here"] ["_law_piece_here"] (defScope s__law_piece_text) := ⟨rfl, rfl, rfl, by decide +kernel, rfl, by decide +kernel, by decide +kernel⟩
abbrev s__law_text : Stmt := top 59
theorem sc__law_text : FnScope ["_law_bench"] ["_law_bench"] (defScope s__law_text) := ⟨rfl, rfl, rfl, by decide +kernel, rfl, by decide +kernel, by decide +kernel⟩
abbrev s__law_kinds : Stmt := top 60
theorem sc__law_kinds : FnScope ["_law_e", "_law_some"] ["_law_e"] (defScope s__law_kinds) := ⟨rfl, rfl, rfl, by decide +kernel, rfl, by decide +kernel, by decide +kernel⟩
abbrev s__law_refused : Stmt := top 61
theorem sc__law_refused : FnScope ["_law_thing", "_law_kinds_here", "_law_e"] ["_law_thing"] (defScope s__law_refused) := ⟨rfl, rfl, rfl, by decide +kernel, rfl, by decide +kernel, by decide +kernel⟩
abbrev s__law_numbers : Stmt := top 62
theorem sc__law_numbers : FnScope ["_law_text_here", "_law_cell", "_law_some", "_law_parts"] ["_law_text_here", "_law_cell"] (defScope s__law_numbers) := ⟨rfl, rfl, rfl, by decide +kernel, rfl, by decide +kernel, by decide +kernel⟩
abbrev s__law_signs : Stmt := top 63
theorem sc__law_signs : FnScope ["_law_text_here", "_law_cell", "_law_parts", "_law_some"] ["_law_text_here", "_law_cell"] (defScope s__law_signs) := ⟨rfl, rfl, rfl, by decide +kernel, rfl, by decide +kernel, by decide +kernel⟩
abbrev s__law_rounds : Stmt := top 64
theorem sc__law_rounds : FnScope ["_law_text_here", "_law_cell", "_law_some"] ["_law_text_here", "_law_cell"] (defScope s__law_rounds) := ⟨rfl, rfl, rfl, by decide +kernel, rfl, by decide +kernel, by decide +kernel⟩
abbrev s__law_bad : Stmt := top 65
theorem sc__law_bad : FnScope ["_law_bench", "_law_cell", "_law_at", "_law_texts", "_law_piece_here"] ["_law_bench", "_law_cell"] (defScope s__law_bad) := ⟨rfl, rfl, rfl, by decide +kernel, rfl, by decide +kernel, by decide +kernel⟩
abbrev s_law : Stmt := top 66
theorem sc_law : FnScope ["_law_script", "_law_drawn_here", "_law_far", "_law_bench", "_law_text_here", "_law_cell", "_law_number", "_law_things"] ["_law_script"] (defScope s_law) := ⟨rfl, rfl, rfl, by decide +kernel, rfl, by decide +kernel, by decide +kernel⟩
abbrev s_Reader_init : Stmt := inClass (top 36) 0
theorem sc_Reader_init : FnScope ["self", "words"] ["self", "words"] (defScope s_Reader_init) := ⟨rfl, rfl, rfl, by decide +kernel, rfl, by decide +kernel, by decide +kernel⟩
abbrev s_Reader_is_done : Stmt := inClass (top 36) 1
theorem sc_Reader_is_done : FnScope ["self"] ["self"] (defScope s_Reader_is_done) := ⟨rfl, rfl, rfl, by decide +kernel, rfl, by decide +kernel, by decide +kernel⟩
abbrev s_Reader_take : Stmt := inClass (top 36) 2
theorem sc_Reader_take : FnScope ["self"] ["self"] (defScope s_Reader_take) := ⟨rfl, rfl, rfl, by decide +kernel, rfl, by decide +kernel, by decide +kernel⟩
abbrev s_Reader_take_if : Stmt := inClass (top 36) 3
theorem sc_Reader_take_if : FnScope ["self", "word"] ["self", "word"] (defScope s_Reader_take_if) := ⟨rfl, rfl, rfl, by decide +kernel, rfl, by decide +kernel, by decide +kernel⟩
structure Adr where
  z0 : Nat := 0
  BenchError : Addr
  NoNumber : Addr
  NoText : Addr
  NoTable : Addr
  NoBox : Addr
  NoStock : Addr
  NoWish : Addr
  NoRow : Addr
  Unknown : Addr
  NoBench : Addr
  Reader : Addr
  tGAP : Tok
  tGLASS : Tok
  tSTOP : Tok
  tMOST_PIECES : Tok
  tFIGURES : Tok
  tMOST_FIGURES : Tok
  tPARTED : Tok
  tTIMES : Tok
  tOPENED : Tok
  tCLOSED : Tok
  tMOST_TIMES : Tok
  tMOST_DEEP : Tok
structure Exc (K : PySem.W.Frag) (mg : Str → Option Value) (ad : Adr) : Prop where
  tt : True := trivial
  m_BenchError : mg "BenchError" = some (.ref ad.BenchError)
  m_NoNumber : mg "NoNumber" = some (.ref ad.NoNumber)
  m_NoText : mg "NoText" = some (.ref ad.NoText)
  m_NoTable : mg "NoTable" = some (.ref ad.NoTable)
  m_NoBox : mg "NoBox" = some (.ref ad.NoBox)
  m_NoStock : mg "NoStock" = some (.ref ad.NoStock)
  m_NoWish : mg "NoWish" = some (.ref ad.NoWish)
  m_NoRow : mg "NoRow" = some (.ref ad.NoRow)
  m_Unknown : mg "Unknown" = some (.ref ad.Unknown)
  m_NoBench : mg "NoBench" = some (.ref ad.NoBench)
  m_Reader : mg "Reader" = some (.ref ad.Reader)
  m_GAP : mg "GAP" = some (.str "gap" ad.tGAP)
  z_GAP : ad.tGAP ≠ 0
  m_GLASS : mg "GLASS" = some (.str "glass" ad.tGLASS)
  z_GLASS : ad.tGLASS ≠ 0
  m_STOP : mg "STOP" = some (.str "stop" ad.tSTOP)
  z_STOP : ad.tSTOP ≠ 0
  m_MOST_PIECES : mg "MOST_PIECES" = some (.int 60 ad.tMOST_PIECES)
  m_FIGURES : mg "FIGURES" = some (.str "0123456789" ad.tFIGURES)
  z_FIGURES : ad.tFIGURES ≠ 0
  m_MOST_FIGURES : mg "MOST_FIGURES" = some (.int 15 ad.tMOST_FIGURES)
  m_PARTED : mg "PARTED" = some (.str ";" ad.tPARTED)
  z_PARTED : ad.tPARTED ≠ 0
  m_TIMES : mg "TIMES" = some (.str "times" ad.tTIMES)
  z_TIMES : ad.tTIMES ≠ 0
  m_OPENED : mg "OPENED" = some (.str "(" ad.tOPENED)
  z_OPENED : ad.tOPENED ≠ 0
  m_CLOSED : mg "CLOSED" = some (.str ")" ad.tCLOSED)
  z_CLOSED : ad.tCLOSED ≠ 0
  m_MOST_TIMES : mg "MOST_TIMES" = some (.int 60 ad.tMOST_TIMES)
  m_MOST_DEEP : mg "MOST_DEEP" = some (.int 4 ad.tMOST_DEEP)
  c_NoText : ExcCls K mg "NoText" ad.NoText
  c_NoNumber : ExcCls K mg "NoNumber" ad.NoNumber
  x_NoText_BenchError : PySem.W.exmOne K (.ref ad.NoText) (.ref ad.BenchError) = some true
  x_NoNumber_NoNumber : PySem.W.exmOne K (.ref ad.NoNumber) (.ref ad.NoNumber) = some true
  k_NoText_NoText : PySem.W.kitOne K (.ref ad.NoText) (.ref ad.NoText) = some true
  k_NoText_ValueError : PySem.W.kitOne K (.ref ad.NoText) (.type "ValueError") = some true
  k_NoText_NoNumber : PySem.W.kitOne K (.ref ad.NoText) (.ref ad.NoNumber) = some false
  k_NoText_NoBench : PySem.W.kitOne K (.ref ad.NoText) (.ref ad.NoBench) = some false
  k_NoText_NoTable : PySem.W.kitOne K (.ref ad.NoText) (.ref ad.NoTable) = some false
  k_NoText_NoBox : PySem.W.kitOne K (.ref ad.NoText) (.ref ad.NoBox) = some false
  k_NoText_NoStock : PySem.W.kitOne K (.ref ad.NoText) (.ref ad.NoStock) = some false
  k_NoText_NoWish : PySem.W.kitOne K (.ref ad.NoText) (.ref ad.NoWish) = some false
  k_NoText_NoRow : PySem.W.kitOne K (.ref ad.NoText) (.ref ad.NoRow) = some false
  k_NoText_Unknown : PySem.W.kitOne K (.ref ad.NoText) (.ref ad.Unknown) = some false
  e_NoText : ExcK K ad.NoText
  l_Reader : Cls K ad.Reader
  i_Reader : MkFn K mg "Reader" ad.Reader "Reader.__init__" s_Reader_init
  q_Reader_is_done : MtFn K ad.Reader "is_done" "Reader.is_done" s_Reader_is_done
  q_Reader_take : MtFn K ad.Reader "take" "Reader.take" s_Reader_take
  q_Reader_take_if : MtFn K ad.Reader "take_if" "Reader.take_if" s_Reader_take_if
  n_Reader_words : NoAttr K ad.Reader "words"
  n_Reader_place : NoAttr K ad.Reader "place"
structure Txt (K : PySem.W.Frag) (mg : Str → Option Value) (ad : Adr) : Prop where
  ex : Exc K mg ad
  ValueError : mg "ValueError" = none
  abs : mg "abs" = none
  all : mg "all" = none
  bool : mg "bool" = none
  int : mg "int" = none
  isinstance : mg "isinstance" = none
  len : mg "len" = none
  range : mg "range" = none
  str : mg "str" = none
  tuple : mg "tuple" = none
  t_is_whole : TopFn K mg "is_whole" s_is_whole
  t_common_divisor : TopFn K mg "common_divisor" s_common_divisor
  t_is_ratio : TopFn K mg "is_ratio" s_is_ratio
  t_is_less : TopFn K mg "is_less" s_is_less
  t_show_ratio : TopFn K mg "show_ratio" s_show_ratio
  t_read_part_figures : TopFnA K mg "read_part_figures" "read_part" s_read_part_figures
  t_read_ratio : TopFn K mg "read_ratio" s_read_ratio
  t_is_piece : TopFn K mg "is_piece" s_is_piece
  t_words_of : TopFn K mg "words_of" s_words_of
  t_read_number : TopFn K mg "read_number" s_read_number
  t_read_times : TopFn K mg "read_times" s_read_times
  t_read_round : TopFn K mg "read_round" s_read_round
  t_read_part_texts : TopFnA K mg "read_part_texts" "read_part" s_read_part_texts
  t_read_parts : TopFn K mg "read_parts" s_read_parts
  t_count_of : TopFn K mg "count_of" s_count_of
  t_told_out : TopFn K mg "told_out" s_told_out
  t_read_bench : TopFn K mg "read_bench" s_read_bench
  t__law_cell_at : TopFn K mg "_law_cell_at" s__law_cell_at
  t__law_drawn : TopFn K mg "_law_drawn" s__law_drawn
  t__law_draw : TopFn K mg "_law_draw" s__law_draw
  t__law_low : TopFn K mg "_law_low" s__law_low
  t__law_under : TopFn K mg "_law_under" s__law_under
  t__law_part : TopFn K mg "_law_part" s__law_part
  t__law_piece : TopFn K mg "_law_piece" s__law_piece
  t__law_written : TopFn K mg "_law_written" s__law_written
  t__law_shown : TopFn K mg "_law_shown" s__law_shown
  t__law_piece_text : TopFn K mg "_law_piece_text" s__law_piece_text
  t__law_text : TopFn K mg "_law_text" s__law_text
  t__law_kinds : TopFn K mg "_law_kinds" s__law_kinds
  t__law_refused : TopFn K mg "_law_refused" s__law_refused
  t__law_numbers : TopFn K mg "_law_numbers" s__law_numbers
  t__law_signs : TopFn K mg "_law_signs" s__law_signs
  t__law_rounds : TopFn K mg "_law_rounds" s__law_rounds
  t__law_bad : TopFn K mg "_law_bad" s__law_bad
theorem exc_mk {K : PySem.W.Frag} {h : Heap} {mg : Str → Option Value} {CBenchError CNoNumber CNoText CNoTable CNoBox CNoStock CNoWish CNoRow CUnknown CNoBench CReader : Addr} {cdNoText : ClassData} {tGAP : Tok} {tGLASS : Tok} {tSTOP : Tok} {tMOST_PIECES : Tok} {tFIGURES : Tok} {tMOST_FIGURES : Tok} {tPARTED : Tok} {tTIMES : Tok} {tOPENED : Tok} {tCLOSED : Tok} {tMOST_TIMES : Tok} {tMOST_DEEP : Tok} {f_Reader_init : Addr} {oc_Reader_init : Value} {od_Reader_init an_Reader_init : Option Addr} {sl_Reader_init : Array (Option Value)} {kV_Reader_init dc_Reader_init pm_Reader_init cd_Reader_init ct_Reader_init : Value} {f_Reader_is_done : Addr} {oc_Reader_is_done : Value} {od_Reader_is_done an_Reader_is_done : Option Addr} {sl_Reader_is_done : Array (Option Value)} {kV_Reader_is_done dc_Reader_is_done pm_Reader_is_done cd_Reader_is_done ct_Reader_is_done : Value} {f_Reader_take : Addr} {oc_Reader_take : Value} {od_Reader_take an_Reader_take : Option Addr} {sl_Reader_take : Array (Option Value)} {kV_Reader_take dc_Reader_take pm_Reader_take cd_Reader_take ct_Reader_take : Value} {f_Reader_take_if : Addr} {oc_Reader_take_if : Value} {od_Reader_take_if an_Reader_take_if : Option Addr} {sl_Reader_take_if : Array (Option Value)} {kV_Reader_take_if dc_Reader_take_if pm_Reader_take_if cd_Reader_take_if ct_Reader_take_if : Value} (X : K.In h) (G : h.Ns mainGlobals mg) (m_BenchError : PySem.W.nsIn K mainGlobals "BenchError" = some (some (.ref CBenchError))) (m_NoNumber : PySem.W.nsIn K mainGlobals "NoNumber" = some (some (.ref CNoNumber))) (m_NoText : PySem.W.nsIn K mainGlobals "NoText" = some (some (.ref CNoText))) (m_NoTable : PySem.W.nsIn K mainGlobals "NoTable" = some (some (.ref CNoTable))) (m_NoBox : PySem.W.nsIn K mainGlobals "NoBox" = some (some (.ref CNoBox))) (m_NoStock : PySem.W.nsIn K mainGlobals "NoStock" = some (some (.ref CNoStock))) (m_NoWish : PySem.W.nsIn K mainGlobals "NoWish" = some (some (.ref CNoWish))) (m_NoRow : PySem.W.nsIn K mainGlobals "NoRow" = some (some (.ref CNoRow))) (m_Unknown : PySem.W.nsIn K mainGlobals "Unknown" = some (some (.ref CUnknown))) (m_NoBench : PySem.W.nsIn K mainGlobals "NoBench" = some (some (.ref CNoBench))) (m_Reader : PySem.W.nsIn K mainGlobals "Reader" = some (some (.ref CReader))) (m_GAP : PySem.W.nsIn K mainGlobals "GAP" = some (some (.str "gap" tGAP))) (z_GAP : tGAP ≠ 0) (m_GLASS : PySem.W.nsIn K mainGlobals "GLASS" = some (some (.str "glass" tGLASS))) (z_GLASS : tGLASS ≠ 0) (m_STOP : PySem.W.nsIn K mainGlobals "STOP" = some (some (.str "stop" tSTOP))) (z_STOP : tSTOP ≠ 0) (m_MOST_PIECES : PySem.W.nsIn K mainGlobals "MOST_PIECES" = some (some (.int 60 tMOST_PIECES))) (m_FIGURES : PySem.W.nsIn K mainGlobals "FIGURES" = some (some (.str "0123456789" tFIGURES))) (z_FIGURES : tFIGURES ≠ 0) (m_MOST_FIGURES : PySem.W.nsIn K mainGlobals "MOST_FIGURES" = some (some (.int 15 tMOST_FIGURES))) (m_PARTED : PySem.W.nsIn K mainGlobals "PARTED" = some (some (.str ";" tPARTED))) (z_PARTED : tPARTED ≠ 0) (m_TIMES : PySem.W.nsIn K mainGlobals "TIMES" = some (some (.str "times" tTIMES))) (z_TIMES : tTIMES ≠ 0) (m_OPENED : PySem.W.nsIn K mainGlobals "OPENED" = some (some (.str "(" tOPENED))) (z_OPENED : tOPENED ≠ 0) (m_CLOSED : PySem.W.nsIn K mainGlobals "CLOSED" = some (some (.str ")" tCLOSED))) (z_CLOSED : tCLOSED ≠ 0) (m_MOST_TIMES : PySem.W.nsIn K mainGlobals "MOST_TIMES" = some (some (.int 60 tMOST_TIMES))) (m_MOST_DEEP : PySem.W.nsIn K mainGlobals "MOST_DEEP" = some (some (.int 4 tMOST_DEEP))) (o_NoText : PySem.W.excIn K CNoText [.type "ValueError", .type "Exception", .type "BaseException", .type "object"] "ValueError.__new__" = true) (o_NoNumber : PySem.W.excIn K CNoNumber [.type "ValueError", .type "Exception", .type "BaseException", .type "object"] "ValueError.__new__" = true) (x_NoText_BenchError : PySem.W.exmOne K (.ref CNoText) (.ref CBenchError) = some true) (x_NoNumber_NoNumber : PySem.W.exmOne K (.ref CNoNumber) (.ref CNoNumber) = some true) (k_NoText_NoText : PySem.W.kitOne K (.ref CNoText) (.ref CNoText) = some true) (k_NoText_ValueError : PySem.W.kitOne K (.ref CNoText) (.type "ValueError") = some true) (k_NoText_NoNumber : PySem.W.kitOne K (.ref CNoText) (.ref CNoNumber) = some false) (k_NoText_NoBench : PySem.W.kitOne K (.ref CNoText) (.ref CNoBench) = some false) (k_NoText_NoTable : PySem.W.kitOne K (.ref CNoText) (.ref CNoTable) = some false) (k_NoText_NoBox : PySem.W.kitOne K (.ref CNoText) (.ref CNoBox) = some false) (k_NoText_NoStock : PySem.W.kitOne K (.ref CNoText) (.ref CNoStock) = some false) (k_NoText_NoWish : PySem.W.kitOne K (.ref CNoText) (.ref CNoWish) = some false) (k_NoText_NoRow : PySem.W.kitOne K (.ref CNoText) (.ref CNoRow) = some false) (k_NoText_Unknown : PySem.W.kitOne K (.ref CNoText) (.ref CUnknown) = some false) (ecl_NoText : PySem.W.clsIn K CNoText = some cdNoText) (ega_NoText : PySem.W.findIn K (.ref CNoText) "__getattribute__" = some (some (.builtin "BaseException.__getattribute__"))) (egt_NoText : PySem.W.findIn K (.ref CNoText) "__getattr__" = some none) (eha_NoText : PySem.W.findIn K (.ref CNoText) "__class__" = some (some (.builtin "object.__class__"))) (ehn_NoText : PySem.W.specialIn K (.builtin "object.__class__") "__get__" = some (some (.builtin "getset_descriptor.__get__"))) (eht_NoText : PySem.W.takesIn K (.builtin "object.__class__") = some true) (ehm_NoText : PySem.W.mroIn K CNoText (.type "object") = some true) (ehb_NoText : PySem.W.mroIn K CNoText (.type "BaseException") = some true) (pg_Reader : PySem.W.plainGet K CReader Str.empty = true) (hd_Reader : PySem.W.hasDictIn K CReader = true) (po_Reader : PySem.W.plainOver K CReader = true) (sa_Reader : PySem.W.findIn K (.ref CReader) "__setattr__" = some (some (.builtin "object.__setattr__"))) (mk_Reader_init : PySem.W.makesIn K CReader = true) (a_Reader_init : PySem.W.findIn K (.ref CReader) "__init__" = some (some (.ref f_Reader_init))) (fn_Reader_init : PySem.W.isFn K (.ref f_Reader_init) = true) (kc_Reader_init : PySem.W.keepIn K (.ref CReader) = true) (l_Reader_init : K.lookup f_Reader_init = some ⟨oc_Reader_init, od_Reader_init, .func (PySem.W.fnOf "__init__" "Reader.__init__" (defArgs s_Reader_init) (defBody s_Reader_init) (defScope s_Reader_init) .none kV_Reader_init dc_Reader_init pm_Reader_init an_Reader_init cd_Reader_init ct_Reader_init), sl_Reader_init⟩) (c_Reader_init : PySem.W.codeIn K cd_Reader_init "Reader.__init__" = true) (kp_Reader_init : PySem.W.keepIn K (.ref f_Reader_init) = true) (a_Reader_is_done : PySem.W.findIn K (.ref CReader) "is_done" = some (some (.ref f_Reader_is_done))) (fn_Reader_is_done : PySem.W.isFn K (.ref f_Reader_is_done) = true) (kp_Reader_is_done : PySem.W.keepIn K (.ref f_Reader_is_done) = true) (l_Reader_is_done : K.lookup f_Reader_is_done = some ⟨oc_Reader_is_done, od_Reader_is_done, .func (PySem.W.fnOf "is_done" "Reader.is_done" (defArgs s_Reader_is_done) (defBody s_Reader_is_done) (defScope s_Reader_is_done) .none kV_Reader_is_done dc_Reader_is_done pm_Reader_is_done an_Reader_is_done cd_Reader_is_done ct_Reader_is_done), sl_Reader_is_done⟩) (c_Reader_is_done : PySem.W.codeIn K cd_Reader_is_done "Reader.is_done" = true) (a_Reader_take : PySem.W.findIn K (.ref CReader) "take" = some (some (.ref f_Reader_take))) (fn_Reader_take : PySem.W.isFn K (.ref f_Reader_take) = true) (kp_Reader_take : PySem.W.keepIn K (.ref f_Reader_take) = true) (l_Reader_take : K.lookup f_Reader_take = some ⟨oc_Reader_take, od_Reader_take, .func (PySem.W.fnOf "take" "Reader.take" (defArgs s_Reader_take) (defBody s_Reader_take) (defScope s_Reader_take) .none kV_Reader_take dc_Reader_take pm_Reader_take an_Reader_take cd_Reader_take ct_Reader_take), sl_Reader_take⟩) (c_Reader_take : PySem.W.codeIn K cd_Reader_take "Reader.take" = true) (a_Reader_take_if : PySem.W.findIn K (.ref CReader) "take_if" = some (some (.ref f_Reader_take_if))) (fn_Reader_take_if : PySem.W.isFn K (.ref f_Reader_take_if) = true) (kp_Reader_take_if : PySem.W.keepIn K (.ref f_Reader_take_if) = true) (l_Reader_take_if : K.lookup f_Reader_take_if = some ⟨oc_Reader_take_if, od_Reader_take_if, .func (PySem.W.fnOf "take_if" "Reader.take_if" (defArgs s_Reader_take_if) (defBody s_Reader_take_if) (defScope s_Reader_take_if) .none kV_Reader_take_if dc_Reader_take_if pm_Reader_take_if an_Reader_take_if cd_Reader_take_if ct_Reader_take_if), sl_Reader_take_if⟩) (c_Reader_take_if : PySem.W.codeIn K cd_Reader_take_if "Reader.take_if" = true) (n_Reader_words : PySem.W.findIn K (.ref CReader) "words" = some none) (n_Reader_place : PySem.W.findIn K (.ref CReader) "place" = some none) : Exc K mg ⟨0, CBenchError, CNoNumber, CNoText, CNoTable, CNoBox, CNoStock, CNoWish, CNoRow, CUnknown, CNoBench, CReader, tGAP, tGLASS, tSTOP, tMOST_PIECES, tFIGURES, tMOST_FIGURES, tPARTED, tTIMES, tOPENED, tCLOSED, tMOST_TIMES, tMOST_DEEP⟩ := ⟨trivial, PySem.W.mg_of X G m_BenchError, PySem.W.mg_of X G m_NoNumber, PySem.W.mg_of X G m_NoText, PySem.W.mg_of X G m_NoTable, PySem.W.mg_of X G m_NoBox, PySem.W.mg_of X G m_NoStock, PySem.W.mg_of X G m_NoWish, PySem.W.mg_of X G m_NoRow, PySem.W.mg_of X G m_Unknown, PySem.W.mg_of X G m_NoBench, PySem.W.mg_of X G m_Reader, PySem.W.mg_of X G m_GAP, z_GAP, PySem.W.mg_of X G m_GLASS, z_GLASS, PySem.W.mg_of X G m_STOP, z_STOP, PySem.W.mg_of X G m_MOST_PIECES, PySem.W.mg_of X G m_FIGURES, z_FIGURES, PySem.W.mg_of X G m_MOST_FIGURES, PySem.W.mg_of X G m_PARTED, z_PARTED, PySem.W.mg_of X G m_TIMES, z_TIMES, PySem.W.mg_of X G m_OPENED, z_OPENED, PySem.W.mg_of X G m_CLOSED, z_CLOSED, PySem.W.mg_of X G m_MOST_TIMES, PySem.W.mg_of X G m_MOST_DEEP, ⟨PySem.W.mg_of X G m_NoText, o_NoText⟩, ⟨PySem.W.mg_of X G m_NoNumber, o_NoNumber⟩, x_NoText_BenchError, x_NoNumber_NoNumber, k_NoText_NoText, k_NoText_ValueError, k_NoText_NoNumber, k_NoText_NoBench, k_NoText_NoTable, k_NoText_NoBox, k_NoText_NoStock, k_NoText_NoWish, k_NoText_NoRow, k_NoText_Unknown, ⟨by rw [ecl_NoText]; rfl, ega_NoText, egt_NoText, eha_NoText, ehn_NoText, eht_NoText, ehm_NoText, ehb_NoText⟩, ⟨pg_Reader, hd_Reader, po_Reader, sa_Reader⟩, ⟨⟨_, _, fun_mk l_Reader_init c_Reader_init kp_Reader_init, ⟨mk_Reader_init, a_Reader_init, fn_Reader_init, kc_Reader_init⟩⟩, PySem.W.mg_of X G m_Reader⟩, ⟨⟨_, _, fun_mk l_Reader_is_done c_Reader_is_done kp_Reader_is_done, ⟨a_Reader_is_done, fn_Reader_is_done, kp_Reader_is_done⟩⟩, ⟨pg_Reader, hd_Reader, po_Reader, sa_Reader⟩⟩, ⟨⟨_, _, fun_mk l_Reader_take c_Reader_take kp_Reader_take, ⟨a_Reader_take, fn_Reader_take, kp_Reader_take⟩⟩, ⟨pg_Reader, hd_Reader, po_Reader, sa_Reader⟩⟩, ⟨⟨_, _, fun_mk l_Reader_take_if c_Reader_take_if kp_Reader_take_if, ⟨a_Reader_take_if, fn_Reader_take_if, kp_Reader_take_if⟩⟩, ⟨pg_Reader, hd_Reader, po_Reader, sa_Reader⟩⟩, n_Reader_words, n_Reader_place⟩
section
variable {P : Program} {w : World} {K : PySem.W.Frag} {mg : Str → Option Value} {base : Heap} {ad : Adr} {c : Bool}
theorem c_is_whole (T : Txt K mg ad) : CalB P w K mg base true 1 "is_whole" ["thing"] (spW K) := by
  refine T.t_is_whole.calN sc_is_whole (fun _ _ _ _ _ _ => by1 fun _ => rfl) (fun vs H Q E h => ?_) (fun f cdv A outer s H vs Q E hr h => ?_)
  · obtain ⟨v, d, rfl, _⟩ := h; rfl
  obtain ⟨v, d, rfl, hv, q⟩ := h
  obtain ⟨b, b', hb, hc, e⟩ := isInt_b d
  refine ⟨_, (pss_one (ps_ret (pe_and (pe_callB call_isiD rfl T.isinstance bt_isinstance (pa_name (pv 0) (pa_name (pe_bltn (v := .ty "int") rfl T.int bt_int rfl) pa_nil))) (pe_one (pe_not (pe_callB call_isiD rfl T.isinstance bt_isinstance (pa_name (pv 0) (pa_name (pe_bltn (v := .ty "bool") rfl T.bool bt_bool rfl) pa_nil)))))))), ?_⟩
  refine ⟨_, rfl, _, _, _, b, rfl, hv, hb, _, rfl, ?_⟩
  cases b with
  | false =>
    have e' : isIntD d = false := e.symm
    rw [e'] at q
    exact iteF q
  | true =>
    refine iteT ?_
    refine ⟨_, rfl, _, _, _, b', rfl, hv, hc, _, rfl, ?_⟩
    have e' : (!b') = isIntD d := e
    show Q (.bl (!b')) H
    rw [e']
    exact q
theorem c_common_divisor (T : Txt K mg ad) : CalB P w K mg base true 1 "common_divisor" ["one", "other"] spDiv := by
  refine T.t_common_divisor.calN sc_common_divisor (fun _ _ _ _ _ _ => by2 fun _ _ => rfl) (fun vs H Q E h => ?_) (fun f cdv A outer s H vs Q E hr h => ?_)
  · obtain ⟨a, b, rfl, _⟩ := h; rfl
  obtain ⟨a, b, rfl, q⟩ := h
  refine ⟨_, (pss_cons (ps_set (i := 2) sc_common_divisor.nd rfl (Or.inl rfl) (pe_callB call_abs rfl T.abs bt_abs (pa_name (pv 0) pa_nil))) (pss_cons (ps_set (i := 3) sc_common_divisor.nd rfl (Or.inl rfl) (pe_callB call_abs rfl T.abs bt_abs (pa_name (pv 1) pa_nil))) (pss_cons (ps_while PassesOwn.never (pt_cmpR op_ne (pv 3) pe_int (nomark _)) (pss_cons (ps_set (i := 4) sc_common_divisor.nd rfl (Or.inl rfl) (pe_op op_mod (pv 2) (pv 3))) (pss_cons (ps_set (i := 2) sc_common_divisor.nd rfl (Or.inl rfl) (pv 3)) (pss_one (ps_set (i := 3) sc_common_divisor.nd rfl (Or.inl rfl) (pv 4)))))) (pss_one (ps_ret (pv 2)))))), ?_⟩
  refine ⟨_, rfl, _, rfl, _, rfl, _, rfl, ?_⟩
  have ea := Fr.absE a
  have eb := Fr.absE b
  refine ⟨fun k σ H' => H = H' ∧ ∃ (m : Nat) (r : Option V), σ = [some (.int a), some (.int b), some (.int m), some (.int k), r] ∧ Nat.gcd m k = Nat.gcd a.natAbs b.natAbs, ⟨b.natAbs, rfl, a.natAbs, none, by rw [← ea, ← eb]; rfl, rfl⟩, ?_⟩
  rintro n _ _ ⟨rfl, m, r, rfl, e⟩
  refine ⟨_, rfl, rfl, _, rfl, ?_⟩
  refine ite2 (fun c => ?_) (fun c => ?_)
  · have hn : n ≠ 0 := by
      intro z
      subst z
      simp at c
    have h1 : (m : Int) % (n : Int) = ((m % n : Nat) : Int) := (Int.natCast_emod m n).symm
    refine ⟨fun σ' H' => H = H' ∧ σ' = [some (.int a), some (.int b), some (.int n), some (.int ((m : Int) % (n : Int))), some (.int ((m : Int) % (n : Int)))], ?_, ?_⟩
    · rintro _ _ ⟨rfl, rfl⟩
      rw [h1]
      exact ⟨m % n, Nat.mod_lt _ (by omega), rfl, n, _, rfl, by rw [Fr.gcd_turn, e]⟩
    · exact ⟨_, rfl, _, rfl, _, _, rfl, rfl, (by show (0 : Int) < (n : Int); omega), _, rfl, _, rfl, rfl, rfl⟩
  · have hn : n = 0 := by
      by_cases z : n = 0
      · exact z
      · exfalso
        apply c
        rw [decI]
        simp
        omega
    subst hn
    refine ⟨_, rfl, ?_⟩
    have e2 : (m : Int) = Fr.gcd a b := by
      unfold Fr.gcd
      rw [← e, Nat.gcd_zero_right]
    rw [e2]
    exact q
theorem c_is_ratio_any (T : Txt K mg ad) : CalB P w K mg base true 2 "is_ratio" ["thing"] (spRat K) := by
  have C_is_whole := c_is_whole (P := P) (w := w) (base := base) T
  have C_common_divisor := c_common_divisor (P := P) (w := w) (base := base) T
  refine T.t_is_ratio.calN sc_is_ratio (fun _ _ _ _ _ _ => by1 fun _ => rfl) (fun vs H Q E h => ?_) (fun f cdv A outer s H vs Q E hr h => ?_)
  · obtain ⟨_, _, rfl, _⟩ := h; rfl
  obtain ⟨v, d, rfl, hv, q⟩ := h
  refine ⟨_, (pss_cons (ps_if (PW.pt (pw_or (pt_not (pt_val (pe_callB call_isiD rfl T.isinstance bt_isinstance (pa_name (pv 0) (pa_name (pe_bltn (v := .ty "tuple") rfl T.tuple bt_tuple rfl) pa_nil))))) (pw_or1 (pt_cmpR op_ne (pe_callB call_len_seq rfl T.len bt_len (pa_name (pv 0) pa_nil)) pe_int (nomark _))))) (pss_one (ps_ret pe_bl)) pss_nil) (pss_cons (ps_set (i := 1) sc_is_ratio.nd rfl (Or.inl rfl) (pe_ix ix_tup (pv 0) pe_int (fun _ _ => rfl))) (pss_cons (ps_set (i := 2) sc_is_ratio.nd rfl (Or.inl rfl) (pe_ix ix_tup (pv 0) pe_int (fun _ _ => rfl))) (pss_cons (ps_if (PW.pt (pw_or (pt_not (pt_val (pe_cB C_is_whole (hr.mono (by decide)) pass01 (pa_name (pv 1) pa_nil)))) (pw_or1 (pt_not (pt_val (pe_cB C_is_whole (hr.mono (by decide)) pass01 (pa_name (pv 2) pa_nil))))))) (pss_one (ps_ret pe_bl)) pss_nil) (pss_one (ps_ret (pe_and (pe_cmpR op_ge (pv 2) pe_int (nomark _)) (pe_one (pe_cmpR op_eq (pe_cB C_common_divisor (hr.mono (by decide)) pass01 (pa_name (pv 1) (pa_name (pv 2) pa_nil))) pe_int (nomark _)))))))))), ?_⟩
  refine ⟨_, rfl, _, _, _, _, rfl, hv, isTup_b d, _, rfl, ?_⟩
  cases ht : isTupD d with
  | false =>
    refine iteT (iteT ?_)
    rw [ratD_no ht] at q
    exact q
  | true =>
    obtain ⟨ds, rfl⟩ := isTup_of ht
    obtain ⟨a, xs, rfl, ha, hds⟩ := hv.tup_of
    refine iteF ?_
    refine ⟨_, rfl, a, _, rfl, .inr ha, rfl, _, rfl, ?_⟩
    by_cases hl : ds.length = 2
    · obtain ⟨d1, d2, rfl⟩ : ∃ d1 d2, ds = [d1, d2] := by
        match ds, hl with
        | [d1, d2], _ => exact ⟨d1, d2, rfl⟩
      obtain ⟨x, y, rfl, hx, hy⟩ := hds.two
      refine iteF ?_
      refine ⟨_, rfl, a, _, _, _, rfl, rfl, ha, rfl, ?_⟩
      refine ⟨_, rfl, a, _, _, _, rfl, rfl, ha, rfl, ?_⟩
      refine ⟨_, rfl, _, _, rfl, hx, _, rfl, ?_⟩
      cases h1 : isIntD d1 with
      | false =>
        refine iteT (iteT ?_)
        rw [ratD_two (.inl h1)] at q
        exact q
      | true =>
        refine iteF ?_
        refine ⟨_, rfl, _, _, rfl, hy, _, rfl, ?_⟩
        cases h2 : isIntD d2 with
        | false =>
          refine iteT ?_
          rw [ratD_two (.inr h2)] at q
          exact q
        | true =>
          obtain ⟨i, rfl⟩ := isInt_of h1
          obtain ⟨j, rfl⟩ := isInt_of h2
          obtain rfl := hx.int_of
          obtain rfl := hy.int_of
          refine iteF ?_
          refine ⟨_, rfl, _, _, rfl, rfl, _, rfl, ?_⟩
          have q' : Q (.bl (decide (1 ≤ j) && decide (Fr.gcd i j = 1))) H := q
          refine ite2 (fun c => ?_) (fun c => ?_)
          · have c' : decide (1 ≤ j) = true := c
            rw [c', Bool.true_and] at q'
            refine ⟨_, rfl, _, rfl, i, j, rfl, rfl, ?_⟩
            show Q (.bl (decide (V.int (Fr.gcd i j) = V.int 1))) H
            rw [decI]
            exact q'
          · have c' : decide (1 ≤ j) = false := Bool.eq_false_iff.mpr c
            rw [c', Bool.false_and] at q'
            exact q'
    · have e : decide (V.int ((xs.length : Nat) : Int) = V.int 2) = false := by
        rw [decI]
        exact decide_eq_false (by have := hds.len; omega)
      show if (!decide (V.int ((xs.length : Nat) : Int) = V.int 2)) = true then _ else _
      rw [e]
      refine iteT ?_
      rw [ratD_len hl] at q
      exact q
theorem c_is_less (T : Txt K mg ad) : CalB P w K mg base true 1 "is_less" ["one", "other"] (PR K RLess) := by
  refine T.t_is_less.calN sc_is_less (fun _ _ _ _ _ _ => by2 fun _ _ => rfl) (fun vs H Q E h => ?_) (fun f cdv A outer s H vs Q E hr h => ?_)
  · obtain ⟨_, _, dv, ⟨_, _, rfl, _⟩, _⟩ := h; exact dv.len
  obtain ⟨_, _, dv, ⟨p, q, rfl, sp, sq, rfl⟩, k⟩ := h
  obtain ⟨_, _, rfl, hx, hy⟩ := dv.two
  obtain ⟨a, rfl, ha⟩ := hx.fr
  obtain ⟨b, rfl, hb⟩ := hy.fr
  refine ⟨_, (pss_one (ps_ret (pe_cmpR op_lt (pe_op op_mulW (pe_ix ix_tup (pv 0) pe_int (fun _ _ => rfl)) (pe_ix ix_tup (pv 1) pe_int (fun _ _ => rfl))) (pe_op op_mulW (pe_ix ix_tup (pv 1) pe_int (fun _ _ => rfl)) (pe_ix ix_tup (pv 0) pe_int (fun _ _ => rfl))) (nomark _)))), ?_⟩
  refine ⟨_, rfl, a, _, _, _, rfl, rfl, ha, rfl, _, rfl, b, _, _, _, rfl, rfl, hb, rfl, _, _, rfl, rfl, mulW sp.n sq.dn, ?_⟩
  refine ⟨_, rfl, b, _, _, _, rfl, rfl, hb, rfl, _, rfl, a, _, _, _, rfl, rfl, ha, rfl, _, _, rfl, rfl, mulW sq.n sp.dn, _, _, rfl, rfl, ?_⟩
  have e : decide (p.num * (q.den : Int) < q.num * (p.den : Int)) = decide (p < q) := decide_eq_decide.mpr (Fr.lt_rat p q)
  show Q (.bl (decide (p.num * (q.den : Int) < q.num * (p.den : Int)))) H
  rw [e]
  exact k _ _ (Same.refl _) (.bl _)
end
end K12
namespace K12
open PySem L2 Lib Fr Op
seal PE PT PW PA PS PSs PG PI PO PIfs
end K12
namespace K12
open PySem L2 Lib Fr Op Tx PySem.NumText
seal PE PT PW PA PS PSs PG PI PO PIfs PJ
section
variable {P : Program} {w : World} {K : PySem.W.Frag} {mg : PySem.Str → Option Value} {base : Heap} {ad : Adr} {c : Bool}
theorem g_show_ratio (T : Txt K mg ad) : CalB P w K mg base true 1 "show_ratio" ["one"] (spShowD K) := by
  refine T.t_show_ratio.calN sc_show_ratio (fun _ _ _ _ _ _ => by1 fun _ => rfl) (fun vs H Q E h => ?_) (fun f cdv A outer s H vs Q E hr h => ?_)
  · obtain ⟨_, _, rfl, _⟩ := h; rfl
  obtain ⟨v, p, rfl, hv, sp, q⟩ := h
  have hn := log_15 sp.n
  have hd := log_15 sp.d
  obtain ⟨a, y1, y2, rfl, h, e1, e2⟩ := DV.t2 (show DV K H v (.tuple [.int p.num, .int (p.den : Int)]) from hv)
  obtain rfl := DV.int_of e1
  obtain rfl := DV.int_of e2
  refine ⟨_, (pss_cons (ps_set (i := 1) sc_show_ratio.nd rfl (Or.inl rfl) (pe_ix ix_tup (pv 0) pe_int (fun _ _ => rfl))) (pss_cons (ps_set (i := 2) sc_show_ratio.nd rfl (Or.inl rfl) (pe_ix ix_tup (pv 0) pe_int (fun _ _ => rfl))) (pss_cons (ps_if (pt_cmpR op_eq (pv 2) pe_int (nomark _)) (pss_one (ps_ret (pe_callTy call_str_int rfl T.str bt_str (pa_name (pv 1) pa_nil)))) pss_nil) (pss_one (ps_ret (pe_joined (pj_fmt (pv 1) (pj_str (pj_fmt (pv 2) pj_nil))))))))), ?_⟩
  refine ⟨_, rfl, a, _, _, _, rfl, rfl, h, rfl, ?_⟩
  refine ⟨_, rfl, a, _, _, _, rfl, rfl, h, rfl, ?_⟩
  refine ⟨_, rfl, rfl, _, rfl, ?_⟩
  have e1 : ∀ x : PySem.Str, cl x = sh p → x = shS p := fun x hx => ext (hx.trans (cl_shS p).symm)
  refine ite2 (fun c1 => ?_) (fun c1 => ?_)
  · have d1 : p.den = 1 := by
      have z : decide (V.int (p.den : Int) = V.int 1) = true := c1
      rw [decI] at z
      have := of_decide_eq_true z
      omega
    refine ⟨_, rfl, _, rfl, hn, ?_⟩
    have e2 : PySem.Str.ofString (toString p.num) = shS p := e1 _ (by rw [cl_num]; unfold sh; rw [if_pos d1, List.append_nil])
    show Q (.str (PySem.Str.ofString (toString p.num))) H
    rw [e2]
    exact q
  · have d1 : ¬ p.den = 1 := by
      intro e
      apply c1
      show decide (V.int (p.den : Int) = V.int 1) = true
      rw [decI, e]
      rfl
    have nl : ((p.den : Int)).natAbs.log2 < 1920 := by rw [Int.natAbs_natCast]; exact hd
    have z1 := cl_num_len hn
    have z2 := cl_num_len nl
    have z0 : PySem.Str.empty.length = 0 := rfl
    have zs : (PySem.Str.ofString "/").length = 1 := rfl
    refine ⟨_, rfl, _, .inl ⟨_, rfl, hn, rfl⟩, size2 (by rw [app_len]; omega), size2 (by rw [app_len, app_len]; omega), _, rfl, _, .inl ⟨_, rfl, nl, rfl⟩, size2 (by rw [app_len, app_len, app_len]; omega), size2 (by rw [app_len, app_len, app_len]; omega), ?_⟩
    have e2 := e1 _ (show cl ((PySem.Str.empty ++ PySem.Str.ofString (toString p.num)) ++ (PySem.Str.ofString "/") ++ PySem.Str.ofString (toString ((p.den : Nat) : Int))) = sh p by
      rw [txt_frac, cl, List.toList_toArray]
      unfold sh
      rw [if_neg d1])
    show Q (.str ((PySem.Str.empty ++ PySem.Str.ofString (toString p.num)) ++ (PySem.Str.ofString "/") ++ PySem.Str.ofString (toString ((p.den : Nat) : Int)))) H
    rw [e2]
    exact q
end
end K12
namespace K12
open PySem L2 Lib Fr Op Tx PySem.NumText
seal PE PT PW PA PS PSs PG PI PO PIfs PJ
section
variable {P : Program} {w : World} {K : PySem.W.Frag} {mg : PySem.Str → Option Value} {base : Heap} {ad : Adr} {c : Bool}
theorem k_Reader (T : Txt K mg ad) : MkC P w K mg base 1 "Reader" ad.Reader ["self", "words"] (spRInit ad.Reader) := by
  refine T.ex.i_Reader.mkc sc_Reader_init (fun _ _ _ _ _ _ => by2 fun _ _ => rfl) (fun vs H Q E h => ?_) (fun f cdv A outer s H vs Q E hr h => ?_)
  · obtain ⟨a, dx, wl, rfl, _⟩ := h; rfl
  obtain ⟨a, dx, wl, rfl, ha, q⟩ := h
  refine ⟨_, (pss_cons (ps_fldB (pv 0) (pv 1)) (pss_one (ps_fldB (pv 0) pe_int))), ?_⟩
  refine ⟨_, rfl, _, rfl, a, ad.Reader, dx, [], rfl, ha, T.ex.l_Reader, T.ex.n_Reader_words, by decide, ?_⟩
  refine ⟨_, rfl, a, ad.Reader, dx, [("words", .ref wl)], rfl, upd_same, T.ex.l_Reader, T.ex.n_Reader_place, by show 1 < 1000; decide, ?_⟩
  rw [upd_upd]
  exact q
theorem mc_is_done (T : Txt K mg ad) : MC P w K mg base 1 ad.Reader "is_done" ["self"] (spDone ad.Reader) := by
  refine T.ex.q_Reader_is_done.mc sc_Reader_is_done (fun _ _ _ _ _ _ => by1 fun _ => rfl) (fun vs H Q E h => ?_) (fun f cdv A outer s H vs Q E hr h => ?_)
  · obtain ⟨_, _, _, _, _, rfl, _⟩ := h; rfl
  obtain ⟨a, dx, wl, ws, i, rfl, rd, q⟩ := h
  refine ⟨_, (pss_one (ps_ret (pe_cmpR op_eq (pe_fldB (pv 0)) (pe_callB call_len_seq rfl T.len bt_len (pa_cons (pe_fldB (pv 0)) pa_nil)) (nomark _)))), ?_⟩
  refine ⟨_, rfl, a, _, dx, _, _, rfl, rd.r, T.ex.l_Reader, T.ex.n_Reader_place, rfl, _, rfl, a, _, dx, _, _, rfl, rd.r, T.ex.l_Reader, T.ex.n_Reader_words, rfl, wl, _, rfl, .inl (SqL.of rd.w), rfl, ?_⟩
  rw [decI, List.length_map, show decide (((i : Nat) : Int) = ((ws.length : Nat) : Int)) = decide (i = ws.length) from decide_eq_decide.mpr ⟨fun h => by omega, fun h => by omega⟩]
  exact q
theorem mc_take_if (T : Txt K mg ad) : MC P w K mg base 2 ad.Reader "take_if" ["self", "word"] (spTakeIf ad.Reader) := by
  refine T.ex.q_Reader_take_if.mc sc_Reader_take_if (fun _ _ _ _ _ _ => by2 fun _ _ => rfl) (fun vs H Q E h => ?_) (fun f cdv A outer s H vs Q E hr h => ?_)
  · obtain ⟨_, _, _, _, _, _, rfl, _⟩ := h; rfl
  obtain ⟨a, dx, wl, ws, i, z, rfl, rd, le, q1, q2⟩ := h
  refine ⟨_, (pss_cons (ps_if (PW.pt (pw_or (pt_val (pe_mB0 (k := 1) (pv 0) (hr.mono (by decide)))) (pw_or1 (pt_cmpR op_ne (pe_ix ix_list (pe_fldB (pv 0)) (pe_fldB (pv 0)) (fun _ _ => rfl)) (pv 1) (nomark _))))) (pss_one (ps_ret pe_bl)) pss_nil) (pss_cons (ps_fldaug (pv 0) pe_int in_add) (pss_one (ps_ret pe_bl)))), ?_⟩
  refine ⟨_, rfl, a, _, dx, _, _, _, rfl, rd.r, rfl, mc_is_done T, a, dx, wl, ws, i, rfl, rd, _, rfl, ?_⟩
  by_cases hi : i = ws.length
  · refine iteT' (decide_eq_true hi) (iteT (q2 fun e => ?_))
    have := lt_of_get e
    omega
  · refine iteF' (decide_eq_false hi) ?_
    have il : i < ws.length := by omega
    have hg : ws[i]? = some ws[i] := List.getElem?_eq_getElem il
    refine ⟨_, rfl, a, _, dx, _, _, rfl, rd.r, T.ex.l_Reader, T.ex.n_Reader_words, rfl, _, rfl, a, _, dx, _, _, rfl, rd.r, T.ex.l_Reader, T.ex.n_Reader_place, rfl, wl, _, _, .str ws[i], rfl, rfl, SqL.of rd.w, atI_nat (by rw [List.getElem?_map, hg]; rfl), _, rfl, rfl, _, rfl, ?_⟩
    by_cases hz : ws[i] = z
    · refine iteF' (by rw [decS, decide_eq_true hz]; rfl) ?_
      refine ⟨_, rfl, a, _, dx, _, _, rfl, rd.r, T.ex.l_Reader, T.ex.n_Reader_place, rfl, _, _, rfl, rfl, dx, _, rd.r, by show 2 < 1000; decide, ?_⟩
      have e : ((i : Int) + 1) = ((i + 1 : Nat) : Int) := by omega
      rw [e]
      exact q1 (by rw [hg, hz])
    · exact iteT' (by rw [decS, decide_eq_false hz]; rfl) (q2 (by rw [hg]; exact fun e => hz (Option.some.inj e)))
theorem g_words_of (T : Txt K mg ad) : CalB P w K mg base true 1 "words_of" ["text"] spWords := by
  refine T.t_words_of.calN sc_words_of (fun _ _ _ _ _ _ => by1 fun _ => rfl) (fun vs H Q E h => ?_) (fun f cdv A outer s H vs Q E hr h => ?_)
  · obtain ⟨_, rfl, _⟩ := h; rfl
  obtain ⟨x, rfl, hx, n4, wl, q⟩ := h
  refine ⟨_, (pss_cons (ps_set (i := 1) sc_words_of.nd rfl (Or.inl rfl) (pe_lst pa_nil)) (pss_cons (ps_for PassesOwn.never rfl (pi_list (pe_bm PySem.F.plainAttrs_str PySem.F.slot_str_split PySem.F.type_str_split mt_split (pv 0) (pa_const pe_str pa_nil))) (pg_name (i := 2) sc_words_of.nd rfl (by first | exact Or.inl rfl | exact Or.inr rfl)) (pss_one (ps_if (pt_val (pe_bm PySem.F.plainAttrs_str PySem.F.slot_str_endswith PySem.F.type_str_endswith mt_endswith (pv 2) (pa_name (pe_glob (v := .str ";") rfl T.ex.m_PARTED ⟨⟨_, T.ex.z_PARTED⟩, rfl⟩) pa_nil))) (pss_cons (ps_expr (pe_bm PySem.F.plainAttrs_list PySem.F.slot_list_append PySem.F.type_list_append mt_append (pv 1) (pa_sub (pe_slice sl_str (pv 2) po_none (po_some (pe_un un_neg pe_int))) pa_nil))) (pss_one (ps_expr (pe_bm PySem.F.plainAttrs_list PySem.F.slot_list_append PySem.F.type_list_append mt_append (pv 1) (pa_name (pe_glob (v := .str ";") rfl T.ex.m_PARTED ⟨⟨_, T.ex.z_PARTED⟩, rfl⟩) pa_nil))))) (pss_one (ps_expr (pe_bm PySem.F.plainAttrs_list PySem.F.slot_list_append PySem.F.type_list_append mt_append (pv 1) (pa_name (pv 2) pa_nil))))))) (pss_one (ps_ret (pv 1))))), ?_⟩
  refine ⟨(by show 0 ≤ sizeLine; decide), fun l hl => ?_⟩
  have u0 := same_new hl (.lst [])
  have m0 : upd H l (.lst []) l = some (.lst []) := upd_same
  generalize upd H l (.lst []) = H0 at u0 m0 ⊢
  refine ⟨_, rfl, rfl, x, _, rfl, rfl, rfl, hx, fun p hp => ⟨p, rfl, ⟨_, SqL.of upd_same⟩, ?_⟩⟩
  have nl : p ≠ l := fun e => by rw [e, m0] at hp; cases hp
  have m1 : upd H0 p (.lst ((Txt.split x (PySem.Str.ofString " ")).map V.str)) p = some (.lst ((Txt.split x (PySem.Str.ofString " ")).map V.str)) := upd_same
  have m2 := same_new hp (.lst ((Txt.split x (PySem.Str.ofString " ")).map V.str)) _ _ m0
  have u1 := u0.trans (same_new hp (.lst ((Txt.split x (PySem.Str.ofString " ")).map V.str)))
  generalize upd H0 p (.lst ((Txt.split x (PySem.Str.ofString " ")).map V.str)) = H1 at m1 m2 u1 ⊢
  generalize eS : Txt.split x (PySem.Str.ofString " ") = S at n4 wl q m1 ⊢
  have ll : ∀ i, (wordsF (S.take i)).length ≤ 40002 := by
    intro i
    have g : ∀ L : List PySem.Str, (wordsF L).length ≤ 2 * L.length := by
      intro L
      induction L with
      | nil => exact Nat.le_refl _
      | cons w L ih =>
        have e : wordsF (w :: L) = wordF w ++ wordsF L := by unfold wordsF; rw [List.map_cons, List.flatten_cons]
        rw [e, List.length_append, List.length_cons]
        have : (wordF w).length ≤ 2 := by unfold wordF; split <;> simp
        omega
    have := g (S.take i)
    rw [List.length_take] at this
    omega
  have step : ∀ (i : Nat) (z : PySem.Str), S[i]? = some z → wordsF (S.take (i + 1)) = wordsF (S.take i) ++ wordF z := by
    intro i z hz
    rw [List.take_add_one, hz]
    unfold wordsF
    rw [List.map_append, List.flatten_append]
    simp
  refine for_list (K := K) (a := p) (xs := S.map V.str) (fun i σ H' => ∃ c2, σ = [some (.str x), some (.ref l), c2] ∧ Same H H' ∧ H' p = some (.lst (S.map V.str)) ∧ H' l = some (.lst ((wordsF (S.take i)).map V.str))) ⟨_, rfl, u1, m1, by rw [List.take_zero]; exact m2⟩ ?_ ?_ ?_
  · rintro i σ H' hi ⟨c2, rfl, s1, hp', hl'⟩
    exact SqL.of hp'
  · rintro i v σ H' hi ⟨c2, rfl, s1, hp', hl'⟩
    rw [List.getElem?_map] at hi
    cases ez : S[i]? with
    | none => rw [ez] at hi; cases hi
    | some z =>
      rw [ez] at hi
      cases hi
      have es := step i z ez
      have li := ll i
      have lz : z.length ≤ sizeLine := Nat.le_trans (wl z (List.mem_of_getElem? ez)) (by decide)
      refine ⟨_, rfl, rfl, z, _, rfl, rfl, _, rfl, ?_⟩
      cases he : Txt.endswith z (PySem.Str.ofString ";") with
      | true =>
        have ew : wordF z = [Txt.slice z none (some (-1)), PySem.Str.ofString ";"] := by unfold wordF; rw [if_pos he]
        refine iteT ⟨_, rfl, .inl ⟨rfl, _, SqL.of hl'⟩, _, rfl, _, rfl, _, rfl, z, rfl, lz, l, _, _, rfl, rfl, hl', small10k (by rw [List.length_map]; omega), ?_⟩
        have hl2 : upd H' l (.lst ((wordsF (S.take i)).map V.str ++ [.str (Txt.slice z none (some (-1)))])) l = some (.lst ((wordsF (S.take i)).map V.str ++ [.str (Txt.slice z none (some (-1)))])) := upd_same
        have hp2 : upd H' l (.lst ((wordsF (S.take i)).map V.str ++ [.str (Txt.slice z none (some (-1)))])) p = some (.lst (S.map V.str)) := by rw [upd_ne nl]; exact hp'
        have s2 := same_but s1 hl (.lst ((wordsF (S.take i)).map V.str ++ [.str (Txt.slice z none (some (-1)))]))
        generalize upd H' l (.lst ((wordsF (S.take i)).map V.str ++ [.str (Txt.slice z none (some (-1)))])) = H2 at hl2 hp2 s2 ⊢
        refine ⟨_, rfl, .inl ⟨rfl, _, SqL.of hl2⟩, l, _, _, rfl, rfl, hl2, small10k (by rw [List.length_append, List.length_map]; simp only [List.length_cons, List.length_nil]; omega), ?_⟩
        refine ⟨_, rfl, same_but s2 hl _, by rw [upd_ne nl]; exact hp2, ?_⟩
        rw [upd_same, es, ew, List.map_append, List.append_assoc]
        rfl
      | false =>
        have ew : wordF z = [z] := by unfold wordF; rw [if_neg (by rw [he]; exact Bool.false_ne_true)]
        refine iteF ⟨_, rfl, .inl ⟨rfl, _, SqL.of hl'⟩, _, rfl, l, _, _, rfl, rfl, hl', small10k (by rw [List.length_map]; omega), ?_⟩
        refine ⟨_, rfl, same_but s1 hl _, by rw [upd_ne nl]; exact hp', ?_⟩
        rw [upd_same, es, ew, List.map_append]
        rfl
  · rintro σ H' ⟨c2, rfl, s1, hp', hl'⟩
    rw [List.length_map, List.take_length] at hl'
    exact ⟨_, rfl, q l H' s1 hl hl'⟩
end
end K12
namespace K12
open PySem L2 Lib Fr Op Tx PySem.NumText
seal PE PT PW PA PS PSs PG PI PO PIfs PJ
section
variable {P : Program} {w : World} {K : PySem.W.Frag} {mg : PySem.Str → Option Value} {base : Heap} {ad : Adr} {c : Bool}
theorem x_read_part_figures (T : Txt K mg ad) : CalB P w K mg base true 1 "read_part_figures" ["text"] (spPart ad.NoNumber) := by
  refine T.t_read_part_figures.calB sc_read_part_figures (fun _ _ _ _ _ _ => by1 fun _ => rfl) (fun vs H Q E h => ?_) (fun f cdv A outer s H vs Q E hr h => ?_)
  · obtain ⟨_, rfl, _⟩ := h; rfl
  obtain ⟨x, rfl, hx, h⟩ := h
  have hz : x.length ≤ sizeLine := Nat.le_trans hx (by decide)
  refine ⟨_, (pss_cons (ps_if (PW.pt (pw_or (pt_not (pt_chain op_le op_le pe_int (pe_callB call_len_str rfl T.len bt_len (pa_name (pv 0) pa_nil)) (pe_glob (v := .int 15) rfl T.ex.m_MOST_FIGURES ⟨_, rfl⟩))) (pw_or1 (pt_not (pt_val (pe_callB (call_all rfl) rfl T.all bt_all (pa_cons (pe_compIn rfl (pv 0) T.ex.m_FIGURES (by decide) (by decide) rfl (by decide) rfl rfl rfl rfl) pa_nil))))))) (pss_one (ps_raise bodyB rfl T.ex.c_NoNumber (pa_const pe_str pa_nil))) pss_nil) (pss_one (ps_ret (pe_callTy call_int_text rfl T.int bt_int (pa_name (pv 0) pa_nil))))), ?_⟩
  refine ⟨_, rfl, x, rfl, hz, _, _, rfl, rfl, _, rfl, ?_⟩
  have fin : ∀ (p : Addr), H p = none → ∀ r : Prop, ((((cl x).map fun c => decide (48 ≤ c ∧ c ≤ 57)).all id) = true → 1 ≤ x.length → x.length ≤ 15 → r) → True := fun _ _ _ _ => trivial
  have rs : ∀ H', Same H H' → ¬ (AllDigits (cl x) ∧ 1 ≤ x.length ∧ x.length ≤ 15) → ((1 : Nat) ≤ sizeLine ∧ E (.ref ad.NoNumber) none H') := fun H' s' n => by
    rcases h with ⟨a, b, c, q⟩ | ⟨_, q⟩
    · exact absurd ⟨a, b, c⟩ n
    · exact ⟨by decide, q H' s'⟩
  refine ite2 (fun c1 => ?_) (fun c1 => ?_)
  · have l1 : (1 : Int) ≤ (x.length : Int) := of_decide_eq_true c1
    refine ⟨_, _, rfl, rfl, _, rfl, ?_⟩
    by_cases l2 : (x.length : Int) ≤ 15
    · rw [show decide ((x.length : Int) ≤ 15) = true from decide_eq_true l2]
      refine iteF ?_
      refine ⟨_, rfl, x, rfl, hz, fun p hp => ?_⟩
      refine ⟨p, (cl x).map fun c => decide (48 ≤ c ∧ c ≤ 57), rfl, SqL.of (by rw [all_fig]; exact upd_same), _, rfl, ?_⟩
      have sp := same_new hp (.lst ((PyProof.Rows.signs x).map fun z => V.bl (!(PySem.Builtin.Str.occurrences (PySem.Str.ofString "0123456789") z 0 (PySem.Str.ofString "0123456789").length 1).isEmpty)))
      by_cases ad' : AllDigits (cl x)
      · rw [(all_iff (cl x)).mpr ad']
        refine iteF ?_
        rcases h with ⟨a, b, c, q⟩ | ⟨n, q⟩
        · refine ⟨_, rfl, x, _, rfl, by omega, intText_digits a (fun e => ?_) (by omega), q _ sp⟩
          have := cl_len x
          rw [cl, e] at this
          simp at this
          omega
        · exact absurd ⟨ad', by omega, by omega⟩ n
      · have e : (((cl x).map fun c => decide (48 ≤ c ∧ c ≤ 57)).all id) = false := Bool.eq_false_iff.mpr fun z => ad' ((all_iff _).mp z)
        rw [e]
        exact iteT (rs _ sp fun z => ad' z.1)
    · rw [show decide ((x.length : Int) ≤ 15) = false from decide_eq_false l2]
      exact iteT (iteT (rs _ (Same.refl _) fun z => l2 (by omega)))
  · have l1 : ¬ (1 : Int) ≤ (x.length : Int) := fun z => c1 (decide_eq_true z)
    refine ⟨_, rfl, ?_⟩
    exact iteT (iteT (rs _ (Same.refl _) fun z => l1 (by omega)))
abbrev NR : List PySem.Str := ["text", "is_below", "parts", "top", "bottom", "one"]
abbrev XR (P : Program) (w : World) (K : PySem.W.Frag) (mg : PySem.Str → Option Value) (base : Heap) (f : Addr) (cdv : Value) (A : Around) (outer : List Env) (s : Shared) (H : Hp) (E : XK) : Cx := cxB true P w K mg base NR "read_ratio" (defScope s_read_ratio) f cdv A outer s H E
abbrev bodyR : List Stmt := defBody s_read_ratio
theorem r_fin (T : Txt K mg ad) {f : Addr} {cdv : Value} {A : Around} {outer : List Env} {s : Shared} {H : Hp} {E : XK} (hr : RoomB true 2 (XR P w K mg base f cdv A outer s H E).A) : ∃ t, PSs (XR P w K mg base f cdv A outer s H E) (bodyR.drop 7) t ∧
    (∀ (x : PySem.Str) (B : Bool) (p r : Addr) (i j : Int) (q : Rat) (H1 : Hp) (D : Ends), H1 r = some (frO q) → cl x = sh q → Short q → D.rt (.ref r) H1 → t D [some (.str x), some (.bl B), some (.ref p), some (.int i), some (.int j), some (.ref r)] H1) ∧
    (∀ (x : PySem.Str) (B : Bool) (p r : Addr) (i j a b : Int) (H1 : Hp) (D : Ends), H1 r = some (.tup [.int a, .int b]) → a.natAbs < 10 ^ 15 → b.natAbs < 10 ^ 15 → (∀ q, Short q → cl x ≠ sh q) → E (.ref ad.NoNumber) none H1 → t D [some (.str x), some (.bl B), some (.ref p), some (.int i), some (.int j), some (.ref r)] H1) := by
  have C_is_ratio := c_is_ratio_any (P := P) (w := w) (base := base) T
  have C_show_ratio := g_show_ratio (P := P) (w := w) (base := base) T
  refine ⟨_, (pss_cons (ps_if (PW.pt (pw_or (pt_not (pt_val (pe_cB C_is_ratio (hr.mono (by decide)) (passes1 bodyB) (pa_name (pv 5) pa_nil)))) (pw_or1 (pt_cmpR op_ne (pe_cB C_show_ratio (hr.mono (by decide)) (passes1 bodyB) (pa_name (pv 5) pa_nil)) (pv 0) (nomark _))))) (pss_one (ps_raise bodyB rfl T.ex.c_NoNumber (pa_const pe_str pa_nil))) pss_nil) (pss_one (ps_ret (pv 5)))), ?_, ?_⟩
  · intro x B p r i j q H1 D h e sq k
    have dv : DV K H1 (.ref r) (frD q) := .tup (SqT.of h) (.cons (.int _) (.cons (.int _) .nil))
    refine ⟨_, rfl, _, _, rfl, dv, _, rfl, ?_⟩
    have d1 : (1 : Int) ≤ ((q.den : Nat) : Int) := by have := denp q; omega
    refine iteF' (by show (!(decide (1 ≤ ((q.den : Nat) : Int)) && decide (Fr.gcd q.num ((q.den : Nat) : Int) = 1))) = false; rw [decide_eq_true d1, decide_eq_true (frO_gcd q)]; rfl) ?_
    refine ⟨_, rfl, _, q, rfl, dv, sq, _, rfl, rfl, _, rfl, ?_⟩
    have ex : shS q = x := ext ((cl_shS q).trans e.symm)
    refine iteNS (by rw [ex]) ?_
    exact ⟨_, rfl, k⟩
  · intro x B p r i j a b H1 D h ha hb hx k
    have rs : (1 : Nat) ≤ sizeLine ∧ E (.ref ad.NoNumber) none H1 := ⟨by decide, k⟩
    have dv : DV K H1 (.ref r) (.tuple [.int a, .int b]) := .tup (SqT.of h) (.cons (.int _) (.cons (.int _) .nil))
    refine ⟨_, rfl, _, _, rfl, dv, _, rfl, ?_⟩
    by_cases g : 1 ≤ b ∧ Fr.gcd a b = 1
    · refine iteF' (by show (!(decide (1 ≤ b) && decide (Fr.gcd a b = 1))) = false; rw [decide_eq_true g.1, decide_eq_true g.2]; rfl) ?_
      obtain ⟨q, q1, q2⟩ := rat_of g.1 g.2
      have hq : Short q := ⟨by rw [q1]; exact ha, by omega⟩
      have dv2 : DV K H1 (.ref r) (frD q) := by rw [frD, q1, q2]; exact dv
      refine ⟨_, rfl, _, q, rfl, dv2, hq, _, rfl, rfl, _, rfl, ?_⟩
      refine ite2 (fun _ => rs) (fun z => ?_)
      exfalso
      apply z
      have ne : ¬ V.str (shS q) = V.str x := fun e => hx q hq (by rw [← V.str.inj e, cl_shS])
      rw [decide_eq_false ne]
      rfl
    · have e : (decide (1 ≤ b) && decide (Fr.gcd a b = 1)) = false := by
        by_cases g1 : 1 ≤ b
        · rw [decide_eq_false (fun z => g ⟨g1, z⟩), Bool.and_false]
        · rw [decide_eq_false g1, Bool.false_and]
      exact iteT' (by show (!(decide (1 ≤ b) && decide (Fr.gcd a b = 1))) = true; rw [e]; rfl) (iteT rs)
theorem r_mid (T : Txt K mg ad) {f : Addr} {cdv : Value} {A : Around} {outer : List Env} {s : Shared} {H : Hp} {E : XK} (hr : RoomB true 2 (XR P w K mg base f cdv A outer s H E).A) : ∃ t, PSs (XR P w K mg base f cdv A outer s H E) (bodyR.drop 3) t ∧
    (∀ (x : PySem.Str) (p : Addr) (ps : List PySem.Str) (q : Rat) (H1 : Hp) (D : Ends), Short q → cl x = sh q → H1 p = some (.lst (ps.map V.str)) → ps.map cl = cut 47 (bd q) → (∀ r H', Same H1 H' → H' r = some (frO q) → D.rt (.ref r) H') → t D [some (.str x), some (.bl (decide (q.num < 0))), some (.ref p), none, none, none] H1) ∧
    (∀ (x : PySem.Str) (B : Bool) (p : Addr) (ps : List PySem.Str) (H1 : Hp) (D : Ends), (∀ q, Short q → cl x ≠ sh q) → H1 p = some (.lst (ps.map V.str)) → ps ≠ [] → (∀ z ∈ ps, z.length ≤ 100000) → (∀ H', Same H1 H' → E (.ref ad.NoNumber) none H') → t D [some (.str x), some (.bl B), some (.ref p), none, none, none] H1) := by
  have C_read_part_figures := x_read_part_figures (P := P) (w := w) (base := base) T
  obtain ⟨tF, hF, kY, kN⟩ := r_fin (P := P) (w := w) (base := base) (E := E) T hr
  refine ⟨_, (pss_cons (ps_if (pt_cmpR op_gt (pe_callB call_len_seq rfl T.len bt_len (pa_name (pv 2) pa_nil)) pe_int (nomark _)) (pss_one (ps_raise bodyB rfl T.ex.c_NoNumber (pa_const pe_str pa_nil))) pss_nil) (pss_cons (ps_set (i := 3) sc_read_ratio.nd rfl (Or.inl rfl) (pe_cB C_read_part_figures (hr.mono (by decide)) (passes1 bodyB) (pa_sub (pe_ix ix_list (pv 2) pe_int (fun _ _ => rfl)) pa_nil))) (pss_cons (ps_set (i := 4) sc_read_ratio.nd rfl (Or.inl rfl) (pe_ifExp (pt_cmpR op_eq (pe_callB call_len_seq rfl T.len bt_len (pa_name (pv 2) pa_nil)) pe_int (nomark _)) (pe_cB C_read_part_figures (hr.mono (by decide)) (passes1 bodyB) (pa_sub (pe_ix ix_list (pv 2) pe_int (fun _ _ => rfl)) pa_nil)) pe_int)) (pss_cons (ps_set (i := 5) sc_read_ratio.nd rfl (Or.inl rfl) (pe_tup (pa_if (pe_ifExp (pt_val (pv 1)) (pe_op op_sub pe_int (pv 3)) (pv 3)) (pa_name (pv 4) pa_nil)))) hF)))), ?_, ?_⟩
  · intro x p ps q H1 D sq ex hp hps k
    have n1 := (dg_len (m := q.num.natAbs) (k := 15) (by decide)).mpr sq.n
    have n2 := (dg_len (m := q.den) (k := 15) (by decide)).mpr sq.d
    have m1 := dg_pos q.num.natAbs
    have m2 := dg_pos q.den
    rw [cut_bd] at hps
    have good : ∀ (z : PySem.Str) (m : Nat), cl z = dg m → (dg m).length ≤ 15 → AllDigits (cl z) ∧ 1 ≤ z.length ∧ z.length ≤ 15 ∧ z.length ≤ 100000 ∧ digitsVal (cl z) = m := fun z m e l => by
      have := cl_len z
      rw [e] at this
      have := dg_pos m
      exact ⟨by rw [e]; exact dg_digits m, by omega, by omega, by omega, by rw [e]; exact dg_val m⟩
    have num : (if q.num < 0 then 0 - ((q.num.natAbs : Nat) : Int) else ((q.num.natAbs : Nat) : Int)) = q.num := by split <;> omega
    by_cases d1 : q.den = 1
    · rw [if_pos d1] at hps
      match ps, hps, hp with
      | [z], hps, hp =>
        have ez : cl z = dg q.num.natAbs := by simpa using hps
        obtain ⟨g1, g2, g3, g4, g5⟩ := good z _ ez n1
        refine ⟨_, rfl, p, _, rfl, .inl (SqL.of hp), _, _, rfl, rfl, _, rfl, ?_⟩
        refine iteF ?_
        refine ⟨_, rfl, p, _, _, _, rfl, rfl, SqL.of hp, rfl, z, rfl, g4, .inl ⟨g1, g2, g3, fun H2 s2 => ?_⟩⟩
        rw [g5]
        refine ⟨_, rfl, p, _, rfl, .inl (SqL.of (s2 _ _ hp)), rfl, _, rfl, ?_⟩
        refine iteF ?_
        refine ⟨_, rfl, _, rfl, ?_⟩
        have fin : ∀ v : Int, v = q.num → (2 ≤ sizeLine ∧ ∀ r, H2 r = none → tF D [some (.str x), some (.bl (decide (q.num < 0))), some (.ref p), some (.int ((q.num.natAbs : Nat) : Int)), some (.int 1), some (.ref r)] (upd H2 r (.tup [.int v, .int 1]))) := fun v hv => ⟨by decide, fun r hr => by
          have e : (HO.tup [.int v, .int 1]) = frO q := by rw [hv, frO, d1]; rfl
          exact kY x _ p r _ _ q _ D (by rw [e]; exact upd_same) ex sq (k r _ (s2.trans (same_new hr _)) (by rw [e]; exact upd_same))⟩
        by_cases hn : q.num < 0
        · rw [decide_eq_true hn]
          rw [decide_eq_true hn] at fin
          rw [if_pos hn] at num
          refine iteT ?_
          exact ⟨_, rfl, _, _, rfl, rfl, _, rfl, fin _ num⟩
        · rw [decide_eq_false hn]
          rw [decide_eq_false hn] at fin
          rw [if_neg hn] at num
          refine iteF ?_
          exact ⟨_, rfl, _, rfl, fin _ num⟩
      | [], hps, _ => simp at hps
      | _ :: _ :: _, hps, _ => simp at hps
    · rw [if_neg d1] at hps
      match ps, hps, hp with
      | [z, y], hps, hp =>
        have ez : cl z = dg q.num.natAbs := by simp at hps; exact hps.1
        have ey : cl y = dg q.den := by simp at hps; exact hps.2
        obtain ⟨g1, g2, g3, g4, g5⟩ := good z _ ez n1
        obtain ⟨f1, f2, f3, f4, f5⟩ := good y _ ey n2
        refine ⟨_, rfl, p, _, rfl, .inl (SqL.of hp), _, _, rfl, rfl, _, rfl, ?_⟩
        refine iteF ?_
        refine ⟨_, rfl, p, _, _, _, rfl, rfl, SqL.of hp, rfl, z, rfl, g4, .inl ⟨g1, g2, g3, fun H2 s2 => ?_⟩⟩
        rw [g5]
        have hp2 := s2 _ _ hp
        refine ⟨_, rfl, p, _, rfl, .inl (SqL.of hp2), rfl, _, rfl, ?_⟩
        refine iteT ?_
        refine ⟨_, rfl, p, _, _, _, rfl, rfl, SqL.of hp2, rfl, y, rfl, f4, .inl ⟨f1, f2, f3, fun H3 s3 => ?_⟩⟩
        rw [f5]
        refine ⟨_, rfl, _, rfl, ?_⟩
        have s23 := s2.trans s3
        have fin : ∀ v : Int, v = q.num → (2 ≤ sizeLine ∧ ∀ r, H3 r = none → tF D [some (.str x), some (.bl (decide (q.num < 0))), some (.ref p), some (.int ((q.num.natAbs : Nat) : Int)), some (.int ((q.den : Nat) : Int)), some (.ref r)] (upd H3 r (.tup [.int v, .int ((q.den : Nat) : Int)]))) := fun v hv => ⟨by decide, fun r hr => by
          have e : (HO.tup [.int v, .int ((q.den : Nat) : Int)]) = frO q := by rw [hv]
          exact kY x _ p r _ _ q _ D (by rw [e]; exact upd_same) ex sq (k r _ (s23.trans (same_new hr _)) (by rw [e]; exact upd_same))⟩
        by_cases hn : q.num < 0
        · rw [decide_eq_true hn]
          rw [decide_eq_true hn] at fin
          rw [if_pos hn] at num
          refine iteT ?_
          exact ⟨_, rfl, _, _, rfl, rfl, _, rfl, fin _ num⟩
        · rw [decide_eq_false hn]
          rw [decide_eq_false hn] at fin
          rw [if_neg hn] at num
          refine iteF ?_
          exact ⟨_, rfl, _, rfl, fin _ num⟩
      | [], hps, _ => simp at hps
      | [_], hps, _ => simp at hps
      | _ :: _ :: _ :: _, hps, _ => simp at hps
  · intro x B p ps H1 D hx hp hne hl k
    have rs : ∀ H', Same H1 H' → ((1 : Nat) ≤ sizeLine ∧ E (.ref ad.NoNumber) none H') := fun H' s' => ⟨by decide, k H' s'⟩
    refine ⟨_, rfl, p, _, rfl, .inl (SqL.of hp), _, _, rfl, rfl, _, rfl, ?_⟩
    refine ite2 (fun _ => rs _ (Same.refl _)) (fun c1 => ?_)
    have c2 : ¬ ((2 : Int) < (((ps.map V.str).length : Nat) : Int)) := fun z => c1 (decide_eq_true z)
    rw [List.length_map] at c2
    match ps, hne, hp, hl, c2 with
    | [], hne, _, _, _ => exact absurd rfl hne
    | z :: r0, _, hp, hl, c2 =>
      refine ⟨_, rfl, p, _, _, _, rfl, rfl, SqL.of hp, atI_nat (j := 0) rfl, z, rfl, hl z (List.mem_cons_self ..), ?_⟩
      by_cases gz : AllDigits (cl z) ∧ 1 ≤ z.length ∧ z.length ≤ 15
      · refine .inl ⟨gz.1, gz.2.1, gz.2.2, fun H2 s2 => ?_⟩
        have hp2 := s2 _ _ hp
        have vz := val_lt gz.1 (by rw [cl_len]; exact gz.2.2)
        -- the rest, once the bottom is known
        have fin : ∀ (b : Int) (H3 : Hp), Same H1 H3 → b.natAbs < 10 ^ 15 → ∀ v : Int, v.natAbs = digitsVal (cl z) → (2 ≤ sizeLine ∧ ∀ r, H3 r = none → tF D [some (.str x), some (.bl B), some (.ref p), some (.int ((digitsVal (cl z) : Nat) : Int)), some (.int b), some (.ref r)] (upd H3 r (.tup [.int v, .int b]))) := fun b H3 s3 hb v hv => ⟨by decide, fun r hr => kN x B p r _ _ v b _ D upd_same (by omega) hb hx (k _ (s3.trans (same_new hr _)))⟩
        refine ⟨_, rfl, p, _, rfl, .inl (SqL.of hp2), rfl, _, rfl, ?_⟩
        match r0, hp, hl, c2, hp2 with
        | [], hp, hl, c2, hp2 =>
          refine iteF ?_
          refine ⟨_, rfl, _, rfl, ?_⟩
          have f1 := fin 1 H2 s2 (by decide)
          cases B with
          | true => exact ⟨_, rfl, _, _, rfl, rfl, _, rfl, f1 _ (by omega)⟩
          | false => exact ⟨_, rfl, _, rfl, f1 _ (by omega)⟩
        | [y], hp, hl, c2, hp2 =>
          refine iteT ?_
          refine ⟨_, rfl, p, _, _, _, rfl, rfl, SqL.of hp2, rfl, y, rfl, hl y (by simp), ?_⟩
          by_cases gy : AllDigits (cl y) ∧ 1 ≤ y.length ∧ y.length ≤ 15
          · refine .inl ⟨gy.1, gy.2.1, gy.2.2, fun H3 s3 => ?_⟩
            have vy := val_lt gy.1 (by rw [cl_len]; exact gy.2.2)
            refine ⟨_, rfl, _, rfl, ?_⟩
            have f1 := fin ((digitsVal (cl y) : Nat) : Int) H3 (s2.trans s3) (by omega)
            cases B with
            | true => exact ⟨_, rfl, _, _, rfl, rfl, _, rfl, f1 _ (by omega)⟩
            | false => exact ⟨_, rfl, _, rfl, f1 _ (by omega)⟩
          · exact .inr ⟨gy, fun H3 s3 => k _ (s2.trans s3)⟩
        | _ :: _ :: _, _, _, c2, _ =>
          exfalso
          simp only [List.length_cons] at c2
          omega
      · exact .inr ⟨gz, fun H2 s2 => k _ s2⟩
theorem x_read_ratio (T : Txt K mg ad) : CalB P w K mg base true 3 "read_ratio" ["text"] (spReadX ad.NoNumber) := by
  refine T.t_read_ratio.calB sc_read_ratio (fun _ _ _ _ _ _ => by1 fun _ => rfl) (fun vs H Q E h => ?_) (fun f cdv A outer s H vs Q E hr h => ?_)
  · obtain ⟨_, rfl, _⟩ := h; rfl
  obtain ⟨v, rfl, h⟩ := h
  obtain ⟨tM, hM, kY, kN⟩ := r_mid (P := P) (w := w) (base := base) (f := f) (cdv := cdv) (A := A) (outer := outer) (s := s) (H := H) (E := E) T hr
  refine ⟨_, (pss_cons (ps_if (pt_not (pt_val (pe_callB call_isiD rfl T.isinstance bt_isinstance (pa_name (pv 0) (pa_name (pe_bltn (v := .ty "str") rfl T.str bt_str rfl) pa_nil))))) (pss_one (ps_raise bodyB rfl T.ex.c_NoNumber (pa_const pe_str pa_nil))) pss_nil) (pss_cons (ps_set (i := 1) sc_read_ratio.nd rfl (Or.inl rfl) (pe_bm PySem.F.plainAttrs_str PySem.F.slot_str_startswith PySem.F.type_str_startswith mt_startswith (pv 0) (pa_const pe_str pa_nil))) (pss_cons (ps_set (i := 2) sc_read_ratio.nd rfl (Or.inl rfl) (pe_ifExp (pt_val (pv 1)) (pe_bm PySem.F.plainAttrs_str PySem.F.slot_str_split PySem.F.type_str_split mt_split (pe_slice sl_str (pv 0) (po_some pe_int) po_none) (pa_const pe_str pa_nil)) (pe_bm PySem.F.plainAttrs_str PySem.F.slot_str_split PySem.F.type_str_split mt_split (pv 0) (pa_const pe_str pa_nil)))) hM))), ?_⟩
  have st : ∀ x : PySem.Str, Txt.startswith x (PySem.Str.ofString "-") = decide ((cl x).head? = some 45) := fun x => by rw [str_minus, starts_one]
  have sc : ∀ x : PySem.Str, (Txt.split x (PySem.Str.ofString "/")).map cl = cut 47 (cl x) := fun x => by rw [str_stroke, split_cut]
  rcases h with ⟨x, q, rfl, sq, ex, k⟩ | ⟨x, rfl, hx, hn, k⟩
  · have hl := sh_len q sq
    have xl : x.length ≤ 40 := by rw [← cl_len, ex]; exact hl
    refine ⟨_, rfl, _, _, _, _, rfl, .str x, isStr_b _, _, rfl, iteF ?_⟩
    refine ⟨_, rfl, rfl, _, _, rfl, rfl, ?_⟩
    have e1 : Txt.startswith x (PySem.Str.ofString "-") = decide (q.num < 0) := by rw [st, ex, sh_head]
    rw [e1]
    refine ⟨_, rfl, _, rfl, ?_⟩
    have eb := sh_bd q
    by_cases hneg : q.num < 0
    · rw [decide_eq_true hneg]
      refine iteT ?_
      have yl : (Txt.slice x (some 1) none).length ≤ 40 := Nat.le_trans (Txt.slice_le _ _ _) xl
      refine ⟨_, rfl, _, rfl, x, rfl, size2 (by omega), rfl, _, _, rfl, rfl, rfl, size2 (by omega), fun p hp => ?_⟩
      rw [if_pos hneg] at eb
      have := kY x p _ q _ { nx := fun _ H' => Q .non H', rt := Q } sq ex upd_same (by rw [sc, slice_tail, ex, eb]) fun r H' s' hr' => k r H' ((same_new hp _).trans s') hr'
      rw [decide_eq_true hneg] at this
      exact this
    · rw [decide_eq_false hneg]
      refine iteF ?_
      refine ⟨_, rfl, rfl, _, _, rfl, rfl, rfl, size2 (by omega), fun p hp => ?_⟩
      rw [if_neg hneg] at eb
      have := kY x p _ q _ { nx := fun _ H' => Q .non H', rt := Q } sq ex upd_same (by rw [sc, ex, eb]) fun r H' s' hr' => k r H' ((same_new hp _).trans s') hr'
      rw [decide_eq_false hneg] at this
      exact this
  · refine ⟨_, rfl, _, _, _, _, rfl, .str x, isStr_b _, _, rfl, iteF ?_⟩
    refine ⟨_, rfl, rfl, _, _, rfl, rfl, ?_⟩
    refine ⟨_, rfl, _, rfl, ?_⟩
    have parts : ∀ y : PySem.Str, y.length ≤ 100000 → Txt.split y (PySem.Str.ofString "/") ≠ [] ∧ ∀ z ∈ Txt.split y (PySem.Str.ofString "/"), z.length ≤ 100000 := fun y hy => by
      refine ⟨fun e => cut_ne 47 (cl y) (by rw [← sc, e]; rfl), fun z hz => Nat.le_trans (PyProof.Rows.part_short hz) hy⟩
    have s2' : ∀ n : Nat, n ≤ 100000 → n + 2 ≤ sizeLine := fun n h => Nat.le_trans (Nat.add_le_add_right h 2) (by decide)
    refine ite2 (fun _ => ?_) (fun _ => ?_)
    · have yl : (Txt.slice x (some 1) none).length ≤ 100000 := Nat.le_trans (Txt.slice_le _ _ _) hx
      refine ⟨_, rfl, _, rfl, x, rfl, Nat.le_trans hx (by decide), rfl, _, _, rfl, rfl, rfl, s2' _ yl, fun p hp => ?_⟩
      exact kN x _ p _ _ _ hn upd_same (parts _ yl).1 (parts _ yl).2 fun H' s' => k H' ((same_new hp _).trans s')
    · refine ⟨_, rfl, rfl, _, _, rfl, rfl, rfl, s2' _ hx, fun p hp => ?_⟩
      exact kN x _ p _ _ _ hn upd_same (parts _ hx).1 (parts _ hx).2 fun H' s' => k H' ((same_new hp _).trans s')
theorem x_read_number (T : Txt K mg ad) : CalB P w K mg base true 4 "read_number" ["word"] (spNumT K ad.NoText) := by
  have C_read_ratio := x_read_ratio (P := P) (w := w) (base := base) T
  refine T.t_read_number.calB sc_read_number (fun _ _ _ _ _ _ => by1 fun _ => rfl) (fun vs H Q E h => ?_) (fun f cdv A outer s H vs Q E hr h => ?_)
  · obtain ⟨_, rfl, _⟩ := h; rfl
  obtain ⟨x, rfl, hx, q, qn⟩ := h
  refine ⟨_, (pss_one (ps_tryRR bodyB C_read_ratio (hr.mono (by decide)) (pa_name (pv 0) pa_nil) T.ex.m_NoNumber T.ex.c_NoText)), ?_⟩
  cases e : numOf x with
  | some r =>
    obtain ⟨sr, rfl⟩ := numOf_some e
    exact ⟨_, rfl, _, rfl, .inl ⟨_, r, rfl, sr, cl_shS r, fun p H' s' hp => q r e _ H' s' (.tup (SqT.of hp) (.cons (.int _) (.cons (.int _) .nil)))⟩⟩
  | none => exact ⟨_, rfl, _, rfl, .inr ⟨x, rfl, hx, fun r hr ex => none_numOf e r hr (ext (by rw [cl_shS, ex])), fun H' s' => ⟨_, rfl, T.ex.x_NoNumber_NoNumber, qn e H' s'⟩⟩⟩
end
end K12
namespace K12
open PySem L2 Lib Fr Op
seal PE PT PW PA PS PSs PG PI PO PIfs
section
variable {P : Program} {w : World} {K : PySem.W.Frag} {mg : Str → Option Value} {base : Heap} {ad : Adr} {c : Bool}
theorem x_is_piece (T : Txt K mg ad) : CalB P w K mg base true 3 "is_piece" ["thing"] (spPiece K) := by
  have C_is_less := c_is_less (P := P) (w := w) (base := base) T
  have C_is_ratio := c_is_ratio_any (P := P) (w := w) (base := base) T
  refine T.t_is_piece.calN sc_is_piece (fun _ _ _ _ _ _ => by1 fun _ => rfl) (fun vs H Q E h => ?_) (fun f cdv A outer s H vs Q E hr h => ?_)
  · obtain ⟨_, _, rfl, _⟩ := h; rfl
  obtain ⟨v, d, rfl, hv, sm, q⟩ := h
  refine ⟨_, (pss_cons (ps_if (PW.pt (pw_or (pt_not (pt_val (pe_callB call_isiD rfl T.isinstance bt_isinstance (pa_name (pv 0) (pa_name (pe_bltn (v := .ty "tuple") rfl T.tuple bt_tuple rfl) pa_nil))))) (pw_or (pt_cmpR op_lt (pe_callB call_len_seq rfl T.len bt_len (pa_name (pv 0) pa_nil)) pe_int (nomark _)) (pw_or1 (pt_not (pt_val (pe_callB call_isiD rfl T.isinstance bt_isinstance (pa_sub (pe_ix ix_tup (pv 0) pe_int (fun _ _ => rfl)) (pa_name (pe_bltn (v := .ty "str") rfl T.str bt_str rfl) pa_nil))))))))) (pss_one (ps_ret pe_bl)) pss_nil) (pss_cons (ps_if (pt_not (pt_val (pe_callB (call_all rfl) rfl T.all bt_all (pa_cons (pe_comp ["part"] [none] rfl (pi_tup (pe_slice sl_tup (pv 0) (po_some pe_int) po_none)) (fun _ _ _ _ _ => (pg_name (i := 0) (show List.Nodup [("part" : Str)] by decide) rfl (by first | exact Or.inl rfl | exact Or.inr rfl))) (fun _ _ _ _ _ => pifs_nil) (fun _ _ _ _ _ => (pe_cB C_is_ratio (hr.mono (by decide)) pass01 (pa_name (pv 0) pa_nil))) (cap_nil (by decide) (by decide)) (by decide) rfl (by decide) rfl (nocap rfl)) pa_nil)))) (pss_one (ps_ret pe_bl)) pss_nil) (pss_cons (ps_if (pt_cmpR op_eq (pe_ix ix_tup (pv 0) pe_int (fun _ _ => rfl)) (pe_glob (v := .str "stop") rfl T.ex.m_STOP ⟨⟨_, T.ex.z_STOP⟩, rfl⟩) (nomark _)) (pss_one (ps_ret (pe_and (pe_cmpR op_eq (pe_callB call_len_seq rfl T.len bt_len (pa_name (pv 0) pa_nil)) pe_int (nomark _)) (pe_one (pe_not (pe_cB C_is_less (hr.mono (by decide)) pass01 (pa_sub (pe_ix ix_tup (pv 0) pe_int (fun _ _ => rfl)) (pa_sub (pe_ix ix_tup (pv 0) pe_int (fun _ _ => rfl)) pa_nil)))))))) pss_nil) (pss_one (ps_ret (pe_and (pe_cmpR op_in_seq (pe_ix ix_tup (pv 0) pe_int (fun _ _ => rfl)) (pe_tup (pa_name (pe_glob (v := .str "gap") rfl T.ex.m_GAP ⟨⟨_, T.ex.z_GAP⟩, rfl⟩) (pa_name (pe_glob (v := .str "glass") rfl T.ex.m_GLASS ⟨⟨_, T.ex.z_GLASS⟩, rfl⟩) pa_nil))) (by rfl)) (pe_one (pe_cmpR op_eq (pe_callB call_len_seq rfl T.len bt_len (pa_name (pv 0) pa_nil)) pe_int (nomark _))))))))), ?_⟩
  refine ⟨_, rfl, _, _, _, _, rfl, hv, isTup_b d, _, rfl, ?_⟩
  cases ht : isTupD d with
  | false =>
    refine iteT (iteT ?_)
    have e : pieceD d = false := by
      cases d with
      | tuple ds => cases ht
      | _ => rfl
    rw [e] at q
    exact q _ (Same.refl _)
  | true =>
    obtain ⟨ds, rfl⟩ := isTup_of ht
    obtain ⟨a, xs, rfl, ha, hds⟩ := hv.tup_of
    refine iteF ?_
    refine ⟨_, rfl, a, _, rfl, .inr ha, _, _, rfl, rfl, _, rfl, ?_⟩
    rcases ds with _ | ⟨d0, _ | ⟨d1, dr⟩⟩
    · obtain rfl := hds.nil_of
      exact iteT' (by decide) (iteT (q _ (Same.refl _)))
    · obtain ⟨x0, xs, rfl, h0, hds⟩ := hds.cons_of
      obtain rfl := hds.nil_of
      have e : pieceD (.tuple [d0]) = false := by cases d0 <;> rfl
      rw [e] at q
      exact iteT' (decide_eq_true (by show ((1 : Nat) : Int) < 2; decide)) (iteT (q _ (Same.refl _)))
    · obtain ⟨x0, xs, rfl, h0, hds⟩ := hds.cons_of
      obtain ⟨x1, xr, rfl, h1, hr'⟩ := hds.cons_of
      refine iteF' (decide_eq_false (by simp only [List.length_cons]; omega)) ?_
      refine ⟨_, rfl, a, _, _, _, rfl, rfl, ha, atI0, _, _, _, _, rfl, h0, isStr_b d0, _, rfl, ?_⟩
      cases hs : isStrD d0 with
      | false =>
        refine iteT ?_
        have e : pieceD (.tuple (d0 :: d1 :: dr)) = false := by
          cases d0 with
          | str z => cases hs
          | _ => rfl
        rw [e] at q
        exact q _ (Same.refl _)
      | true =>
        obtain ⟨z, rfl⟩ := isStr_of hs
        obtain rfl := h0.str_of
        refine iteF ?_
        refine ⟨_, rfl, _, rfl, a, _, rfl, ha, (fun e => by rw [sIx1] at e; simp only [List.length_cons] at e; omega), fun p hp => ⟨p, rfl, ⟨_, SqT.of upd_same⟩, ?_⟩⟩
        rw [cut1]
        have u1 := same_new hp (.tup ((V.str z :: x1 :: xr).drop 1))
        have hparts : DVs K (upd H p (.tup ((V.str z :: x1 :: xr).drop 1))) (x1 :: xr) (d1 :: dr) := (DVs.cons h1 hr').keep u1
        refine comp_tup0 (K := K) (a := p) (xs := x1 :: xr) (fun i σ ys H' => ∃ c0, σ = [c0] ∧ ys = ((d1 :: dr).take i).map (fun d => V.bl (ratD d)) ∧ Same (upd H p (.tup ((V.str z :: x1 :: xr).drop 1))) H') ⟨_, rfl, rfl, Same.refl _⟩ ?_ ?_ ?_
        · rintro i σ ys H' hi ⟨c0, rfl, rfl, s'⟩
          refine ⟨?_, SqT.of (s' _ _ upd_same)⟩
          have := (DVs.cons h1 hr').len
          have z1 := (sm _ rfl).1
          have z2 := small1000 (n := 1000) (by decide)
          simp only [List.length_cons] at *
          rw [List.length_map, List.length_take]
          omega
        · rintro i x σ ys H' hi ⟨c0, rfl, rfl, s'⟩
          obtain ⟨dx, hdx, hx⟩ := hparts.get hi
          refine ⟨_, rfl, _, dx, rfl, hx.keep s', nx (lt_of_get hi) ⟨_, rfl, ?_, s'⟩⟩
          have hlt := lt_of_get hdx
          rw [List.take_add_one, hdx, List.map_append]
          rfl
        · rintro σ ys H' p2 ⟨c0, rfl, rfl, s'⟩ hp2
          have u2 := same_new hp2 (.lst (((d1 :: dr).take (x1 :: xr).length).map (fun d => V.bl (ratD d))))
          have t2 := u1.trans (s'.trans u2)
          have el : (d1 :: dr).take (x1 :: xr).length = d1 :: dr := List.take_of_length_le (by have := (DVs.cons h1 hr').len; omega)
          refine ⟨p2, (d1 :: dr).map ratD, rfl, SqL.of (by rw [upd_same, el, List.map_map]; rfl), _, rfl, ?_⟩
          have ea : ((d1 :: dr).map ratD).all id = (d1 :: dr).all ratD := by rw [List.all_map]; rfl
          rw [ea]
          cases hall : (d1 :: dr).all ratD with
          | false =>
            refine iteT ?_
            have e : pieceD (.tuple (.str z :: d1 :: dr)) = false := by show ((d1 :: dr).all ratD && _) = false; rw [hall]; rfl
            rw [e] at q
            exact q _ t2
          | true =>
            refine iteF ?_
            have hall' := List.all_eq_true.mp hall
            refine ⟨_, rfl, a, _, _, _, rfl, rfl, ha.keep t2, atI0, rfl, _, rfl, ?_⟩
            rw [decS]
            by_cases hz : z = "stop"
            · subst hz
              refine iteT' (by decide) ?_
              have e : pieceD (.tuple (.str "stop" :: d1 :: dr)) = stopD (d1 :: dr) := by show ((d1 :: dr).all ratD && _) = _; rw [hall]; rfl
              rw [e] at q
              refine ⟨_, rfl, a, _, rfl, .inr (ha.keep t2), rfl, _, rfl, ?_⟩
              rw [decI]
              rcases dr with _ | ⟨d2, _ | ⟨d3, dr'⟩⟩
              · obtain rfl := hr'.nil_of
                have e3 : stopD [d1] = false := by
                  unfold stopD
                  split
                  · rename_i ee; cases ee
                  · rfl
                rw [e3] at q
                exact iteF' (decide_eq_false (by show ¬ ((2 : Nat) : Int) = 3; decide)) (q _ t2)
              · obtain ⟨x2, xr, rfl, h2, hr'⟩ := hr'.cons_of
                obtain rfl := hr'.nil_of
                obtain ⟨lo, rfl⟩ := ratD_of (hall' d1 (by simp))
                obtain ⟨hi, rfl⟩ := ratD_of (hall' d2 (by simp))
                refine iteT' (decide_eq_true (by show ((3 : Nat) : Int) = 3; decide)) ?_
                refine ⟨_, rfl, a, _, _, _, rfl, rfl, ha.keep t2, rfl, _, rfl, a, _, _, _, rfl, rfl, ha.keep t2, rfl, ?_⟩
                refine ⟨_, _, .cons (h2.keep t2) (.cons (h1.keep t2) .nil), ⟨hi, lo, rfl, (sm _ rfl).2 _ (by simp), (sm _ rfl).2 _ (by simp), rfl⟩, fun v H3 s3 hv => ?_⟩
                obtain rfl := hv.bl_of
                refine ⟨_, rfl, ?_⟩
                rw [stopD_fr] at q
                exact q _ (t2.trans s3)
              · obtain ⟨x2, xr, rfl, h2, hr'⟩ := hr'.cons_of
                obtain ⟨x3, xr, rfl, h3, hr'⟩ := hr'.cons_of
                refine iteF' (decide_eq_false (by simp only [List.length_cons]; omega)) ?_
                have e2 : stopD (d1 :: d2 :: d3 :: dr') = false := by
                  unfold stopD
                  split
                  · rename_i ee; cases ee
                  · rfl
                rw [e2] at q
                exact q _ t2
            · refine iteF' (decide_eq_false hz) ?_
              have e : pieceD (.tuple (.str z :: d1 :: dr)) = ((decide (z = "gap") || decide (z = "glass")) && dr.isEmpty) := by
                show ((d1 :: dr).all ratD && (if z = "stop" then _ else _)) = _
                rw [hall, if_neg hz]; rfl
              rw [e] at q
              refine ⟨_, rfl, a, _, _, _, rfl, rfl, ha.keep t2, atI0, (by show 2 ≤ sizeLine; decide), fun p3 hp3 => ?_⟩
              have u3 := same_new hp3 (.tup [.str "gap", .str "glass"])
              have t3 := t2.trans u3
              refine ⟨p3, _, rfl, .inr (SqT.of upd_same), rfl, rfl, _, rfl, ?_⟩
              have ein : (if false = true then !inV (.str z) [.str "gap", .str "glass"] else inV (.str z) [.str "gap", .str "glass"]) = (decide (z = "gap") || decide (z = "glass")) := in_words z
              cases hin : (decide (z = "gap") || decide (z = "glass")) with
              | false =>
                rw [hin] at q
                exact iteF' (ein.trans hin) (q _ t3)
              | true =>
                rw [hin, Bool.true_and] at q
                refine iteT' (ein.trans hin) ?_
                refine ⟨_, rfl, a, _, rfl, .inr (ha.keep t3), rfl, ?_⟩
                have el2 : decide (V.int (((V.str z :: x1 :: xr).length : Nat) : Int) = V.int 2) = dr.isEmpty := by
                  rw [decI]
                  have := hr'.len
                  cases dr with
                  | nil =>
                    have : xr = [] := List.eq_nil_of_length_eq_zero (by simpa using this)
                    subst this; rfl
                  | cons d2 dr2 =>
                    simp only [List.length_cons] at this ⊢
                    exact decide_eq_false (by omega)
                show Q (.bl (decide (V.int (((V.str z :: x1 :: xr).length : Nat) : Int) = V.int 2))) _
                rw [el2]
                exact q _ t3
end
end K12
namespace K12
open PySem L2 Lib Fr Op Tx PySem.NumText
seal PE PT PW PA PS PSs PG PI PO PIfs PJ
section
variable {P : Program} {w : World} {K : PySem.W.Frag} {mg : PySem.Str → Option Value} {base : Heap} {ad : Adr} {c : Bool}
theorem str_dg (n : Nat) : PySem.Str.ofString (toString ((n : Nat) : Int)) = dgS n := ext (by rw [cl_num, cl_dgS, if_neg (by omega)]; rfl)
theorem dgS_inj {m n : Nat} (h : dgS m = dgS n) : m = n := dg_inj (by rw [← cl_dgS, ← cl_dgS, h])
theorem xc_take (T : Txt K mg ad) : MC P w K mg base 2 ad.Reader "take" ["self"] (spTakeT ad.Reader ad.NoText) := by
  refine T.ex.q_Reader_take.mcR sc_Reader_take (fun _ _ _ _ _ _ => by1 fun _ => rfl) (fun vs H Q E h => ?_) (fun f cdv A outer s H vs Q E hr h => ?_)
  · obtain ⟨_, _, _, _, _, rfl, _⟩ := h; rfl
  obtain ⟨a, dx, wl, ws, i, rfl, rd, il, q, qn⟩ := h
  refine ⟨_, (pss_cons (ps_if (pt_val (pe_mX0 (k := 1) (passes1 bodyB) (pv 0) (hr.mono (by decide)))) (pss_one (ps_raise bodyB rfl T.ex.c_NoText (pa_const pe_str pa_nil))) pss_nil) (pss_cons (ps_fldaug (pv 0) pe_int in_add) (pss_one (ps_ret (pe_ix ix_list (pe_fldB (pv 0)) (pe_op op_sub (pe_fldB (pv 0)) pe_int) (fun _ _ => rfl)))))), ?_⟩
  refine ⟨_, rfl, a, _, dx, _, _, _, rfl, rd.r, rfl, mc_is_done T, a, dx, wl, ws, i, rfl, rd, _, rfl, ?_⟩
  by_cases ie : i = ws.length
  · refine iteT' (decide_eq_true ie) ⟨(by show 1 ≤ sizeLine; decide), qn ?_⟩
    rw [ie]
    exact List.getElem?_eq_none (Nat.le_refl _)
  · refine iteF' (decide_eq_false ie) ?_
    obtain ⟨z, hz⟩ : ∃ z, ws[i]? = some z := ⟨_, List.getElem?_eq_getElem (by omega)⟩
    refine ⟨_, rfl, a, _, dx, _, _, rfl, rd.r, T.ex.l_Reader, T.ex.n_Reader_place, rfl, _, _, rfl, rfl, dx, _, rd.r, by show 2 < 1000; decide, ?_⟩
    have rd2 := rd.step (i + 1)
    have e : ((i : Int) + 1) = ((i + 1 : Nat) : Int) := by omega
    rw [e]
    refine ⟨_, rfl, a, _, dx, _, _, rfl, rd2.r, T.ex.l_Reader, T.ex.n_Reader_words, rfl, _, rfl, a, _, dx, _, _, rfl, rd2.r, T.ex.l_Reader, T.ex.n_Reader_place, rfl, _, _, rfl, rfl, wl, _, _, .str z, rfl, rfl, SqL.of rd2.w, ?_, q z hz⟩
    have e2 : ((i + 1 : Nat) : Int) - 1 = (i : Int) := by omega
    rw [e2]
    exact atI_nat (by rw [List.getElem?_map, hz]; rfl)
theorem x_read_times (T : Txt K mg ad) : CalB P w K mg base true 1 "read_times" ["word"] (spTimesT ad.NoText) := by
  refine T.t_read_times.calB sc_read_times (fun _ _ _ _ _ _ => by1 fun _ => rfl) (fun vs H Q E h => ?_) (fun f cdv A outer s H vs Q E hr h => ?_)
  · obtain ⟨_, rfl, _⟩ := h; rfl
  obtain ⟨x, rfl, q, qn⟩ := h
  refine ⟨_, (pss_cons (ps_for PassesOwn.leaving rfl (pi_range1 rfl T.range (pa_bin (pe_op op_add (pe_glob (v := .int 60) rfl T.ex.m_MOST_TIMES ⟨_, rfl⟩) pe_int) pa_nil)) (pg_name (i := 1) sc_read_times.nd rfl (by first | exact Or.inl rfl | exact Or.inr rfl)) (pss_one (ps_if (pt_cmpR op_eq (pv 0) (pe_callTy call_str_int rfl T.str bt_str (pa_name (pv 1) pa_nil)) (nomark _)) (pss_one (ps_ret (pv 1))) pss_nil))) (pss_one (ps_raise bodyB rfl T.ex.c_NoText (pa_const pe_str pa_nil)))), ?_⟩
  refine ⟨_, _, rfl, rfl, _, rfl, by decide, by decide, ?_⟩
  refine for_range (lo := 0) (n := 61) (fun i σ H' => ∃ c1, σ = [some (.str x), c1] ∧ H' = H ∧ ∀ m, m < i → x ≠ dgS m) ⟨_, rfl, rfl, fun m h => by omega⟩ ?_ ?_
  · rintro i σ H' hi ⟨c1, rfl, rfl, hin⟩
    have i0 : (0 + (i : Int)) = (i : Int) := by omega
    rw [i0]
    have l1 : ((i : Int)).natAbs.log2 < 1920 := by
      rw [Int.natAbs_natCast]
      exact Nat.lt_of_le_of_lt (Nat.log2_le_self _) (by omega)
    refine ⟨_, rfl, _, rfl, _, rfl, l1, rfl, _, rfl, ?_⟩
    rw [decS, str_dg]
    by_cases e : x = dgS i
    · refine iteT' (decide_eq_true e) ⟨_, rfl, q i ?_⟩
      cases ht : timesOf x with
      | none => exact absurd e (timesOf_none ht i (by omega))
      | some n => rw [dgS_inj ((timesOf_some ht).1.symm.trans e)]
    · refine iteF' (decide_eq_false e) ⟨_, rfl, rfl, fun m hm => ?_⟩
      by_cases z : m = i
      · rw [z]; exact e
      · exact hin m (by omega)
  · rintro σ H' ⟨c1, rfl, rfl, hin⟩
    refine ⟨(by show 1 ≤ sizeLine; decide), qn ?_⟩
    cases ht : timesOf x with
    | none => rfl
    | some n =>
      have := timesOf_some ht
      exact absurd this.1 (hin n (by omega))
theorem x_read_round (T : Txt K mg ad) {k r : Nat} {spP : Sp} (hr0 : r ≤ 3 * k + 3) (hsp : k ≠ 0 → spP = spRPst K ad.Reader ad.NoText k) (C_read_parts : CalB P w K mg base true r "read_parts" ["reader", "deep"] spP) : CalB P w K mg base true (3 * k + 4) "read_round" ["reader", "word", "deep"] (spRRt K ad.Reader ad.NoText k) := by
  have C_read_times := x_read_times (P := P) (w := w) (base := base) T
  refine T.t_read_round.calB sc_read_round (fun _ _ _ _ _ _ => by3 fun _ _ _ => rfl) (fun vs H Q E h => ?_) (fun f cdv A outer s H vs Q E hr h => ?_)
  · obtain ⟨_, _, _, _, _, _, _, rfl, _⟩ := h; rfl
  obtain ⟨a, dx, wl, ws, i, x, dp, rfl, edp, rd, il, wl1, q, qn⟩ := h
  refine ⟨_, (pss_cons (ps_set (i := 3) sc_read_round.nd rfl (Or.inl rfl) (pe_cB C_read_times (hr.mono (by omega)) (passes1 bodyB) (pa_name (pv 1) pa_nil))) (pss_cons (ps_if (pt_cmpR op_eq (pv 2) (pe_glob (v := .int 4) rfl T.ex.m_MOST_DEEP ⟨_, rfl⟩) (nomark _)) (pss_one (ps_raise bodyB rfl T.ex.c_NoText (pa_const pe_str pa_nil))) pss_nil) (pss_cons (ps_if (PW.pt (pw_or (pt_not (pt_val (pe_mX (k := 2) (passes1 bodyB) (pv 0) (hr.mono (by omega)) (pa_name (pe_glob (v := .str "times") rfl T.ex.m_TIMES ⟨⟨_, T.ex.z_TIMES⟩, rfl⟩) pa_nil)))) (pw_or1 (pt_not (pt_val (pe_mX (k := 2) (passes1 bodyB) (pv 0) (hr.mono (by omega)) (pa_name (pe_glob (v := .str "(") rfl T.ex.m_OPENED ⟨⟨_, T.ex.z_OPENED⟩, rfl⟩) pa_nil))))))) (pss_one (ps_raise bodyB rfl T.ex.c_NoText (pa_const pe_str pa_nil))) pss_nil) (pss_cons (ps_set (i := 4) sc_read_round.nd rfl (Or.inl rfl) (pe_cB C_read_parts (hr.mono (by omega)) (passes1 bodyB) (pa_name (pv 0) (pa_bin (pe_op op_add (pv 2) pe_int) pa_nil)))) (pss_cons (ps_if (pt_not (pt_val (pe_mX (k := 2) (passes1 bodyB) (pv 0) (hr.mono (by omega)) (pa_name (pe_glob (v := .str ")") rfl T.ex.m_CLOSED ⟨⟨_, T.ex.z_CLOSED⟩, rfl⟩) pa_nil)))) (pss_one (ps_raise bodyB rfl T.ex.c_NoText (pa_const pe_str pa_nil))) pss_nil) (pss_one (ps_ret (pe_tup (pa_name (pe_glob (v := .str "times") rfl T.ex.m_TIMES ⟨⟨_, T.ex.z_TIMES⟩, rfl⟩) (pa_name (pv 3) (pa_name (pv 4) pa_nil))))))))))), ?_⟩
  unfold pRnd at q qn
  refine ⟨_, rfl, x, rfl, fun n ht => ?_, fun ht => ?_⟩
  rotate_left
  · rw [ht] at qn
    exact qn rfl H (SD.refl _ _)
  rw [ht] at q qn
  dsimp only at q qn
  by_cases k0 : k = 0
  · rw [if_pos k0] at qn
    refine ⟨_, rfl, rfl, _, rfl, iteT' (by rw [decI]; exact decide_eq_true (by omega)) ⟨(by show 1 ≤ sizeLine; decide), qn rfl H (SD.refl _ _)⟩⟩
  obtain rfl := hsp k0
  rw [if_neg k0] at q qn
  refine ⟨_, rfl, rfl, _, rfl, iteF' (by rw [decI]; exact decide_eq_false (by omega)) ?_⟩
  refine ⟨_, rfl, a, _, dx, _, _, _, rfl, rd.r, rfl, mc_take_if T, a, dx, wl, ws, i, sOf "times", rfl, rd, il, fun t0 => ?_, fun t0 => ?_⟩
  rotate_left
  · rw [if_neg t0] at qn
    exact ⟨_, rfl, iteT (iteT ⟨(by show 1 ≤ sizeLine; decide), qn rfl H (SD.refl _ _)⟩)⟩
  rw [if_pos t0] at q qn
  have il1 := lt_of_get t0
  have rd1 := rd.step (i + 1)
  have sd1 : SD a H (upd H a (RdO ad.Reader dx wl (i + 1))) := sd_updA _
  generalize upd H a (RdO ad.Reader dx wl (i + 1)) = H1 at rd1 sd1 ⊢
  refine ⟨_, rfl, iteF ?_⟩
  refine ⟨_, rfl, a, _, dx, _, _, _, rfl, rd1.r, rfl, mc_take_if T, a, dx, wl, ws, i + 1, sOf "(", rfl, rd1, il1, fun t1 => ?_, fun t1 => ?_⟩
  rotate_left
  · rw [if_neg t1] at qn
    exact ⟨_, rfl, iteT ⟨(by show 1 ≤ sizeLine; decide), qn rfl H1 sd1⟩⟩
  rw [if_pos t1] at q qn
  have il2 := lt_of_get t1
  have rd2 := rd1.step (i + 1 + 1)
  have sd2 : SD a H1 (upd H1 a (RdO ad.Reader dx wl (i + 1 + 1))) := sd_updA _
  generalize upd H1 a (RdO ad.Reader dx wl (i + 1 + 1)) = H2 at rd2 sd2 ⊢
  refine ⟨_, rfl, iteF ?_⟩
  have sd02 := sd1.trans sd2
  refine ⟨_, rfl, _, rfl, _, _, rfl, rfl, a, dx, wl, ws, i + 1 + 1, _, rfl, by omega, rd2, il2, wl1, fun ps j hp l xs H3 sd3 nl rd3 hl hxs => ?_, fun hp H3 sd3 => ?_⟩
  rotate_left
  · rw [hp] at qn
    exact qn rfl H3 (sd02.trans sd3)
  rw [hp] at q qn
  dsimp only at q qn
  have jl := (pParts_ok (fun i p j h => pPart_ok rd.le k i p j h) _ _ _ _ hp).2.1
  have sd03 := sd02.trans sd3
  refine ⟨_, rfl, a, _, dx, _, _, _, rfl, rd3.r, rfl, mc_take_if T, a, dx, wl, ws, j, sOf ")", rfl, rd3, jl, fun t3 => ?_, fun t3 => ?_⟩
  rotate_left
  · rw [if_neg t3] at qn
    exact ⟨_, rfl, iteT ⟨(by show 1 ≤ sizeLine; decide), qn rfl H3 sd03⟩⟩
  rw [if_pos t3] at q
  have nla : l ≠ a := fun e => by rw [e, rd3.r] at hl; cases hl
  have rd4 := rd3.step (j + 1)
  have sd4 : SD a H3 (upd H3 a (RdO ad.Reader dx wl (j + 1))) := sd_updA _
  have hl4 : upd H3 a (RdO ad.Reader dx wl (j + 1)) l = some (.lst xs) := by rw [upd_ne nla]; exact hl
  have hT := sd_T rd3.r sd4
  generalize upd H3 a (RdO ad.Reader dx wl (j + 1)) = H4 at rd4 sd4 hl4 hT ⊢
  have fr : ∀ b, H2 b = none → H b = none := fun b hb => by
    cases e : H b with
    | none => rfl
    | some o =>
      by_cases z : b = a
      · rw [z, rd2.r] at hb; cases hb
      · have := sd02 b o z e; rw [hb] at this; cases this
  refine ⟨_, rfl, iteF ⟨_, rfl, _, rfl, (by show 3 ≤ sizeLine; decide), fun t ht => ?_⟩⟩
  have u := same_new ht (.tup [.str (sOf "times"), .int (n : Int), .ref l])
  have hx4 : PVs K k (FrA H) H4 xs ps := hxs.keep hT fun b ys fb hb => ⟨sd4 b _ (fun z => by rw [z, rd3.r] at hb; cases hb) hb, fr b fb.1⟩
  have hx5 := hx4.same u
  exact q _ _ rfl _ _ ((sd03.trans sd4).trans (Lib.SD.ofSame u)) (rd4.keep u) ⟨t, l, xs, rfl, upd_same, fr l nl, u _ _ hl4, hx5.1, hx5.2⟩
end
end K12
namespace K12
open PySem L2 Lib Fr Op Tx PySem.NumText
seal PE PT PW PA PS PSs PG PI PO PIfs PJ
section
variable {P : Program} {w : World} {K : PySem.W.Frag} {mg : PySem.Str → Option Value} {base : Heap} {ad : Adr} {c : Bool}
theorem x_read_part (T : Txt K mg ad) {kk : Nat} (C_read_round : CalB P w K mg base true (3 * kk + 4) "read_round" ["reader", "word", "deep"] (spRRt K ad.Reader ad.NoText kk)) : CalB P w K mg base true (3 * kk + 5) "read_part_texts" ["reader", "deep"] (spRPt K ad.Reader ad.NoText (kk + 1)) := by
  have C_is_piece := x_is_piece (P := P) (w := w) (base := base) T
  have C_read_number := x_read_number (P := P) (w := w) (base := base) T
  refine T.t_read_part_texts.calB sc_read_part_texts (fun _ _ _ _ _ _ => by2 fun _ _ => rfl) (fun vs H Q E h => ?_) (fun f cdv A outer s H vs Q E hr h => ?_)
  · obtain ⟨_, _, _, _, _, _, rfl, _⟩ := h; rfl
  obtain ⟨a, dx, wl, ws, i, dp, rfl, edp, rd, il, wlen, q, qn⟩ := h
  refine ⟨_, (pss_cons (ps_set (i := 2) sc_read_part_texts.nd rfl (Or.inl rfl) (pe_mX0 (k := 2) (passes1 bodyB) (pv 0) (hr.mono (by omega)))) (pss_cons (ps_if (PW.pt (pw_or (pt_cmpR op_eq (pv 2) (pe_glob (v := .str "gap") rfl T.ex.m_GAP ⟨⟨_, T.ex.z_GAP⟩, rfl⟩) (nomark _)) (pw_or1 (pt_cmpR op_eq (pv 2) (pe_glob (v := .str "glass") rfl T.ex.m_GLASS ⟨⟨_, T.ex.z_GLASS⟩, rfl⟩) (nomark _))))) (pss_one (ps_ret (pe_tup (pa_name (pv 2) (pa_call (pe_cB C_read_number (hr.mono (by omega)) (passes1 bodyB) (pa_call (pe_mX0 (k := 2) (passes1 bodyB) (pv 0) (hr.mono (by omega))) pa_nil)) pa_nil))))) pss_nil) (pss_cons (ps_if (pt_cmpR op_ne (pv 2) (pe_glob (v := .str "stop") rfl T.ex.m_STOP ⟨⟨_, T.ex.z_STOP⟩, rfl⟩) (nomark _)) (pss_one (ps_ret (pe_cB C_read_round (hr.mono (by omega)) (passes1 bodyB) (pa_name (pv 0) (pa_name (pv 2) (pa_name (pv 1) pa_nil)))))) pss_nil) (pss_cons (ps_set (i := 3) sc_read_part_texts.nd rfl (Or.inl rfl) (pe_cB C_read_number (hr.mono (by omega)) (passes1 bodyB) (pa_call (pe_mX0 (k := 2) (passes1 bodyB) (pv 0) (hr.mono (by omega))) pa_nil))) (pss_cons (ps_set (i := 4) sc_read_part_texts.nd rfl (Or.inl rfl) (pe_cB C_read_number (hr.mono (by omega)) (passes1 bodyB) (pa_call (pe_mX0 (k := 2) (passes1 bodyB) (pv 0) (hr.mono (by omega))) pa_nil))) (pss_cons (ps_if (pt_not (pt_val (pe_cB C_is_piece (hr.mono (by omega)) (passes1 bodyB) (pa_tuple (pe_tup (pa_name (pe_glob (v := .str "stop") rfl T.ex.m_STOP ⟨⟨_, T.ex.z_STOP⟩, rfl⟩) (pa_name (pv 3) (pa_name (pv 4) pa_nil)))) pa_nil)))) (pss_one (ps_raise bodyB rfl T.ex.c_NoText (pa_const pe_str pa_nil))) pss_nil) (pss_one (ps_ret (pe_tup (pa_name (pe_glob (v := .str "stop") rfl T.ex.m_STOP ⟨⟨_, T.ex.z_STOP⟩, rfl⟩) (pa_name (pv 3) (pa_name (pv 4) pa_nil)))))))))))), ?_⟩
  have one : (1 : Nat) ≤ sizeLine := by decide
  refine ⟨_, rfl, a, _, dx, _, _, _, rfl, rd.r, rfl, xc_take T, a, dx, wl, ws, i, rfl, rd, il, fun x t0 => ?_, fun t0 => ?_⟩
  rotate_left
  · exact qn (by unfold pPart; rw [t0]) H (SD.refl _ _)
  have il1 := lt_of_get t0
  have rd1 := rd.step (i + 1)
  have sd1 : SD a H (upd H a (RdO ad.Reader dx wl (i + 1))) := sd_updA _
  generalize upd H a (RdO ad.Reader dx wl (i + 1)) = H1 at rd1 sd1 ⊢
  unfold pPart at q qn
  rw [t0] at q qn
  dsimp only at q qn
  by_cases c1 : x = sOf "gap"
  · rw [if_pos c1] at q qn
    refine ⟨_, rfl, rfl, _, rfl, iteT' (by rw [decS]; exact decide_eq_true c1) (iteT ?_)⟩
    refine ⟨_, rfl, _, rfl, a, _, dx, _, _, _, rfl, rd1.r, rfl, xc_take T, a, dx, wl, ws, i + 1, rfl, rd1, il1, fun z t1 => ?_, fun t1 => ?_⟩
    rotate_left
    · exact qn (by unfold pNum; rw [t1]; rfl) H1 sd1
    have il2 := lt_of_get t1
    have rd2 := rd1.step (i + 1 + 1)
    have sd2 : SD a H1 (upd H1 a (RdO ad.Reader dx wl (i + 1 + 1))) := sd_updA _
    generalize upd H1 a (RdO ad.Reader dx wl (i + 1 + 1)) = H2 at rd2 sd2 ⊢
    have sd02 := sd1.trans sd2
    refine ⟨z, rfl, wlen z (List.mem_of_getElem? t1), fun g hg v H3 s3 hv => ?_, fun hg H3 s3 => ?_⟩
    · refine ⟨(by show 2 ≤ sizeLine; decide), fun t ht => ?_⟩
      have u := s3.trans (same_new ht (.tup [.str x, v]))
      refine q (pPc kk (.gap g)) (i + 1 + 1) (by unfold pNum; rw [t1]; simp only [Option.bind_some, hg, Option.map_some]) _ _ (sd02.trans (Lib.SD.ofSame u)) (rd2.keep u) ?_
      rw [c1]
      exact DV.upd2 ht (.str _) hv
    · exact qn (by unfold pNum; rw [t1]; simp only [Option.bind_some, hg]; rfl) H3 (sd02.trans (Lib.SD.ofSame s3))
  rw [if_neg c1] at q qn
  by_cases c2 : x = sOf "glass"
  · rw [if_pos c2] at q qn
    refine ⟨_, rfl, rfl, _, rfl, iteF' (by rw [decS]; exact decide_eq_false c1) ⟨_, rfl, rfl, _, rfl, iteT' (by rw [decS]; exact decide_eq_true c2) ?_⟩⟩
    refine ⟨_, rfl, _, rfl, a, _, dx, _, _, _, rfl, rd1.r, rfl, xc_take T, a, dx, wl, ws, i + 1, rfl, rd1, il1, fun z t1 => ?_, fun t1 => ?_⟩
    rotate_left
    · exact qn (by unfold pNum; rw [t1]; rfl) H1 sd1
    have il2 := lt_of_get t1
    have rd2 := rd1.step (i + 1 + 1)
    have sd2 : SD a H1 (upd H1 a (RdO ad.Reader dx wl (i + 1 + 1))) := sd_updA _
    generalize upd H1 a (RdO ad.Reader dx wl (i + 1 + 1)) = H2 at rd2 sd2 ⊢
    have sd02 := sd1.trans sd2
    refine ⟨z, rfl, wlen z (List.mem_of_getElem? t1), fun g hg v H3 s3 hv => ?_, fun hg H3 s3 => ?_⟩
    · refine ⟨(by show 2 ≤ sizeLine; decide), fun t ht => ?_⟩
      have u := s3.trans (same_new ht (.tup [.str x, v]))
      refine q (pPc kk (.glass g)) (i + 1 + 1) (by unfold pNum; rw [t1]; simp only [Option.bind_some, hg, Option.map_some]) _ _ (sd02.trans (Lib.SD.ofSame u)) (rd2.keep u) ?_
      rw [c2]
      exact DV.upd2 ht (.str _) hv
    · exact qn (by unfold pNum; rw [t1]; simp only [Option.bind_some, hg]; rfl) H3 (sd02.trans (Lib.SD.ofSame s3))
  rw [if_neg c2] at q qn
  refine ⟨_, rfl, rfl, _, rfl, iteF' (by rw [decS]; exact decide_eq_false c1) ⟨_, rfl, rfl, _, rfl, iteF' (by rw [decS]; exact decide_eq_false c2) ?_⟩⟩
  by_cases c3 : x = sOf "stop"
  · rw [if_pos c3] at q qn
    refine ⟨_, rfl, rfl, _, rfl, iteF' (by rw [decS, decide_eq_true c3]; rfl) ?_⟩
    refine ⟨_, rfl, a, _, dx, _, _, _, rfl, rd1.r, rfl, xc_take T, a, dx, wl, ws, i + 1, rfl, rd1, il1, fun z t1 => ?_, fun t1 => ?_⟩
    rotate_left
    · exact qn (by unfold pStop pNum; rw [t1]; rfl) H1 sd1
    have il2 := lt_of_get t1
    have rd2 := rd1.step (i + 1 + 1)
    have sd2 : SD a H1 (upd H1 a (RdO ad.Reader dx wl (i + 1 + 1))) := sd_updA _
    generalize upd H1 a (RdO ad.Reader dx wl (i + 1 + 1)) = H2 at rd2 sd2 ⊢
    have sd02 := sd1.trans sd2
    refine ⟨z, rfl, wlen z (List.mem_of_getElem? t1), fun lo hlo v H3 s3 hv => ?_, fun hg H3 s3 => ?_⟩
    rotate_left
    · exact qn (by unfold pStop; rw [show pNum ws (i + 1) = none by unfold pNum; rw [t1]; simp only [Option.bind_some, hg]; rfl]) H3 (sd02.trans (Lib.SD.ofSame s3))
    have n1 : pNum ws (i + 1) = some (lo, i + 1 + 1) := by unfold pNum; rw [t1]; simp only [Option.bind_some, hlo, Option.map_some]
    unfold pStop at q qn
    rw [n1] at q qn
    dsimp only at q qn
    have rd3 := rd2.keep s3
    have sd03 := sd02.trans (Lib.SD.ofSame s3)
    refine ⟨_, rfl, a, _, dx, _, _, _, rfl, rd3.r, rfl, xc_take T, a, dx, wl, ws, i + 1 + 1, rfl, rd3, il2, fun z2 t2 => ?_, fun t2 => ?_⟩
    rotate_left
    · rw [show pNum ws (i + 1 + 1) = none by unfold pNum; rw [t2]; rfl] at qn
      exact qn rfl H3 sd03
    have rd4 := rd3.step (i + 1 + 1 + 1)
    have sd4 : SD a H3 (upd H3 a (RdO ad.Reader dx wl (i + 1 + 1 + 1))) := sd_updA _
    have hv4 : DV K (upd H3 a (RdO ad.Reader dx wl (i + 1 + 1 + 1))) v (frD lo) := dv_keepT (sd_T rd3.r sd4) (noL_fr _) hv
    generalize upd H3 a (RdO ad.Reader dx wl (i + 1 + 1 + 1)) = H4 at rd4 sd4 hv4 ⊢
    have sd04 := sd03.trans sd4
    refine ⟨z2, rfl, wlen z2 (List.mem_of_getElem? t2), fun hi hhi y H5 s5 hy => ?_, fun hg H5 s5 => ?_⟩
    rotate_left
    · rw [show pNum ws (i + 1 + 1) = none by unfold pNum; rw [t2]; simp only [Option.bind_some, hg]; rfl] at qn
      exact qn rfl H5 (sd04.trans (Lib.SD.ofSame s5))
    have n2 : pNum ws (i + 1 + 1) = some (hi, i + 1 + 1 + 1) := by unfold pNum; rw [t2]; simp only [Option.bind_some, hhi, Option.map_some]
    rw [n2] at q qn
    dsimp only at q qn
    have s1 := (numOf_some hlo).1
    have s2 := (numOf_some hhi).1
    have hv5 := hv4.keep s5
    have sd05 := sd04.trans (Lib.SD.ofSame s5)
    refine ⟨_, rfl, _, rfl, (by show 3 ≤ sizeLine; decide), fun t ht => ?_⟩
    have u := same_new ht (.tup [.str (PySem.Str.ofString "stop"), v, y])
    have dvs : DV K (upd H5 t (.tup [.str (PySem.Str.ofString "stop"), v, y])) (.ref t) (pcD (.stop lo hi)) := .tup (SqT.of upd_same) (.cons (.str _) (.cons (hv5.keep u) (.cons (hy.keep u) .nil)))
    generalize upd H5 t (.tup [.str (PySem.Str.ofString "stop"), v, y]) = H6 at u dvs ⊢
    refine ⟨.ref t, _, rfl, dvs, smP_stop s1 s2, fun H7 s7 => ⟨_, rfl, ?_⟩⟩
    rw [pieceD_stop]
    by_cases c4 : hi < lo
    · rw [if_pos c4] at qn
      exact iteT' (by rw [decide_eq_true c4]; rfl) ⟨one, qn rfl H7 (sd05.trans (Lib.SD.ofSame (u.trans s7)))⟩
    · rw [if_neg c4] at q
      refine iteF' (by rw [decide_eq_false c4]; rfl) ?_
      refine ⟨_, rfl, _, rfl, (by show 3 ≤ sizeLine; decide), fun t2 ht2 => ?_⟩
      have u2 := (u.trans s7).trans (same_new ht2 (.tup [.str (PySem.Str.ofString "stop"), v, y]))
      exact q _ _ rfl _ _ (sd05.trans (Lib.SD.ofSame u2)) (rd4.keep (s5.trans u2)) (.tup (SqT.of upd_same) (.cons (.str _) (.cons (hv5.keep u2) (.cons (hy.keep u2) .nil))))
  · rw [if_neg c3] at q qn
    refine ⟨_, rfl, rfl, _, rfl, iteT' (by rw [decS, decide_eq_false c3]; rfl) ?_⟩
    have fr : ∀ b, H1 b = none → H b = none := fun b hb => by
      cases e : H b with
      | none => rfl
      | some o =>
        by_cases z : b = a
        · rw [z, rd1.r] at hb; cases hb
        · have := sd1 b o z e; rw [hb] at this; cases this
    refine ⟨_, rfl, _, rfl, _, rfl, a, dx, wl, ws, i + 1, x, dp, rfl, by omega, rd1, il1, wlen, fun p j hp v H2 sd2 rd2 hv => ?_, fun hp H2 sd2 => qn hp H2 (sd1.trans sd2)⟩
    exact q p j hp v H2 (sd1.trans sd2) rd2 (PV.keep (F := FrA H1) (fun b ys => ⟨fun e => e, fun o e => e⟩) (fun l xs fl hl => ⟨hl, fr l fl⟩) _ hv)
noncomputable def resP {k : Nat} (ws : List PySem.Str) (dn : List (Part k)) (n j : Nat) : Option (List (Part k) × Nat) := if ws[j]? = some (sOf ";") then (match pParts (pPart ws k) ws n (j + 1) with
  | none => none
  | some (ps, m) => some (dn ++ ps, m)) else some (dn, j)
theorem resP_start {k : Nat} {ws : List PySem.Str} {n i j : Nat} {p : Part k} (h : pPart ws k i = some (p, j)) : pParts (pPart ws k) ws (n + 1) i = resP ws [p] n j := by
  unfold resP
  rw [pParts, h]
  dsimp only
  by_cases c : ws[j]? = some (sOf ";")
  · rw [if_pos c, if_pos c]
    cases pParts (pPart ws k) ws n (j + 1) with
    | none => rfl
    | some x => rfl
  · rw [if_neg c, if_neg c]
theorem resP_step {k : Nat} {ws : List PySem.Str} {dn : List (Part k)} {n j j2 : Nat} {q : Part k} (c : ws[j]? = some (sOf ";")) (h : pPart ws k (j + 1) = some (q, j2)) : resP ws dn (n + 1) j = resP ws (dn ++ [q]) n j2 := by
  have e := resP_start (n := n) h
  rw [show resP ws dn (n + 1) j = (match pParts (pPart ws k) ws (n + 1) (j + 1) with | none => none | some (ps, m) => some (dn ++ ps, m)) by unfold resP; rw [if_pos c], e]
  unfold resP
  by_cases c2 : ws[j2]? = some (sOf ";")
  · rw [if_pos c2, if_pos c2]
    cases pParts (pPart ws k) ws n (j2 + 1) with
    | none => rfl
    | some x => obtain ⟨ps, m⟩ := x; simp
  · rw [if_neg c2, if_neg c2]
theorem resP_none {k : Nat} {ws : List PySem.Str} {dn : List (Part k)} {n j : Nat} (c : ws[j]? = some (sOf ";")) (h : pPart ws k (j + 1) = none) : resP ws dn (n + 1) j = none := by
  unfold resP
  rw [if_pos c, pParts, h]
theorem resP_end {k : Nat} {ws : List PySem.Str} {dn : List (Part k)} {n j : Nat} (c : ws[j]? ≠ some (sOf ";")) : resP ws dn n j = some (dn, j) := by
  unfold resP
  rw [if_neg c]
theorem x_read_parts (T : Txt K mg ad) {k : Nat} (C_read_part_texts : CalB P w K mg base true (3 * k + 5) "read_part_texts" ["reader", "deep"] (spRPt K ad.Reader ad.NoText (k + 1))) : CalB P w K mg base true (3 * (k + 1) + 3) "read_parts" ["reader", "deep"] (spRPst K ad.Reader ad.NoText (k + 1)) := by
  refine T.t_read_parts.calB sc_read_parts (fun _ _ _ _ _ _ => by2 fun _ _ => rfl) (fun vs H Q E h => ?_) (fun f cdv A outer s H vs Q E hr h => ?_)
  · obtain ⟨_, _, _, _, _, _, rfl, _⟩ := h; rfl
  obtain ⟨a, dx, wl, ws, i0, dp, rfl, edp, rd, il, wlen, q, qn⟩ := h
  refine ⟨_, (pss_cons (ps_set (i := 2) sc_read_parts.nd rfl (Or.inl rfl) (pe_lst (pa_call (pe_cB C_read_part_texts (hr.mono (by omega)) (passes1 bodyB) (pa_name (pv 0) (pa_name (pv 1) pa_nil))) pa_nil))) (pss_cons (ps_while PassesOwn.leaving (pt_val (pe_mX (k := 2) (passes1 bodyB) (pv 0) (hr.mono (by omega)) (pa_name (pe_glob (v := .str ";") rfl T.ex.m_PARTED ⟨⟨_, T.ex.z_PARTED⟩, rfl⟩) pa_nil))) (pss_one (ps_expr (pe_bm PySem.F.plainAttrs_list PySem.F.slot_list_append PySem.F.type_list_append mt_append (pv 2) (pa_call (pe_cB C_read_part_texts (hr.mono (by omega)) (passes1 bodyB) (pa_name (pv 0) (pa_name (pv 1) pa_nil))) pa_nil))))) (pss_one (ps_ret (pv 2))))), ?_⟩
  generalize hm : k + 1 = m at *
  refine ⟨_, rfl, _, rfl, a, dx, wl, ws, i0, dp, rfl, edp, rd, il, wlen, fun p j1 hp v H1 sd1 rd1 hv => ⟨(by show 1 ≤ sizeLine; decide), fun l hl => ?_⟩, fun hp H1 sd1 => ?_⟩
  rotate_left
  · exact qn (by rw [pParts, hp]) H1 sd1
  rw [resP_start hp] at q qn
  obtain ⟨j1g, j1l, _⟩ := pPart_ok rd.le m _ _ _ hp
  have u := same_new hl (.lst [v])
  have nla : l ≠ a := fun e => by rw [e, rd1.r] at hl; cases hl
  have nlw : wl ≠ l := fun e => by rw [← e, rd1.w] at hl; cases hl
  have nl : H l = none := by
    cases e : H l with
    | none => rfl
    | some o => have := sd1 l o nla e; rw [this] at hl; cases hl
  have sdl : SD a H (upd H1 l (.lst [v])) := sd1.trans (Lib.SD.ofSame u)
  have rdl := rd1.keep u
  have ml : upd H1 l (.lst [v]) l = some (.lst [v]) := upd_same
  have hvl : PVs K m (fun b => H b = none ∧ b ≠ l) (upd H1 l (.lst [v])) [v] [p] := by
    have : PV K m (fun b => H b = none ∧ b ≠ l) (upd H1 l (.lst [v])) v p := PV.keep (F := FrA H) u.t (fun b xs fb hb => ⟨u _ _ hb, fb, ne_of_none hb hl⟩) _ hv
    exact PVs.concat PVs.nil this
  generalize upd H1 l (.lst [v]) = H2 at sdl rdl ml hvl ⊢
  refine ⟨fun mm σ H' => ∃ (dn : List (Part m)) (n j : Nat) (xs : List V), mm = ws.length - j ∧ σ = [some (.ref a), some (.int dp), some (.ref l)] ∧ SD a H H' ∧ RdAt ad.Reader a dx wl ws j H' ∧ j ≤ ws.length ∧ ws.length + 1 ≤ n + j ∧ dn.length ≤ j ∧ resP ws [p] ws.length j1 = resP ws dn n j ∧ H' l = some (.lst xs) ∧ PVs K m (fun b => H b = none ∧ b ≠ l) H' xs dn,
    ⟨_, [p], ws.length, j1, [v], rfl, rfl, sdl, rdl, j1l, by omega, by show 1 ≤ j1; omega, rfl, ml, hvl⟩, ?_⟩
  rintro mm σ H' ⟨dn, n, j, xs, rfl, rfl, sd, rd', jl, nj, dj, er, hl', hxs⟩
  have xl : xs.length ≤ 50000 := by
    have h1 := hxs.1
    have := rd'.le
    omega
  refine ⟨_, rfl, a, _, dx, _, _, _, rfl, rd'.r, rfl, mc_take_if T, a, dx, wl, ws, j, PySem.Str.ofString ";", rfl, rd', jl, fun e => ?_, fun e => ?_⟩
  · refine ⟨_, rfl, iteT ?_⟩
    have jl2 := lt_of_get e
    obtain ⟨n', rfl⟩ : ∃ n', n = n' + 1 := ⟨n - 1, by omega⟩
    have rd1' := rd'.step (j + 1)
    have sdu : SD a H' (upd H' a (RdO ad.Reader dx wl (j + 1))) := sd_updA _
    have hlu : upd H' a (RdO ad.Reader dx wl (j + 1)) l = some (.lst xs) := by rw [upd_ne nla]; exact hl'
    have hxu : PVs K m (fun b => H b = none ∧ b ≠ l) (upd H' a (RdO ad.Reader dx wl (j + 1))) xs dn := hxs.keep (sd_T rd'.r sdu) fun b ys fb hb => ⟨sdu b _ (fun z => by rw [z, rd'.r] at hb; cases hb) hb, fb⟩
    generalize upd H' a (RdO ad.Reader dx wl (j + 1)) = H3 at rd1' sdu hlu hxu ⊢
    have sd3 := sd.trans sdu
    refine ⟨fun σ' H'' => ∃ (dn : List (Part m)) (n j2 : Nat) (xs : List V), j < j2 ∧ σ' = [some (.ref a), some (.int dp), some (.ref l)] ∧ SD a H H'' ∧ RdAt ad.Reader a dx wl ws j2 H'' ∧ j2 ≤ ws.length ∧ ws.length + 1 ≤ n + j2 ∧ dn.length ≤ j2 ∧ resP ws [p] ws.length j1 = resP ws dn n j2 ∧ H'' l = some (.lst xs) ∧ PVs K m (fun b => H b = none ∧ b ≠ l) H'' xs dn,
      fun σ' H'' ⟨dn', n'', j2, xs', h1, h2, h3, h4, h5, h6⟩ => ⟨ws.length - j2, by omega, dn', n'', j2, xs', rfl, h2, h3, h4, h5, h6⟩, ?_⟩
    refine ⟨_, rfl, .inl ⟨rfl, _, SqL.of hlu⟩, _, rfl, _, rfl, a, dx, wl, ws, j + 1, dp, rfl, edp, rd1', jl2, wlen, fun z j2 hz y H4 sd4 rd4 hy => ?_, fun hz H4 sd4 => ?_⟩
    rotate_left
    · rw [er, resP_none e hz] at qn
      exact qn rfl H4 (sd3.trans sd4)
    obtain ⟨j2g, j2l, _⟩ := pPart_ok rd.le m _ _ _ hz
    have hl4 : H4 l = some (.lst xs) := sd4 l _ nla hlu
    have hx4 : PVs K m (fun b => H b = none ∧ b ≠ l) H4 xs dn := hxu.keep (sd_T rd1'.r sd4) fun b ys fb hb => ⟨sd4 b _ (fun z => by rw [z, rd1'.r] at hb; cases hb) hb, fb⟩
    have hy4 : PV K m (fun b => H b = none ∧ b ≠ l) H4 y z := PV.keep (F := FrA H3) (fun b ys => ⟨fun e => e, fun o e => e⟩) (fun b xs' fb hb => ⟨hb, by
      have fb : H3 b = none := fb
      refine ⟨?_, fun e => by rw [e, hlu] at fb; cases fb⟩
      cases e : H b with
      | none => rfl
      | some o =>
        by_cases z : b = a
        · rw [z, rd1'.r] at fb; cases fb
        · have := sd3 b o z e; rw [fb] at this; cases this⟩) _ hy
    refine ⟨l, xs, _, rfl, rfl, hl4, small10k (by omega), ?_⟩
    have uT := sameT_upd hl4 (.lst (xs ++ [y]))
    refine ⟨dn ++ [z], n', j2, xs ++ [y], by omega, rfl, ?_, ⟨by rw [upd_ne (Ne.symm nla)]; exact rd4.r, by rw [upd_ne nlw]; exact rd4.w, rd4.le⟩, j2l, by omega, by rw [List.length_append]; simp only [List.length_cons, List.length_nil]; omega, by rw [er, resP_step e hz], upd_same, ?_⟩
    · intro b o nb e
      rw [upd_ne (ne_of_none e nl)]
      exact sd4 b o nb (sdu b o nb (sd b o nb e))
    · exact (hx4.concat hy4).keep uT fun b ys fb hb => ⟨by rw [upd_ne fb.2]; exact hb, fb⟩
  · refine ⟨_, rfl, iteF ?_⟩
    rw [er, resP_end e] at q
    exact ⟨_, rfl, q dn j rfl l xs H' sd nl rd' hl' hxs⟩
theorem x_read_parts_k (T : Txt K mg ad) : ∀ k : Nat, CalB P w K mg base true (3 * (k + 1) + 3) "read_parts" ["reader", "deep"] (spRPst K ad.Reader ad.NoText (k + 1))
  | 0 => x_read_parts T (x_read_part T (x_read_round T (k := 0) (r := 1) (by omega) (fun z => absurd rfl z) (T.t_read_parts.not (P := P) (w := w) (base := base) (k := 0) sc_read_parts (fun _ _ _ _ _ _ => by2 fun _ _ => rfl))))
  | k + 1 => x_read_parts T (x_read_part T (x_read_round T (k := k + 1) (r := 3 * (k + 1) + 3) (Nat.le_refl _) (fun _ => rfl) (x_read_parts_k T k)))
end
end K12
namespace K12
open PySem L2 Lib Fr Op Tx PySem.NumText
seal PE PT PW PA PS PSs PG PI PO PIfs PJ
section
variable {P : Program} {w : World} {K : PySem.W.Frag} {mg : PySem.Str → Option Value} {base : Heap} {ad : Adr} {c : Bool}
theorem head_pc {H : Hp} {x : V} {pc : Pc} (hx : DV K H x (pcD pc)) : ∃ (t : Addr) (xr : List V), x = .ref t ∧ SqT K H t (.str (wd pc) :: xr) ∧ wd pc ≠ PySem.Str.ofString "times" := by
  cases pc with
  | gap g =>
    obtain ⟨t, y0, y1, rfl, ht, g0, _⟩ := DV.t2 (show DV K H x (.tuple [.str "gap", frD g]) from hx)
    obtain rfl := DV.str_of g0
    exact ⟨t, _, rfl, ht, by show PySem.Str.ofString "gap" ≠ _; decide +kernel⟩
  | glass g =>
    obtain ⟨t, y0, y1, rfl, ht, g0, _⟩ := DV.t2 (show DV K H x (.tuple [.str "glass", frD g]) from hx)
    obtain rfl := DV.str_of g0
    exact ⟨t, _, rfl, ht, by show PySem.Str.ofString "glass" ≠ _; decide +kernel⟩
  | stop g1 g2 =>
    obtain ⟨t, y0, y1, y2, rfl, ht, g0, _, _⟩ := DV.t3 (show DV K H x (.tuple [.str "stop", frD g1, frD g2]) from hx)
    obtain rfl := DV.str_of g0
    exact ⟨t, _, rfl, ht, by show PySem.Str.ofString "stop" ≠ _; decide +kernel⟩
theorem cnt_step {k : Nat} {ps : List (Part k)} {i : Nat} {p : Part k} (h : ps[i]? = some p) : cntL k (ps.take (i + 1)) = cntL k (ps.take i) + cnt k p := by
  unfold cntL
  rw [List.take_add_one, h, List.map_append, List.sum_append]
  simp
theorem told_step {k : Nat} {ps : List (Part k)} {i : Nat} {p : Part k} (h : ps[i]? = some p) : toldL k (ps.take (i + 1)) = toldL k (ps.take i) ++ told k p := by
  unfold toldL
  rw [List.take_add_one, h, List.map_append, List.flatten_append]
  simp
theorem cnt_take {k : Nat} (ps : List (Part k)) (i : Nat) : cntL k (ps.take i) ≤ cntL k ps := by
  have h := congrArg (cntL k) (List.take_append_drop i ps)
  unfold cntL at h ⊢
  rw [List.map_append, List.sum_append] at h
  omega
theorem get_some {xs : List V} {k : Nat} {ps : List (Part k)} {i : Nat} {x : V} (e : xs.length = ps.length) (h : xs[i]? = some x) : ∃ p, ps[i]? = some p := ⟨_, List.getElem?_eq_getElem (by rw [← e]; exact lt_of_get h)⟩
theorem g_count_k (T : Txt K mg ad) : ∀ k : Nat, CalB P w K mg base true (k + 2) "count_of" ["parts"] (spCntk K k)
  | 0 => by
    have C_count_of := T.t_count_of.not (P := P) (w := w) (base := base) (k := 0) sc_count_of (fun _ _ _ _ _ _ => by1 fun _ => rfl)
    refine T.t_count_of.calN sc_count_of (fun _ _ _ _ _ _ => by1 fun _ => rfl) (fun vs H Q E h => ?_) (fun f cdv A outer s H vs Q E hr h => ?_)
    · obtain ⟨_, _, _, _, rfl, _⟩ := h; rfl
    obtain ⟨l, xs, ps, F, rfl, hl, hxs, l4, wp, k5, q⟩ := h
    obtain rfl : ps = [] := by
      cases ps with
      | nil => rfl
      | cons e _ => exact nomatch e
    obtain rfl : xs = [] := List.length_eq_zero_iff.mp hxs.1
    refine ⟨_, (pss_cons (ps_set (i := 1) sc_count_of.nd rfl (Or.inl rfl) pe_int) (pss_cons (ps_for PassesOwn.never rfl (pi_list (pv 0)) (pg_name (i := 2) sc_count_of.nd rfl (by first | exact Or.inl rfl | exact Or.inr rfl)) (pss_one (ps_aug (i := 1) sc_count_of.nd rfl (Or.inl rfl) (pe_ifExp (pt_cmpR op_eq (pe_ix ix_tup (pv 2) pe_int (fun _ _ => rfl)) (pe_glob (v := .str "times") rfl T.ex.m_TIMES ⟨⟨_, T.ex.z_TIMES⟩, rfl⟩) (nomark _)) (pe_op op_mul (pe_ix ix_tup (pv 2) pe_int (fun _ _ => rfl)) (pe_cB C_count_of (hr.mono (by decide)) pass01 (pa_sub (pe_ix ix_tup (pv 2) pe_int (fun _ _ => rfl)) pa_nil))) pe_int) ip_add))) (pss_one (ps_ret (pv 1))))), ?_⟩
    refine ⟨_, rfl, l, rfl, ⟨_, SqL.of hl⟩, ?_⟩
    refine for_list (K := K) (a := l) (xs := []) (fun i σ H' => ∃ c2, σ = [some (.ref l), some (.int 0), c2] ∧ H' = H) ⟨_, rfl, rfl⟩ ?_ ?_ ?_
    · rintro i σ H' hi ⟨c2, rfl, rfl⟩
      exact SqL.of hl
    · rintro i x σ H' hi ⟨c2, rfl, rfl⟩
      cases hi
    · rintro σ H' ⟨c2, rfl, rfl⟩
      exact ⟨_, rfl, q⟩
  | k + 1 => by
    have C_count_of := g_count_k T k
    refine T.t_count_of.calN sc_count_of (fun _ _ _ _ _ _ => by1 fun _ => rfl) (fun vs H Q E h => ?_) (fun f cdv A outer s H vs Q E hr h => ?_)
    · obtain ⟨_, _, _, _, rfl, _⟩ := h; rfl
    obtain ⟨l, xs, ps, F, rfl, hl, hxs, l4, wp, k5, q⟩ := h
    refine ⟨_, (pss_cons (ps_set (i := 1) sc_count_of.nd rfl (Or.inl rfl) pe_int) (pss_cons (ps_for PassesOwn.never rfl (pi_list (pv 0)) (pg_name (i := 2) sc_count_of.nd rfl (by first | exact Or.inl rfl | exact Or.inr rfl)) (pss_one (ps_aug (i := 1) sc_count_of.nd rfl (Or.inl rfl) (pe_ifExp (pt_cmpR op_eq (pe_ix ix_tup (pv 2) pe_int (fun _ _ => rfl)) (pe_glob (v := .str "times") rfl T.ex.m_TIMES ⟨⟨_, T.ex.z_TIMES⟩, rfl⟩) (nomark _)) (pe_op op_mul (pe_ix ix_tup (pv 2) pe_int (fun _ _ => rfl)) (pe_cB C_count_of (hr.mono (by omega)) pass01 (pa_sub (pe_ix ix_tup (pv 2) pe_int (fun _ _ => rfl)) pa_nil))) pe_int) ip_add))) (pss_one (ps_ret (pv 1))))), ?_⟩
    refine ⟨_, rfl, l, rfl, ⟨_, SqL.of hl⟩, ?_⟩
    refine for_list (K := K) (a := l) (xs := xs) (fun i σ H' => ∃ c2, σ = [some (.ref l), some (.int (cntL (k + 1) (ps.take i) : Int)), c2] ∧ H' = H) ⟨_, rfl, rfl⟩ ?_ ?_ ?_
    · rintro i σ H' hi ⟨c2, rfl, rfl⟩
      exact SqL.of hl
    · rintro i x σ H' hi ⟨c2, rfl, rfl⟩
      obtain ⟨p, hp⟩ := get_some hxs.1 hi
      have hv := hxs.2 i x p hi hp
      have es := cnt_step hp
      have wpp := wp p (List.mem_of_getElem? hp)
      cases p with
      | pc pc =>
        obtain ⟨t, xr, rfl, ht, ne⟩ := head_pc (show DV K H' x (pcD pc) from hv)
        refine ⟨_, rfl, _, rfl, t, _, _, _, rfl, rfl, ht, atI0, rfl, _, rfl, iteF' (by rw [decS]; exact decide_eq_false ne) ⟨_, _, rfl, rfl, ?_⟩⟩
        rw [es]
        exact ⟨_, by show [some (V.ref l), some (V.int (((cntL (k + 1) (ps.take i) : Nat) : Int) + 1)), some (V.ref t)] = [some (V.ref l), some (V.int ((cntL (k + 1) (ps.take i) + 1 : Nat) : Int)), some (V.ref t)]; rw [Int.natCast_add]; rfl, rfl⟩
      | rd n qs =>
        obtain ⟨t, l2, ys, rfl, ht, fl, hl2, el, hy⟩ := hv
        have ht' := SqT.of (K := K) ht
        refine ⟨_, rfl, _, rfl, t, _, _, _, rfl, rfl, ht', atI0, rfl, _, rfl, iteT' (by rw [decS]; exact decide_eq_true rfl) ?_⟩
        refine ⟨_, rfl, t, _, _, _, rfl, rfl, ht', rfl, _, rfl, t, _, _, _, rfl, rfl, ht', rfl, l2, ys, qs, F, rfl, hl2, ⟨el, hy⟩, wpp.2.2.1, wpp.2.2.2, by omega, ?_⟩
        have n60 : n ≤ 60 := wpp.1
        refine ⟨_, _, rfl, rfl, .inl ⟨by omega, by omega⟩, _, _, rfl, rfl, ?_⟩
        rw [es]
        have e : ((cntL (k + 1) (ps.take i) : Nat) : Int) + (n : Int) * ((cntL k qs : Nat) : Int) = ((cntL (k + 1) (ps.take i) + cnt (k + 1) (PartF.rd n qs) : Nat) : Int) := by
          rw [Int.natCast_add, show cnt (k + 1) (PartF.rd n qs) = n * cntL k qs from rfl, Int.natCast_mul]
        rw [← e]
        exact ⟨_, rfl, rfl⟩
    · rintro σ H' ⟨c2, rfl, rfl⟩
      rw [hxs.1, List.take_length]
      exact ⟨_, rfl, q⟩
theorem g_told_k (T : Txt K mg ad) : ∀ k : Nat, CalB P w K mg base true (k + 2) "told_out" ["parts"] (spOutk K k)
  | 0 => by
    have C_told_out := T.t_told_out.not (P := P) (w := w) (base := base) (k := 0) sc_told_out (fun _ _ _ _ _ _ => by1 fun _ => rfl)
    refine T.t_told_out.calN sc_told_out (fun _ _ _ _ _ _ => by1 fun _ => rfl) (fun vs H Q E h => ?_) (fun f cdv A outer s H vs Q E hr h => ?_)
    · obtain ⟨_, _, _, _, rfl, _⟩ := h; rfl
    obtain ⟨l, xs, ps, F, rfl, hl, hxs, l4, wp, c60, q⟩ := h
    obtain rfl : ps = [] := by
      cases ps with
      | nil => rfl
      | cons e _ => exact nomatch e
    obtain rfl : xs = [] := List.length_eq_zero_iff.mp hxs.1
    refine ⟨_, (pss_cons (ps_set (i := 1) sc_told_out.nd rfl (Or.inl rfl) (pe_lst pa_nil)) (pss_cons (ps_for PassesOwn.never rfl (pi_list (pv 0)) (pg_name (i := 2) sc_told_out.nd rfl (by first | exact Or.inl rfl | exact Or.inr rfl)) (pss_one (ps_if (pt_cmpR op_ne (pe_ix ix_tup (pv 2) pe_int (fun _ _ => rfl)) (pe_glob (v := .str "times") rfl T.ex.m_TIMES ⟨⟨_, T.ex.z_TIMES⟩, rfl⟩) (nomark _)) (pss_one (ps_expr (pe_bm PySem.F.plainAttrs_list PySem.F.slot_list_append PySem.F.type_list_append mt_append (pv 1) (pa_name (pv 2) pa_nil)))) (pss_one (ps_if (pt_cmpR op_gt (pe_ix ix_tup (pv 2) pe_int (fun _ _ => rfl)) pe_int (nomark _)) (pss_one (ps_expr (pe_bm PySem.F.plainAttrs_list PySem.F.slot_list_extend PySem.F.type_list_extend mt_extend (pv 1) (pa_bin (pe_op op_rep (pe_cB C_told_out (hr.mono (by decide)) pass01 (pa_sub (pe_ix ix_tup (pv 2) pe_int (fun _ _ => rfl)) pa_nil)) (pe_ix ix_tup (pv 2) pe_int (fun _ _ => rfl))) pa_nil)))) pss_nil))))) (pss_one (ps_ret (pv 1))))), ?_⟩
    refine ⟨(by show 0 ≤ sizeLine; decide), fun l2 nl => ?_⟩
    have u0 := same_new nl (.lst [])
    have m0 : upd H l2 (.lst []) l2 = some (.lst []) := upd_same
    generalize upd H l2 (.lst []) = H1 at u0 m0 ⊢
    refine ⟨_, rfl, l, rfl, ⟨_, SqL.of (u0 _ _ hl)⟩, ?_⟩
    refine for_list (K := K) (a := l) (xs := []) (fun i σ H' => ∃ c2, σ = [some (.ref l), some (.ref l2), c2] ∧ H' = H1) ⟨_, rfl, rfl⟩ ?_ ?_ ?_
    · rintro i σ H' hi ⟨c2, rfl, rfl⟩
      exact SqL.of (u0 _ _ hl)
    · rintro i x σ H' hi ⟨c2, rfl, rfl⟩
      cases hi
    · rintro σ H' ⟨c2, rfl, rfl⟩
      exact ⟨_, rfl, q l2 [] H' u0 nl m0 .nil⟩
  | k + 1 => by
    have C_told_out := g_told_k T k
    refine T.t_told_out.calN sc_told_out (fun _ _ _ _ _ _ => by1 fun _ => rfl) (fun vs H Q E h => ?_) (fun f cdv A outer s H vs Q E hr h => ?_)
    · obtain ⟨_, _, _, _, rfl, _⟩ := h; rfl
    obtain ⟨l, xs, ps, F, rfl, hl, hxs, l4, wp, c60, q⟩ := h
    refine ⟨_, (pss_cons (ps_set (i := 1) sc_told_out.nd rfl (Or.inl rfl) (pe_lst pa_nil)) (pss_cons (ps_for PassesOwn.never rfl (pi_list (pv 0)) (pg_name (i := 2) sc_told_out.nd rfl (by first | exact Or.inl rfl | exact Or.inr rfl)) (pss_one (ps_if (pt_cmpR op_ne (pe_ix ix_tup (pv 2) pe_int (fun _ _ => rfl)) (pe_glob (v := .str "times") rfl T.ex.m_TIMES ⟨⟨_, T.ex.z_TIMES⟩, rfl⟩) (nomark _)) (pss_one (ps_expr (pe_bm PySem.F.plainAttrs_list PySem.F.slot_list_append PySem.F.type_list_append mt_append (pv 1) (pa_name (pv 2) pa_nil)))) (pss_one (ps_if (pt_cmpR op_gt (pe_ix ix_tup (pv 2) pe_int (fun _ _ => rfl)) pe_int (nomark _)) (pss_one (ps_expr (pe_bm PySem.F.plainAttrs_list PySem.F.slot_list_extend PySem.F.type_list_extend mt_extend (pv 1) (pa_bin (pe_op op_rep (pe_cB C_told_out (hr.mono (by omega)) pass01 (pa_sub (pe_ix ix_tup (pv 2) pe_int (fun _ _ => rfl)) pa_nil)) (pe_ix ix_tup (pv 2) pe_int (fun _ _ => rfl))) pa_nil)))) pss_nil))))) (pss_one (ps_ret (pv 1))))), ?_⟩
    refine ⟨(by show 0 ≤ sizeLine; decide), fun l2 nl => ?_⟩
    have u0 := same_new nl (.lst [])
    have b0 : Bx K H l2 [] (upd H l2 (.lst [])) := ⟨u0, nl, [], upd_same, .nil⟩
    generalize upd H l2 (.lst []) = H1 at u0 b0 ⊢
    refine ⟨_, rfl, l, rfl, ⟨_, SqL.of (u0 _ _ hl)⟩, ?_⟩
    refine for_list (K := K) (a := l) (xs := xs) (fun i σ H' => ∃ c2, σ = [some (.ref l), some (.ref l2), c2] ∧ Bx K H l2 (toldL (k + 1) (ps.take i)) H') ⟨_, rfl, b0⟩ ?_ ?_ ?_
    · rintro i σ H' hi ⟨c2, rfl, bx⟩
      exact SqL.of (bx.s _ _ hl)
    · rintro i x σ H' hi ⟨c2, rfl, bx⟩
      obtain ⟨p, hp⟩ := get_some hxs.1 hi
      have hv := (hxs.same bx.s).2 i x p hi hp
      have es := told_step hp
      have wpp := wp p (List.mem_of_getElem? hp)
      obtain ⟨ys, e1, e2⟩ := bx.ex
      have hc := cnt_take ps (i + 1)
      rw [cnt_step hp] at hc
      have yl : ys.length + cnt (k + 1) p ≤ 60 := by
        have h1 := e2.len
        rw [List.length_map, cntL_told] at h1
        omega
      cases p with
      | pc pc =>
        obtain ⟨t, xr, rfl, ht, ne⟩ := head_pc (show DV K H' x (pcD pc) from hv)
        refine ⟨_, rfl, t, _, _, _, rfl, rfl, ht, atI0, rfl, _, rfl, iteT' (by rw [decS, decide_eq_false ne]; rfl) ?_⟩
        refine ⟨_, rfl, .inl ⟨rfl, _, SqL.of e1⟩, _, rfl, l2, ys, _, rfl, rfl, e1, small1000 (by omega), _, rfl, ?_⟩
        rw [es]
        exact Bx.more (zs := [.ref t]) (qs := [pc]) bx.s bx.n e1 e2 (.cons hv .nil)
      | rd n qs =>
        obtain ⟨t, l3, zs, rfl, ht, fl, hl3, el, hz⟩ := hv
        have ht' := SqT.of (K := K) ht
        have n60 : n ≤ 60 := wpp.1
        refine ⟨_, rfl, t, _, _, _, rfl, rfl, ht', atI0, rfl, _, rfl, iteF' (by rw [decS, decide_eq_true rfl]; rfl) ?_⟩
        refine ⟨_, rfl, t, _, _, _, rfl, rfl, ht', rfl, _, _, rfl, rfl, _, rfl, ?_⟩
        by_cases n0 : n = 0
        · subst n0
          refine iteF' (decide_eq_false (by decide)) ⟨_, rfl, ?_⟩
          rw [es, show told (k + 1) (PartF.rd 0 qs) = [] from rfl, List.append_nil]
          exact bx
        · have cq : n * cntL k qs ≤ 60 := by
            have : cnt (k + 1) (PartF.rd n qs) = n * cntL k qs := rfl
            omega
          have cq1 : cntL k qs ≤ 60 := Nat.le_trans (Nat.le_mul_of_pos_left _ (by omega)) cq
          refine iteT' (decide_eq_true (by omega)) ?_
          refine ⟨_, rfl, .inl ⟨rfl, _, SqL.of e1⟩, _, rfl, t, _, _, _, rfl, rfl, ht', rfl, l3, zs, qs, F, rfl, hl3, ⟨el, hz⟩, wpp.2.2.1, wpp.2.2.2, cq1, fun l4 us H2 s2 nl4 hl4 hus => ?_⟩
          have ul : us.length = cntL k qs := by rw [← cntL_told]; have := hus.len; rw [List.length_map] at this; exact this
          have um : us.length * n ≤ 60 := by rw [ul, Nat.mul_comm]; exact cq
          refine ⟨_, rfl, t, _, _, _, rfl, rfl, ht'.keep s2, rfl, l4, _, us, rfl, rfl, hl4, by omega, by omega, Nat.le_of_lt (small1000 (by rw [Int.toNat_natCast]; omega)), fun l5 hl5 => ?_⟩
          rw [Int.toNat_natCast]
          have u5 := same_new hl5 (.lst (List.replicate n us).flatten)
          have e15 := u5 _ _ (s2 _ _ e1)
          have d5 : DVs K (upd H2 l5 (.lst (List.replicate n us).flatten)) (List.replicate n us).flatten ((told (k + 1) (PartF.rd n qs)).map pcD) := by
            have := dvs_repF (hus.keep u5) n
            rw [show told (k + 1) (PartF.rd n qs) = (List.replicate n (toldL k qs)).flatten from rfl, List.map_flatten, List.map_replicate]
            exact this
          have rl : (List.replicate n us).flatten.length ≤ 60 := by rw [len_rep, Nat.mul_comm]; exact um
          refine ⟨l2, l5, ys, _, rfl, rfl, e15, upd_same, Nat.le_of_lt (small1000 (by omega)), _, rfl, ?_⟩
          rw [es]
          exact Bx.more (bx.s.trans (s2.trans u5)) bx.n e15 (e2.keep (s2.trans u5)) d5
    · rintro σ H' ⟨c2, rfl, bx⟩
      rw [hxs.1, List.take_length] at bx
      obtain ⟨ys, e1, e2⟩ := bx.ex
      exact ⟨_, rfl, q l2 ys H' bx.s bx.n e1 e2⟩
end
end K12
namespace K12
open PySem L2 Lib Fr Op Tx PySem.NumText
seal PE PT PW PA PS PSs PG PI PO PIfs PJ
section
variable {P : Program} {w : World} {K : PySem.W.Frag} {mg : PySem.Str → Option Value} {base : Heap} {ad : Adr} {c : Bool}
theorem x_read_bench (T : Txt K mg ad) : CalB P w K mg base true 20 "read_bench" ["text"] (spRBt K ad.NoText) := by
  have C_words_of := g_words_of (P := P) (w := w) (base := base) T
  have C_read_parts := x_read_parts_k (P := P) (w := w) (base := base) T 4
  have C_count_of := g_count_k (P := P) (w := w) (base := base) T 5
  have C_told_out := g_told_k (P := P) (w := w) (base := base) T 5
  have M_Reader := k_Reader (P := P) (w := w) (base := base) T
  refine T.t_read_bench.calB sc_read_bench (fun _ _ _ _ _ _ => by1 fun _ => rfl) (fun vs H Q E h => ?_) (fun f cdv A outer s H vs Q E hr h => ?_)
  · rcases h with ⟨_, _, rfl, _⟩ | ⟨_, rfl, _⟩ <;> rfl
  refine ⟨_, (pss_cons (ps_if (pt_not (pt_val (pe_callB call_isiD rfl T.isinstance bt_isinstance (pa_name (pv 0) (pa_name (pe_bltn (v := .ty "str") rfl T.str bt_str rfl) pa_nil))))) (pss_one (ps_raise bodyB rfl T.ex.c_NoText (pa_const pe_str pa_nil))) pss_nil) (pss_cons (ps_if (pt_cmpR op_eq (pv 0) pe_str (nomark _)) (pss_one (ps_ret (pe_lst pa_nil))) pss_nil) (pss_cons (ps_set (i := 1) sc_read_bench.nd rfl (Or.inl rfl) (pe_mkB M_Reader (hr.mono (by decide)) (pa_call (pe_cB C_words_of (hr.mono (by decide)) (passes1 bodyB) (pa_name (pv 0) pa_nil)) pa_nil))) (pss_cons (ps_set (i := 2) sc_read_bench.nd rfl (Or.inl rfl) (pe_cB C_read_parts (hr.mono (by decide)) (passes1 bodyB) (pa_name (pv 1) (pa_const pe_int pa_nil)))) (pss_cons (ps_if (pt_not (pt_val (pe_mX0 (k := 1) (passes1 bodyB) (pv 1) (hr.mono (by decide))))) (pss_one (ps_raise bodyB rfl T.ex.c_NoText (pa_const pe_str pa_nil))) pss_nil) (pss_cons (ps_if (pt_cmpR op_gt (pe_cB C_count_of (hr.mono (by decide)) (passes1 bodyB) (pa_name (pv 2) pa_nil)) (pe_glob (v := .int 60) rfl T.ex.m_MOST_PIECES ⟨_, rfl⟩) (nomark _)) (pss_one (ps_raise bodyB rfl T.ex.c_NoText (pa_const pe_str pa_nil))) pss_nil) (pss_one (ps_ret (pe_cB C_told_out (hr.mono (by decide)) (passes1 bodyB) (pa_name (pv 2) pa_nil)))))))))), ?_⟩
  have one : (1 : Nat) ≤ sizeLine := by decide
  rcases h with ⟨v, d, rfl, hv, ns, qe⟩ | ⟨x, rfl, tl, q, qn⟩
  · have e : isStrD d = false := by
      cases d with
      | str z => exact absurd rfl (ns z)
      | _ => rfl
    exact ⟨_, rfl, _, _, _, _, rfl, hv, isStr_b d, _, rfl, iteT' (by rw [e]; rfl) ⟨one, qe⟩⟩
  refine ⟨_, rfl, _, _, _, _, rfl, .str _, isStr_b _, _, rfl, iteF ?_⟩
  by_cases hne : x = sOf ""
  · refine ⟨_, rfl, rfl, _, rfl, iteT' (by rw [decS]; exact decide_eq_true hne) ⟨(by show 0 ≤ sizeLine; decide), fun l hl => ?_⟩⟩
    exact q [] (by unfold parseB; rw [if_pos hne]) l [] _ (same_new hl _) hl upd_same .nil
  refine ⟨_, rfl, rfl, _, rfl, iteF' (by rw [decS]; exact decide_eq_false hne) ?_⟩
  have sl := split_len x
  have wle := words_le (Txt.split x (PySem.Str.ofString " "))
  refine ⟨_, rfl, x, rfl, Nat.le_trans (Nat.add_le_add_right tl 2) (by decide), by omega, (fun w hw => by have := sl.2 w hw; omega), fun wl H1 s1 nwl hwl => fun a dx na ndx ne => ?_⟩
  have wlen : ∀ w ∈ wordsF (Txt.split x (PySem.Str.ofString " ")), w.length ≤ 100000 := fun w hw => by
    have := wordsF_len (fun t ht => sl.2 t ht) w hw
    omega
  unfold parseB at q qn
  rw [if_neg hne] at q qn
  dsimp only at q qn
  generalize wordsF (Txt.split x (PySem.Str.ofString " ")) = ws at wle hwl wlen q qn
  have w1 : Same H1 (upd (upd H1 dx (.own a)) a (.ins ad.Reader dx [])) := fun b o e => by rw [upd_ne (ne_of_none e na), upd_ne (ne_of_none e ndx)]; exact e
  refine ⟨a, dx, wl, rfl, upd_same, ⟨rfl, ?_⟩⟩
  have nwa : wl ≠ a := fun e => by rw [← e, hwl] at na; cases na
  have rd : RdAt ad.Reader a dx wl ws 0 (upd (upd (upd H1 dx (.own a)) a (.ins ad.Reader dx [])) a (RdO ad.Reader dx wl 0)) := ⟨upd_same, by rw [upd_ne nwa]; exact w1 _ _ hwl, by omega⟩
  have sA : Same H1 (upd (upd (upd H1 dx (.own a)) a (.ins ad.Reader dx [])) a (RdO ad.Reader dx wl 0)) := fun b o e => by rw [upd_ne (ne_of_none e na)]; exact w1 _ _ e
  generalize upd (upd (upd H1 dx (.own a)) a (.ins ad.Reader dx [])) a (RdO ad.Reader dx wl 0) = H2 at rd sA ⊢
  have na0 : H a = none := s1.free na
  have back : ∀ {H3 : Hp}, SD a H2 H3 → Same H H3 := fun sd => Lib.SD.same (s1.trans sA) na0 sd
  refine ⟨_, rfl, a, dx, wl, ws, 0, 0, rfl, by decide, rd, Nat.zero_le _, wlen, fun ps j hp l xs H3 sd nl rd3 hl hxs => ?_, fun hp H3 sd => ?_⟩
  rotate_left
  · rw [show pParts (pPart ws 5) ws (ws.length + 1) 0 = none from hp] at qn
    exact qn rfl H3 (back sd)
  rw [show pParts (pPart ws 5) ws (ws.length + 1) 0 = some (ps, j) from hp] at q qn
  dsimp only at q qn
  obtain ⟨_, jl, pne, wp, pl⟩ := pParts_ok (fun i p j h => pPart_ok rd.le 5 i p j h) _ _ _ _ hp
  have l5 : ps.length ≤ 50000 := by have := rd.le; omega
  have s03 := back sd
  refine ⟨_, rfl, a, _, dx, _, _, _, rfl, rd3.r, rfl, mc_is_done T, a, dx, wl, _, _, rfl, rd3, _, rfl, ?_⟩
  by_cases je : j = ws.length
  · rw [if_pos je] at q qn
    refine iteF' (by rw [decide_eq_true je]; rfl) ?_
    refine ⟨_, rfl, l, xs, ps, _, rfl, hl, hxs, l5, wp, by decide, _, _, rfl, rfl, _, rfl, ?_⟩
    by_cases c60 : cntL 5 ps ≤ 60
    · rw [if_pos c60] at q
      refine iteF' (decide_eq_false (by have : cntL (4 + 1) ps = cntL 5 ps := rfl; omega)) ?_
      refine ⟨_, rfl, l, xs, ps, _, rfl, hl, hxs, l5, wp, c60, fun l2 xs2 H4 s4 nl2 hl2 hxs2 => ?_⟩
      exact q _ rfl l2 xs2 H4 (s03.trans s4) (s03.free nl2) hl2 hxs2
    · rw [if_neg c60] at qn
      refine iteT' (decide_eq_true (by have : cntL (4 + 1) ps = cntL 5 ps := rfl; omega)) ?_
      exact ⟨one, qn rfl _ s03⟩
  · rw [if_neg je] at qn
    exact iteT' (by rw [decide_eq_false je]; rfl) ⟨one, qn rfl _ s03⟩
end
end K12
namespace K12
open PySem L2 Lib Fr Op Tx
seal PE PT PW PA PS PSs PG PI PO PIfs
section
variable {P : Program} {w : World} {K : PySem.W.Frag} {mg : Str → Option Value} {base : Heap} {ad : Adr} {c : Bool}
theorem c__law_cell_at (T : Txt K mg ad) : CalB P w K mg base true 1 "_law_cell_at" ["_law_script", "_law_k"] (spCell K) := by
  refine T.t__law_cell_at.calN sc__law_cell_at (fun _ _ _ _ _ _ => by2 fun _ _ => rfl) (fun vs H Q E h => ?_) (fun f cdv A outer s H vs Q E hr h => ?_)
  · obtain ⟨_, _, _, rfl, _⟩ := h; rfl
  obtain ⟨a, ns, k, rfl, hS, k0, q⟩ := h
  refine ⟨_, (pss_cons (ps_if (pt_cmpR op_lt (pv 1) (pe_callB call_len_seq rfl T.len bt_len (pa_name (pv 0) pa_nil)) (nomark _)) (pss_one (ps_ret (pe_ix ix_list (pv 0) (pv 1) (fun _ _ => rfl)))) pss_nil) (pss_one (ps_ret pe_int))), ?_⟩
  refine ⟨_, rfl, _, rfl, a, _, rfl, .inl hS, _, _, rfl, rfl, _, rfl, ?_⟩
  refine ite2 (fun hc => ?_) (fun _ => q 0)
  have hc : k < (((ns.map V.int).length : Nat) : Int) := of_decide_eq_true hc
  obtain ⟨v, hv, hm⟩ := atI_in (xs := ns.map V.int) k0 hc
  obtain ⟨z, _, rfl⟩ := List.mem_map.mp hm
  exact ⟨_, rfl, _, rfl, a, _, _, _, rfl, rfl, hS, hv, q z⟩
def spDrawn2 (K : PySem.W.Frag) : Sp := fun vs H Q _ => ∃ (a : Addr) (ns : List Int) (st : Int), vs = [.ref a, .int st] ∧ SqL K H a (ns.map V.int) ∧ ∀ d c L H', Same H H' → H d = none → H c = none → DrA H' d c L → Q (.ref d) H'
theorem c__law_drawn (T : Txt K mg ad) : CalB P w K mg base true 1 "_law_drawn" ["_law_script", "_law_start"] (spDrawn2 K) := by
  refine T.t__law_drawn.calN sc__law_drawn (fun _ _ _ _ _ _ => by2 fun _ _ => rfl) (fun vs H Q E h => ?_) (fun f cdv A outer s H vs Q E hr h => ?_)
  · obtain ⟨_, _, _, rfl, _⟩ := h; rfl
  obtain ⟨a, ns, st, rfl, hS, q⟩ := h
  refine ⟨_, (pss_one (ps_ret (pe_lst (pa_name (pv 1) (pa_bin (pe_op op_cat (pe_slice sl_list (pv 0) po_none (po_some pe_int)) (pe_lst (pa_name (pv 1) pa_nil))) (pa_const pe_int pa_nil)))))), ?_⟩
  have z1 := cutV_le0 (ns.map V.int) 60
  change (cutV (ns.map V.int) none (some 60)).length ≤ _ at z1
  have i1 := cut_ints ns none (some 60)
  refine ⟨_, rfl, _, rfl, _, rfl, a, _, rfl, hS, fun p hp => ?_⟩
  generalize cutV (ns.map V.int) none (some 60) = L1 at z1 i1 ⊢
  have u1 := same_new hp (.lst L1)
  refine ⟨_, rfl, (by show 1 ≤ sizeLine; decide), fun p2 hp2 => ?_⟩
  have u2 := same_new hp2 (.lst [.int st])
  refine ⟨p, p2, _, _, rfl, rfl, u2 _ _ upd_same, upd_same, Nat.le_of_lt (small1000 (by simp only [List.length_cons, List.length_nil]; omega)), fun p3 hp3 => ?_⟩
  have u3 := same_new hp3 (.lst (L1 ++ [.int st]))
  refine ⟨(by show 3 ≤ sizeLine; decide), fun p4 hp4 => ?_⟩
  have u4 := same_new hp4 (.lst [.int st, .ref p3, .int 0])
  have u14 := u1.trans (u2.trans (u3.trans u4))
  refine q p4 p3 (L1 ++ [.int st]) _ u14 ((u1.trans (u2.trans u3)).free hp4) ((u1.trans u2).free hp3) ⟨⟨st, 0, by decide, upd_same⟩, u4 _ _ upd_same, fun x hx => ?_, by rw [List.length_append]; simp, by rw [List.length_append]; simp only [List.length_cons, List.length_nil]; omega⟩
  rcases List.mem_append.mp hx with h | h
  · exact i1 x h
  · exact ⟨st, List.mem_singleton.mp h⟩
theorem a__law_draw (T : Txt K mg ad) : CalB P w K mg base true 1 "_law_draw" ["_law_drawn_here", "_law_many"] spDraw := by
  refine T.t__law_draw.calN sc__law_draw (fun _ _ _ _ _ _ => by2 fun _ _ => rfl) (fun vs H Q E h => ?_) (fun f cdv A outer s H vs Q E hr h => ?_)
  · obtain ⟨_, _, _, _, rfl, _⟩ := h; rfl
  obtain ⟨d, c, L, m, rfl, hd, m0, q⟩ := h
  obtain ⟨a, n, n0, hdd⟩ := hd.d
  have ncd := hd.ne
  refine ⟨_, (pss_cons (ps_set (i := 2) sc__law_draw.nd rfl (Or.inl rfl) (pe_ix ix_list (pv 0) pe_int (fun _ _ => rfl))) (pss_cons (ps_asg (pe_op op_add (pe_ix ix_list (pv 0) pe_int (fun _ _ => rfl)) pe_int) (pg_sub (pv 0) pe_int set_list)) (pss_cons (ps_set (i := 3) sc__law_draw.nd rfl (Or.inl rfl) (pe_op op_add (pe_op op_mul (pe_ix ix_list (pv 0) pe_int (fun _ _ => rfl)) pe_int) (pe_op op_mod (pe_ix ix_list (pv 2) (pe_op op_mod (pe_ix ix_list (pv 0) pe_int (fun _ _ => rfl)) (pe_callB call_len_seq rfl T.len bt_len (pa_name (pv 2) pa_nil))) (fun _ _ => rfl)) pe_int))) (pss_cons (ps_asg (pe_op op_mod (pe_op op_add (pv 3) (pe_ix ix_list (pv 0) pe_int (fun _ _ => rfl))) pe_int) (pg_sub (pv 0) pe_int set_list)) (pss_one (ps_ret (pe_op op_mod (pe_op op_fdiv (pe_ix ix_list (pv 0) pe_int (fun _ _ => rfl)) pe_int) (pv 1)))))))), ?_⟩
  refine ⟨_, rfl, d, _, _, _, rfl, rfl, SqL.of hdd, rfl, ?_⟩
  refine ⟨_, rfl, d, _, _, _, rfl, rfl, SqL.of hdd, rfl, _, _, rfl, rfl, _, rfl, d, _, _, 2, rfl, rfl, hdd, rfl, ?_⟩
  have h1 : upd H d (.lst [.int a, .ref c, .int (n + 1)]) d = some (.lst [.int a, .ref c, .int (n + 1)]) := upd_same
  have hc1 : upd H d (.lst [.int a, .ref c, .int (n + 1)]) c = some (.lst L) := by rw [upd_ne ncd]; exact hd.c
  have e1 : upd H d (.lst ([V.int a, .ref c, .int n].set 2 (.int (n + 1)))) = upd H d (.lst [.int a, .ref c, .int (n + 1)]) := rfl
  have s1 : SD d H (upd H d (.lst [.int a, .ref c, .int (n + 1)])) := sd_upd
  refine ⟨_, rfl, d, _, _, _, rfl, rfl, SqL.of h1, rfl, _, _, rfl, rfl, .inr ⟨by decide, by decide⟩, ?_⟩
  have lp : (0 : Int) < ((L.length : Nat) : Int) := by have := hd.l; omega
  have m1 := Int.emod_nonneg (n + 1) (show ((L.length : Nat) : Int) ≠ 0 by omega)
  have m2 := Int.emod_lt_of_pos (n + 1) lp
  obtain ⟨v, hv, hm⟩ := atI_in (xs := L) m1 m2
  obtain ⟨z, rfl⟩ := hd.i v hm
  refine ⟨_, rfl, _, rfl, d, _, _, _, rfl, rfl, SqL.of h1, rfl, _, rfl, c, _, rfl, .inl (SqL.of hc1), _, _, rfl, rfl, lp, c, _, _, _, rfl, rfl, SqL.of hc1, hv, ?_⟩
  refine ⟨_, _, rfl, rfl, (by show (0 : Int) < 2147483647; decide), _, _, rfl, rfl, ?_⟩
  refine ⟨_, rfl, _, rfl, d, _, _, _, rfl, rfl, SqL.of h1, rfl, _, _, rfl, rfl, _, _, rfl, rfl, (by show (0 : Int) < 2147483629; decide), _, rfl, d, _, _, 0, rfl, rfl, h1, rfl, ?_⟩
  have h2 : ∀ x : Int, DrA (upd (upd H d (.lst [.int a, .ref c, .int (n + 1)])) d (.lst [.int x, .ref c, .int (n + 1)])) d c L := fun x => ⟨⟨x, n + 1, by omega, upd_same⟩, by rw [upd_ne ncd]; exact hc1, hd.i, hd.l, hd.m⟩
  refine ⟨_, rfl, d, _, _, _, rfl, rfl, SqL.of upd_same, rfl, _, _, rfl, rfl, ⟨by decide, by decide⟩, _, rfl, _, _, rfl, rfl, m0, ?_⟩
  exact q _ _ (Int.emod_nonneg _ (by omega)) (Int.emod_lt_of_pos _ m0) (h2 _) (s1.trans sd_upd)
theorem c__law_draw (T : Txt K mg ad) : CalB P w K mg base true 1 "_law_draw" ["_law_drawn_here", "_law_many"] (spDrS dsA) := (a__law_draw T).imp fun _ _ _ _ => drA_S
end
end K12
namespace K12
open PySem L2 Lib Fr Op Tx
seal PE PT PW PA PS PSs PG PI PO PIfs
section
variable {P : Program} {w : World} {K : PySem.W.Frag} {mg : Str → Option Value} {base : Heap} {ad : Adr} {c : Bool}
theorem c__law_low (T : Txt K mg ad) : CalB P w K mg base true 1 "_law_low" ["_law_top", "_law_bottom"] spLowP := by
  refine T.t__law_low.calN sc__law_low (fun _ _ _ _ _ _ => by2 fun _ _ => rfl) (fun vs H Q E h => ?_) (fun f cdv A outer s H vs Q E hr h => ?_)
  · obtain ⟨a, b, rfl, _⟩ := h; rfl
  obtain ⟨a, b, rfl, bp, bs, q⟩ := h
  have b0 : b ≠ 0 := by omega
  refine ⟨_, (pss_cons (ps_set (i := 2) sc__law_low.nd rfl (Or.inl rfl) (pe_callB call_abs rfl T.abs bt_abs (pa_name (pv 0) pa_nil))) (pss_cons (ps_set (i := 3) sc__law_low.nd rfl (Or.inl rfl) (pv 1)) (pss_cons (ps_while PassesOwn.never (pt_cmpR op_gt (pv 3) pe_int (nomark _)) (pss_one (ps_par (i := 2) (j := 3) rfl sc__law_low.nd rfl rfl (by decide) rfl rfl (pa_name (pv 3) (pa_bin (pe_op op_mod (pv 2) (pv 3)) pa_nil)) rfl))) (pss_one (ps_ret (pe_tup (pa_bin (pe_op op_fdivW (pv 0) (pv 2)) (pa_bin (pe_op op_fdivW (pv 1) (pv 2)) pa_nil)))))))), ?_⟩
  refine ⟨_, rfl, _, rfl, _, rfl, ?_⟩
  have ea := Fr.absE a
  have eb : b = (b.natAbs : Int) := by omega
  refine ⟨fun k σ H' => H = H' ∧ ∃ (m : Nat), σ = [some (.int a), some (.int b), some (.int m), some (.int k)] ∧ Nat.gcd m k = Nat.gcd a.natAbs b.natAbs, ⟨b.natAbs, rfl, a.natAbs, by rw [← ea, ← eb]; rfl, rfl⟩, ?_⟩
  rintro n _ _ ⟨rfl, m, rfl, e⟩
  refine ⟨_, rfl, _, _, rfl, rfl, _, rfl, ?_⟩
  refine ite2 (fun c => ?_) (fun c => ?_)
  · have hn : n ≠ 0 := by
      intro z
      subst z
      simp at c
    have h1 : (m : Int) % (n : Int) = ((m % n : Nat) : Int) := (Int.natCast_emod m n).symm
    refine ⟨fun σ' H' => H = H' ∧ σ' = [some (.int a), some (.int b), some (.int n), some (.int ((m : Int) % (n : Int)))], ?_, ?_⟩
    · rintro _ _ ⟨rfl, rfl⟩
      rw [h1]
      exact ⟨m % n, Nat.mod_lt _ (by omega), rfl, n, rfl, by rw [Fr.gcd_turn, e]⟩
    · exact ⟨_, rfl, _, rfl, _, rfl, _, _, rfl, rfl, (by show (0 : Int) < (n : Int); omega), _, _, rfl, rfl, rfl⟩
  · have hn : n = 0 := by
      by_cases z : n = 0
      · exact z
      · exfalso
        apply c
        exact decide_eq_true (by omega)
    subst hn
    have e2 : (m : Int) = Fr.gcd a b := by
      unfold Fr.gcd
      rw [← e, Nat.gcd_zero_right]
    have gl := Fr.gcd_le (a := a) b0
    have gn := Fr.gcd_nn a b
    have eg : (m : Int) = Fr.sg a b := by
      unfold Fr.sg
      rw [if_neg (by omega), e2]
    have gs : (m : Int).natAbs.log2 < 9000 := by
      have h2 : (m : Int).natAbs < lim := by omega
      exact lim_log h2
    have ne : (m : Int) ≠ 0 := by rw [eg]; exact Fr.sg_ne b0
    refine ⟨_, rfl, _, rfl, _, _, rfl, rfl, ⟨ne, gs⟩, _, rfl, _, rfl, _, _, rfl, rfl, ⟨ne, gs⟩, (by show 2 ≤ sizeLine; decide), fun p hp => ?_⟩
    rw [eg]
    exact q p hp
theorem c__law_under (T : Txt K mg ad) : CalB P w K mg base true 1 "_law_under" ["_law_one", "_law_other"] (PR K RLess) := by
  refine T.t__law_under.calN sc__law_under (fun _ _ _ _ _ _ => by2 fun _ _ => rfl) (fun vs H Q E h => ?_) (fun f cdv A outer s H vs Q E hr h => ?_)
  · obtain ⟨_, _, dv, ⟨_, _, rfl, _⟩, _⟩ := h; exact dv.len
  obtain ⟨_, _, dv, ⟨p, q, rfl, sp, sq, rfl⟩, k⟩ := h
  obtain ⟨_, _, rfl, hx, hy⟩ := dv.two
  obtain ⟨a, rfl, ha⟩ := hx.fr
  obtain ⟨b, rfl, hb⟩ := hy.fr
  refine ⟨_, (pss_one (ps_ret (pe_cmpR op_lt (pe_op op_mulW (pe_ix ix_tup (pv 0) pe_int (fun _ _ => rfl)) (pe_ix ix_tup (pv 1) pe_int (fun _ _ => rfl))) (pe_op op_mulW (pe_ix ix_tup (pv 1) pe_int (fun _ _ => rfl)) (pe_ix ix_tup (pv 0) pe_int (fun _ _ => rfl))) (nomark _)))), ?_⟩
  refine ⟨_, rfl, a, _, _, _, rfl, rfl, ha, rfl, _, rfl, b, _, _, _, rfl, rfl, hb, rfl, _, _, rfl, rfl, mulW sp.n sq.dn, ?_⟩
  refine ⟨_, rfl, b, _, _, _, rfl, rfl, hb, rfl, _, rfl, a, _, _, _, rfl, rfl, ha, rfl, _, _, rfl, rfl, mulW sq.n sp.dn, _, _, rfl, rfl, ?_⟩
  have e : decide (p.num * (q.den : Int) < q.num * (p.den : Int)) = decide (p < q) := decide_eq_decide.mpr (Fr.lt_rat p q)
  show Q (.bl (decide (p.num * (q.den : Int) < q.num * (p.den : Int)))) H
  rw [e]
  exact k _ _ (Same.refl _) (.bl _)
theorem short_of {t b : Int} (b0 : b ≠ 0) (ht : t.natAbs < 10 ^ 15) (hb : b.natAbs < 10 ^ 15) : Short (Rat.divInt t b) := by
  obtain ⟨h1, h2⟩ := num_den_le b0 (rfl : Rat.divInt t b = Rat.divInt t b)
  exact ⟨by omega, by omega⟩
theorem sm_short {q : Rat} (h : Short q) : Bd 50 q := by
  have p1 : (10 : Nat) ^ 15 ≤ 2 ^ 50 := by decide
  exact ⟨Nat.lt_of_lt_of_le h.n p1, Nat.lt_of_lt_of_le h.d p1⟩
theorem c__law_part (T : Txt K mg ad) : CalB P w K mg base true 2 "_law_part" ["_law_drawn_here", "_law_far"] (spPtS dsA K) := by
  have C__law_draw := c__law_draw (P := P) (w := w) (base := base) T
  have C__law_low := c__law_low (P := P) (w := w) (base := base) T
  refine T.t__law_part.calN sc__law_part (fun _ _ _ _ _ _ => by2 fun _ _ => rfl) (fun vs H Q E h => ?_) (fun f cdv A outer s H vs Q E hr h => ?_)
  · obtain ⟨_, _, _, _, rfl, _⟩ := h; rfl
  obtain ⟨d, c, F, far, rfl, hd, q⟩ := h
  have p15 : CPow 10 15 := ⟨by decide, by decide, by decide⟩
  have t15 : (10 : Int) ^ (15 : Int).toNat = 1000000000000000 := by decide
  have p50 : (2 : Nat) ^ 50 = 1125899906842624 := by decide
  have p15n : (10 : Nat) ^ 15 = 1000000000000000 := by decide
  obtain ⟨tR, hR, kR⟩ : ∃ t, PSs (cxB true P w K mg base ["_law_drawn_here", "_law_far", "_law_top", "_law_bottom"] "_law_part" (defScope s__law_part) f cdv A outer s H E).nox ((defBody s__law_part).drop 1) t ∧ ∀ (D : Ends) (c2 c3 : Option V) (H1 : Hp), (dsA).P H1 d c (F + 6) → SE d c H H1 → (∀ v H' q, (dsA).P H' d c F → SE d c H H' → DV K H' v (frD q) → Short q → D.rt v H') → t D [some (.ref d), some (.bl far), c2, c3] H1 := by
    refine ⟨_, (pss_cons (ps_set (i := 2) sc__law_part.nd rfl (Or.inl rfl) (pe_cB C__law_draw (hr.mono (by decide)) pass01 (pa_name (pv 0) (pa_sub (pe_ix ix_list (pe_lst (pa_const pe_int (pa_const pe_int pa_nil))) (pe_callTy call_int1 rfl T.int bt_int (pa_cmp (pe_cmpR op_eq (pe_cB C__law_draw (hr.mono (by decide)) pass01 (pa_name (pv 0) (pa_const pe_int pa_nil))) pe_int (nomark _)) pa_nil)) (fun _ _ => rfl)) pa_nil)))) (pss_cons (ps_set (i := 3) sc__law_part.nd rfl (Or.inl rfl) (pe_op op_add pe_int (pe_ix ix_list (pe_lst (pa_const pe_int (pa_const pe_int (pa_call (pe_cB C__law_draw (hr.mono (by decide)) pass01 (pa_name (pv 0) (pa_const pe_int pa_nil))) (pa_call (pe_cB C__law_draw (hr.mono (by decide)) pass01 (pa_name (pv 0) (pa_const pe_int pa_nil))) pa_nil))))) (pe_cB C__law_draw (hr.mono (by decide)) pass01 (pa_name (pv 0) (pa_const pe_int pa_nil))) (fun _ _ => rfl)))) (pss_cons (ps_if (pt_cmpR op_eq (pe_cB C__law_draw (hr.mono (by decide)) pass01 (pa_name (pv 0) (pa_const pe_int pa_nil))) pe_int (nomark _)) (pss_one (ps_set (i := 2) sc__law_part.nd rfl (Or.inl rfl) (pe_op op_sub pe_int (pv 2)))) pss_nil) (pss_one (ps_ret (pe_cB C__law_low (hr.mono (by decide)) pass01 (pa_name (pv 2) (pa_name (pv 3) pa_nil)))))))), ?_⟩
    intro D c2 c3 H1 hd1 s1 q
    refine ⟨_, rfl, (by show 2 ≤ sizeLine; decide), fun p hp => ?_⟩
    have u1 := same_new hp (.lst [.int 21, .int 1999])
    have npd := DrSys.nd _ hd1 hp
    have npc := DrSys.nc _ hd1 hp
    refine ⟨_, rfl, d, c, _, 9, rfl, DrSys.keep _ hd1 u1, ⟨by decide, by decide⟩, fun x1 H2 x10 x11 hd2 s2 => ?_⟩
    have hp2 := s2 p _ npd npc upd_same
    refine ⟨rfl, .inr ⟨_, rfl, ?_⟩⟩
    obtain ⟨v, hv, hm⟩ := atI_in (xs := [V.int 21, V.int 1999]) (r := if decide (V.int x1 = V.int 1) then 1 else 0) (by split <;> decide) (by simp only [List.length_cons, List.length_nil]; split <;> decide)
    obtain ⟨m, rfl, m0, m1⟩ : ∃ m : Int, v = .int m ∧ 0 < m ∧ m ≤ 1999 := by
      simp only [List.mem_cons, List.not_mem_nil, or_false] at hm
      rcases hm with rfl | rfl <;> exact ⟨_, rfl, by decide, by decide⟩
    refine ⟨p, _, _, _, rfl, rfl, SqL.of hp2, hv, ?_⟩
    refine ⟨d, c, _, m, rfl, hd2, ⟨m0, by omega⟩, fun t H3 t0 t1 hd3 s3 => ?_⟩
    have s03 := s1.trans ((u1.se d c).trans (s2.trans s3))
    -- the bottom
    refine ⟨_, rfl, d, c, _, 4, rfl, hd3, ⟨by decide, by decide⟩, fun y1 H4 y10 y11 hd4 s4 => ?_⟩
    refine ⟨_, rfl, d, c, _, 12, rfl, hd4, ⟨by decide, by decide⟩, fun y2 H5 y20 y21 hd5 s5 => ?_⟩
    refine ⟨(by show 4 ≤ sizeLine; decide), fun p5 hp5 => ?_⟩
    have u5 := same_new hp5 (.lst [.int 0, .int 0, .int y1, .int y2])
    have npd5 := DrSys.nd _ hd5 hp5
    have npc5 := DrSys.nc _ hd5 hp5
    refine ⟨_, rfl, d, c, _, 4, rfl, DrSys.keep _ hd5 u5, ⟨by decide, by decide⟩, fun y3 H6 y30 y31 hd6 s6 => ?_⟩
    have hp6 := s6 p5 _ npd5 npc5 upd_same
    obtain ⟨v2, hv2, hm2⟩ := atI_in (xs := [V.int 0, V.int 0, V.int y1, V.int y2]) (r := y3) y30 (by simp only [List.length_cons, List.length_nil]; omega)
    obtain ⟨b, rfl, b0, b1⟩ : ∃ b : Int, v2 = .int b ∧ 0 ≤ b ∧ b ≤ 11 := by
      simp only [List.mem_cons, List.not_mem_nil, or_false] at hm2
      rcases hm2 with rfl | rfl | rfl | rfl
      · exact ⟨_, rfl, by decide, by decide⟩
      · exact ⟨_, rfl, by decide, by decide⟩
      · exact ⟨_, rfl, y10, by omega⟩
      · exact ⟨_, rfl, y20, by omega⟩
    refine ⟨p5, _, _, _, rfl, rfl, SqL.of hp6, hv2, _, _, rfl, rfl, ?_⟩
    have s06 := s03.trans (s4.trans (s5.trans ((u5.se d c).trans s6)))
    refine ⟨_, rfl, d, c, _, 2, rfl, hd6, ⟨by decide, by decide⟩, fun y4 H7 y40 y41 hd7 s7 => ?_⟩
    have s07 := s06.trans s7
    have bl : (1 + b : Int).natAbs < lim := Nat.lt_of_lt_of_le (show (1 + b : Int).natAbs < 2 ^ 50 by omega) (by unfold lim; exact pow_le (by decide))
    refine ⟨rfl, _, rfl, ?_⟩
    have fin : ∀ t' : Int, t'.natAbs < 10 ^ 15 → ∀ p7, H7 p7 = none → D.rt (.ref p7) (upd H7 p7 (.tup [.int (Fr.lt t' (1 + b)), .int (Fr.lb t' (1 + b))])) := fun t' ht p7 hp7 =>
      q _ _ _ (DrSys.keep _ hd7 (same_new hp7 _)) (s07.trans ((same_new hp7 _).se d c)) (dv_low (by omega)) (short_of (by omega) ht (by omega))
    refine ite2 (fun _ => ?_) (fun _ => ?_)
    · refine ⟨_, rfl, _, _, rfl, rfl, ?_⟩
      exact ⟨_, rfl, _, rfl, _, _, rfl, (by show (0 : Int) < 1 + b; omega), bl, fun p7 hp7 => fin (0 - t) (by omega) p7 hp7⟩
    · exact ⟨_, rfl, _, rfl, _, _, rfl, (by show (0 : Int) < 1 + b; omega), bl, fun p7 hp7 => fin t (by omega) p7 hp7⟩
  refine ⟨_, (pss_cons (ps_if (PW.pt (pw_and (pt_val (pv 1)) (pw_and1 (pt_cmpR op_eq (pe_cB C__law_draw (hr.mono (by decide)) pass01 (pa_name (pv 0) (pa_const pe_int pa_nil))) pe_int (nomark _))))) (pss_cons (ps_set (i := 2) sc__law_part.nd rfl (Or.inl rfl) (pe_op op_add (pe_op op_mul (pe_cB C__law_draw (hr.mono (by decide)) pass01 (pa_name (pv 0) (pa_const pe_int pa_nil))) pe_int) (pe_cB C__law_draw (hr.mono (by decide)) pass01 (pa_name (pv 0) (pa_const pe_int pa_nil))))) (pss_cons (ps_set (i := 3) sc__law_part.nd rfl (Or.inl rfl) (pe_op op_add (pe_op op_mul (pe_cB C__law_draw (hr.mono (by decide)) pass01 (pa_name (pv 0) (pa_const pe_int pa_nil))) pe_int) (pe_cB C__law_draw (hr.mono (by decide)) pass01 (pa_name (pv 0) (pa_const pe_int pa_nil))))) (pss_one (ps_ret (pe_cB C__law_low (hr.mono (by decide)) pass01 (pa_bin (pe_op op_add (pe_op op_sub (pe_op op_mod (pv 2) (pe_op op_sub (pe_op op_mul pe_int (pe_op op_pow pe_int pe_int)) pe_int)) (pe_op op_pow pe_int pe_int)) pe_int) (pa_bin (pe_op op_add pe_int (pe_op op_mod (pv 3) (pe_op op_sub (pe_op op_pow pe_int pe_int) pe_int))) pa_nil))))))) pss_nil) hR), ?_⟩
  refine ⟨_, rfl, _, rfl, ?_⟩
  cases far with
  | false => exact iteF (iteF (kR _ _ _ H (DrSys.le _ hd (by omega)) (SE.refl _ _ _) q))
  | true =>
    refine iteT ?_
    refine ⟨_, rfl, d, c, _, 3, rfl, hd, ⟨by decide, by decide⟩, fun x1 H1 x10 x11 hd1 s1 => ?_⟩
    refine ⟨rfl, _, rfl, ?_⟩
    refine ite2 (fun _ => ?_) (fun _ => kR _ _ _ H1 (DrSys.le _ hd1 (by omega)) s1 q)
    refine ⟨_, rfl, d, c, _, 33554432, rfl, hd1, ⟨by decide, by decide⟩, fun a1 H2 a10 a11 hd2 s2 => ?_⟩
    refine ⟨_, _, rfl, rfl, .inr ⟨by decide, by decide⟩, _, rfl, d, c, _, 33554432, rfl, hd2, ⟨by decide, by decide⟩, fun a2 H3 a20 a21 hd3 s3 => ?_⟩
    refine ⟨_, _, rfl, rfl, ?_⟩
    refine ⟨_, rfl, d, c, _, 33554432, rfl, hd3, ⟨by decide, by decide⟩, fun a3 H4 a30 a31 hd4 s4 => ?_⟩
    refine ⟨_, _, rfl, rfl, .inr ⟨by decide, by decide⟩, _, rfl, d, c, _, 33554432, rfl, hd4, ⟨by decide, by decide⟩, fun a4 H5 a40 a41 hd5 s5 => ?_⟩
    refine ⟨_, _, rfl, rfl, ?_⟩
    have s05 := s1.trans (s2.trans (s3.trans (s4.trans s5)))
    refine ⟨_, rfl, _, _, rfl, rfl, p15, _, _, rfl, rfl, .inl ⟨by decide, by decide⟩, _, _, rfl, rfl, _, _, rfl, rfl, (by show (0 : Int) < 2 * 10 ^ (15 : Int).toNat - 1; decide), _, _, rfl, rfl, p15, _, _, rfl, rfl, _, _, rfl, rfl, ?_⟩
    refine ⟨_, rfl, _, _, rfl, rfl, p15, _, _, rfl, rfl, _, _, rfl, rfl, (by show (0 : Int) < 10 ^ (15 : Int).toNat - 1; decide), _, _, rfl, rfl, ?_⟩
    have e0 := Int.emod_nonneg (a1 * 33554432 + a2) (show (2 * 10 ^ (15 : Int).toNat - 1 : Int) ≠ 0 by decide)
    have e1 := Int.emod_lt_of_pos (a1 * 33554432 + a2) (show (0 : Int) < 2 * 10 ^ (15 : Int).toNat - 1 by decide)
    have g0 := Int.emod_nonneg (a3 * 33554432 + a4) (show (10 ^ (15 : Int).toNat - 1 : Int) ≠ 0 by decide)
    have g1 := Int.emod_lt_of_pos (a3 * 33554432 + a4) (show (0 : Int) < 10 ^ (15 : Int).toNat - 1 by decide)
    rw [t15] at e0 e1 g0 g1 ⊢
    refine ⟨_, _, rfl, (by show (0 : Int) < 1 + (a3 * 33554432 + a4) % (1000000000000000 - 1); omega), Nat.lt_of_lt_of_le (show (1 + (a3 * 33554432 + a4) % (1000000000000000 - 1) : Int).natAbs < 2 ^ 50 by omega) (by unfold lim; exact pow_le (by decide)), fun p hp => ?_⟩
    exact q _ _ _ (DrSys.le _ (DrSys.keep _ hd5 (same_new hp _)) (by omega)) (s05.trans ((same_new hp _).se d c)) (dv_low (by omega)) (short_of (by omega) (by omega) (by omega))
theorem c__law_piece (T : Txt K mg ad) : CalB P w K mg base true 3 "_law_piece" ["_law_drawn_here", "_law_far"] (spPcS dsA K) := by
  have C__law_draw := c__law_draw (P := P) (w := w) (base := base) T
  have C__law_part := c__law_part (P := P) (w := w) (base := base) T
  have C__law_under := c__law_under (P := P) (w := w) (base := base) T
  refine T.t__law_piece.calN sc__law_piece (fun _ _ _ _ _ _ => by2 fun _ _ => rfl) (fun vs H Q E h => ?_) (fun f cdv A outer s H vs Q E hr h => ?_)
  · obtain ⟨_, _, _, _, rfl, _⟩ := h; rfl
  obtain ⟨d, c, F, far, rfl, hd, q⟩ := h
  refine ⟨_, (pss_cons (ps_set (i := 2) sc__law_piece.nd rfl (Or.inl rfl) (pe_cB C__law_draw (hr.mono (by decide)) pass01 (pa_name (pv 0) (pa_const pe_int pa_nil)))) (pss_cons (ps_set (i := 3) sc__law_piece.nd rfl (Or.inl rfl) (pe_cB C__law_part (hr.mono (by decide)) pass01 (pa_name (pv 0) (pa_name (pv 1) pa_nil)))) (pss_cons (ps_if (pt_cmpR op_lt (pv 2) pe_int (nomark _)) (pss_one (ps_ret (pe_tup (pa_const pe_str (pa_name (pv 3) pa_nil))))) pss_nil) (pss_cons (ps_if (pt_cmpR op_lt (pv 2) pe_int (nomark _)) (pss_one (ps_ret (pe_tup (pa_const pe_str (pa_name (pv 3) pa_nil))))) pss_nil) (pss_cons (ps_set (i := 4) sc__law_piece.nd rfl (Or.inl rfl) (pe_cB C__law_part (hr.mono (by decide)) pass01 (pa_name (pv 0) (pa_name (pv 1) pa_nil)))) (pss_cons (ps_if (pt_val (pe_cB C__law_under (hr.mono (by decide)) pass01 (pa_name (pv 4) (pa_name (pv 3) pa_nil)))) (pss_one (ps_par (i := 3) (j := 4) rfl sc__law_piece.nd rfl rfl (by decide) rfl rfl (pa_name (pv 4) (pa_name (pv 3) pa_nil)) rfl)) pss_nil) (pss_one (ps_ret (pe_tup (pa_const pe_str (pa_name (pv 3) (pa_name (pv 4) pa_nil)))))))))))), ?_⟩
  refine ⟨_, rfl, d, c, _, 5, rfl, hd, ⟨by decide, by decide⟩, fun x1 H1 x10 x11 hd1 s1 => ?_⟩
  refine ⟨_, rfl, _, rfl, d, c, _, far, rfl, hd1, fun v2 H2 q2 hd2 s2 hv2 b2 => ?_⟩
  have s02 := s1.trans s2
  refine ⟨_, rfl, _, _, rfl, rfl, _, rfl, ?_⟩
  refine ite2 (fun _ => ?_) (fun _ => ?_)
  · refine ⟨_, rfl, (by show 2 ≤ sizeLine; decide), fun p hp => ?_⟩
    exact q _ _ (.gap q2) (DrSys.le _ (DrSys.keep _ hd2 (same_new hp _)) (by omega)) (s02.trans ((same_new hp _).se d c)) (DV.upd2 hp (.str _) hv2) ⟨trivial, fun x hx => by rw [List.mem_singleton.mp hx]; exact b2⟩
  refine ⟨_, rfl, _, _, rfl, rfl, _, rfl, ?_⟩
  refine ite2 (fun _ => ?_) (fun _ => ?_)
  · refine ⟨_, rfl, (by show 2 ≤ sizeLine; decide), fun p hp => ?_⟩
    exact q _ _ (.glass q2) (DrSys.le _ (DrSys.keep _ hd2 (same_new hp _)) (by omega)) (s02.trans ((same_new hp _).se d c)) (DV.upd2 hp (.str _) hv2) ⟨trivial, fun x hx => by rw [List.mem_singleton.mp hx]; exact b2⟩
  refine ⟨_, rfl, _, rfl, d, c, _, far, rfl, hd2, fun v3 H3 q3 hd3 s3 hv3 b3 => ?_⟩
  have s03 := s02.trans s3
  have hv23 := DrSys.dv _ hd2 s3 hv2
  refine ⟨_, rfl, _, rfl, _, _, .cons hv3 (.cons hv23 .nil), ⟨_, _, rfl, (sm_short b3).sm (by decide), (sm_short b2).sm (by decide), rfl⟩, fun b H4 s4 hb => ?_⟩
  obtain rfl := hb.bl_of
  refine ⟨_, rfl, ?_⟩
  have hd4 := DrSys.keep _ hd3 s4
  have s04 := s03.trans (s4.se d c)
  refine ite2 (fun cc => ?_) (fun cc => ?_)
  · have cc : q3 < q2 := of_decide_eq_true cc
    refine ⟨_, rfl, _, rfl, _, _, rfl, ?_⟩
    refine ⟨_, rfl, _, rfl, (by show 3 ≤ sizeLine; decide), fun p hp => ?_⟩
    exact q _ _ (.stop q3 q2) (DrSys.keep _ hd4 (same_new hp _)) (s04.trans ((same_new hp _).se d c)) (DV.upd3 hp (.str _) (hv3.keep s4) (hv23.keep s4)) ⟨show ¬ q2 < q3 by grind, fun x hx => by rcases List.mem_cons.mp hx with rfl | hx; exact b3; rw [List.mem_singleton.mp hx]; exact b2⟩
  · have cc : ¬ q3 < q2 := fun z => cc (decide_eq_true z)
    refine ⟨_, rfl, _, rfl, (by show 3 ≤ sizeLine; decide), fun p hp => ?_⟩
    exact q _ _ (.stop q2 q3) (DrSys.keep _ hd4 (same_new hp _)) (s04.trans ((same_new hp _).se d c)) (DV.upd3 hp (.str _) (hv23.keep s4) (hv3.keep s4)) ⟨cc, fun x hx => by rcases List.mem_cons.mp hx with rfl | hx; exact b2; rw [List.mem_singleton.mp hx]; exact b3⟩
end
end K12
namespace K12
open PySem L2 Lib Fr Op Tx PySem.NumText
seal PE PT PW PA PS PSs PG PI PO PIfs PJ
section
variable {P : Program} {w : World} {K : PySem.W.Frag} {mg : PySem.Str → Option Value} {base : Heap} {ad : Adr} {c : Bool}
theorem sum_le {ts : List PySem.Str} {B : Nat} (h : ∀ t ∈ ts, t.length ≤ B) : (ts.map (·.length)).sum ≤ ts.length * B := by
  induction ts with
  | nil => exact Nat.zero_le _
  | cons t ts ih =>
    rw [List.map_cons, List.sum_cons, List.length_cons, Nat.succ_mul]
    have := h t List.mem_cons_self
    have := ih (fun x hx => h x (List.mem_cons_of_mem _ hx))
    omega
theorem textP_len {p : Pc} (h : PShort p) : (textP p).length ≤ 200 := by
  unfold textP
  rw [joinT]
  have h1 := join_le (PySem.Str.ofString " ") (toks p) 50 (fun t ht => Lib.tok1_le p h t ht)
  have h2 := toks_len p
  have h3 : (PySem.Str.ofString " ").length = 1 := by decide +kernel
  have h4 : (toks p).length * (50 + (PySem.Str.ofString " ").length) ≤ 3 * 51 := Nat.mul_le_mul h2.1 (by omega)
  omega
end
end K12
namespace K12
open PySem L2 Lib Fr Op Tx PySem.NumText
seal PE PT PW PA PS PSs PG PI PO PIfs PJ
section
variable {P : Program} {w : World} {K : PySem.W.Frag} {mg : PySem.Str → Option Value} {base : Heap} {ad : Adr} {c : Bool}
theorem figs_at {d : Nat} (h : d < 10) : (PySem.Str.ofString "0123456789").cps[d]? = some (48 + d) := by
  have : ∀ d : Nat, d < 10 → (PySem.Str.ofString "0123456789").cps[d]? = some (48 + d) := by decide
  exact this d h
def spWrI : Sp := fun vs H Q _ => ∃ n : Int, vs = [.int n] ∧ n.natAbs < 10 ^ 15 ∧ ∀ z : PySem.Str, cl z = (if n < 0 then [45] else []) ++ dg n.natAbs → Q (.str z) H
theorem str_nil {y : PySem.Str} (h : y = PySem.Str.ofString "") : cl y = [] := by subst h; rfl
theorem c__law_written (T : Txt K mg ad) : CalB P w K mg base true 1 "_law_written" ["_law_number"] spWrI := by
  refine T.t__law_written.calN sc__law_written (fun _ _ _ _ _ _ => by1 fun _ => rfl) (fun vs H Q E h => ?_) (fun f cdv A outer s H vs Q E hr h => ?_)
  · obtain ⟨_, rfl, _⟩ := h; rfl
  obtain ⟨n, rfl, hn, q⟩ := h
  refine ⟨_, (pss_cons (ps_set (i := 1) sc__law_written.nd rfl (Or.inl rfl) pe_str) (pss_cons (ps_set (i := 2) sc__law_written.nd rfl (Or.inl rfl) (pe_callB call_abs rfl T.abs bt_abs (pa_name (pv 0) pa_nil))) (pss_cons (ps_while PassesOwn.never (PW.pt (pw_or (pt_cmpR op_gt (pv 2) pe_int (nomark _)) (pw_or1 (pt_cmpR op_eq (pv 1) pe_str (nomark _))))) (pss_cons (ps_set (i := 1) sc__law_written.nd rfl (Or.inl rfl) (pe_op op_add_str (pe_item_str pe_str (pe_op op_mod (pv 2) pe_int) (fun _ _ => rfl)) (pv 1))) (pss_one (ps_set (i := 2) sc__law_written.nd rfl (Or.inl rfl) (pe_op op_fdiv (pv 2) pe_int))))) (pss_one (ps_ret (pe_op op_add_str (pe_op op_mul_str pe_str (pe_callTy call_int1 rfl T.int bt_int (pa_cmp (pe_cmpR op_lt (pv 0) pe_int (nomark _)) pa_nil))) (pv 1))))))), ?_⟩
  have dl := (dg_len (m := n.natAbs) (k := 15) (by decide)).mpr hn
  refine ⟨_, rfl, _, rfl, ?_⟩
  refine ⟨fun k σ H' => ∃ (m : Nat) (y : PySem.Str), σ = [some (.int n), some (.str y), some (.int (m : Int))] ∧ H' = H ∧ ((cl y = [] ∧ y = PySem.Str.ofString "" ∧ m = n.natAbs ∧ k = m + 1) ∨ (cl y ≠ [] ∧ dz m ++ cl y = dg n.natAbs ∧ k = m)), ⟨n.natAbs + 1, n.natAbs, PySem.Str.ofString "", by rw [Fr.absE]; rfl, rfl, .inl ⟨rfl, rfl, rfl, rfl⟩⟩, ?_⟩
  rintro k _ H' ⟨m, y, rfl, rfl, hy⟩
  have em : (m : Int) % 10 = ((m % 10 : Nat) : Int) := (Int.natCast_emod m 10).symm
  have ed : (m : Int) / 10 = ((m / 10 : Nat) : Int) := (Int.natCast_ediv m 10).symm
  have lt10 : m % 10 < 10 := Nat.mod_lt _ (by decide)
  have yl : y.length ≤ 15 := by
    rw [← cl_len]
    rcases hy with ⟨e, _⟩ | ⟨_, e, _⟩
    · rw [e]; decide
    · have := congrArg List.length e
      rw [List.length_append] at this
      omega
  have step : (0 < m ∨ cl y = []) → m / 10 < k ∧ cl (PySem.Str.mk #[48 + m % 10] ++ y) ≠ [] ∧ dz (m / 10) ++ cl (PySem.Str.mk #[48 + m % 10] ++ y) = dg n.natAbs := fun hm => by
    have e1 : cl (PySem.Str.mk #[48 + m % 10] ++ y) = [48 + m % 10] ++ cl y := cl_app _ _
    rw [e1]
    refine ⟨?_, by simp, ?_⟩
    · rcases hy with ⟨_, _, _, e⟩ | ⟨e0, _, e⟩
      · omega
      · rcases hm with h | h
        · omega
        · exact absurd h e0
    · rcases hy with ⟨e0, _, e2, e⟩ | ⟨e0, e2, e⟩
      · rw [e0, ← e2]
        by_cases z : m = 0
        · subst z; rfl
        · rw [List.append_nil, ← dz_step (by omega), dz_pos (by omega)]
      · rcases hm with h | h
        · rw [← e2, dz_step h, List.append_assoc]
        · exact absurd h e0
  have tail : ¬ (0 < m ∨ cl y = []) → cl (Txt.mul (PySem.Str.ofString "-") (if decide (n < 0) = true then 1 else 0) ++ y) = (if n < 0 then [45] else []) ++ dg n.natAbs := fun hm => by
    have m0 : m = 0 := by
      by_cases z : m = 0
      · exact z
      · exact absurd (.inl (by omega)) hm
    have hy2 : cl y = dg n.natAbs := by
      rcases hy with ⟨e0, _⟩ | ⟨_, e2, _⟩
      · exact absurd (.inr e0) hm
      · rw [m0] at e2; exact e2
    rw [cl_app, hy2]
    by_cases hneg : n < 0
    · rw [if_pos (decide_eq_true hneg), if_pos hneg]; rfl
    · rw [if_neg (by simpa using hneg), if_neg hneg]; rfl
  have mok : MulOk (PySem.Str.ofString "-") (if decide (n < 0) = true then 1 else 0) := by
    by_cases hneg : n < 0
    · rw [if_pos (decide_eq_true hneg)]; exact ⟨by decide, fun _ h => absurd h (by decide), fun _ h => absurd h (by decide)⟩
    · rw [if_neg (by simpa using hneg)]; exact ⟨by decide, fun h => absurd (by decide) h, fun h => absurd (by decide) h⟩
  have ml : (Txt.mul (PySem.Str.ofString "-") (if decide (n < 0) = true then 1 else 0)).length ≤ 1 := by
    by_cases hneg : n < 0
    · rw [if_pos (decide_eq_true hneg)]; decide
    · rw [if_neg (by simpa using hneg)]; decide
  refine ⟨_, rfl, _, _, rfl, rfl, _, rfl, ?_⟩
  refine ite2 (fun c => ?_) (fun c => ?_)
  · have hm : 0 < m := by
      have : (0 : Int) < (m : Int) := of_decide_eq_true c
      omega
    obtain ⟨s1, s2, s3⟩ := step (.inl hm)
    refine ⟨fun σ' H'' => σ' = [some (.int n), some (.str (PySem.Str.mk #[48 + m % 10] ++ y)), some (.int ((m / 10 : Nat) : Int))] ∧ H'' = H', ?_, ?_⟩
    · rintro _ _ ⟨rfl, rfl⟩
      exact ⟨m / 10, s1, m / 10, _, rfl, rfl, .inr ⟨s2, s3, rfl⟩⟩
    · refine ⟨_, rfl, _, _, rfl, rfl, (by show (0 : Int) < 10; decide), _, _, 48 + m % 10, rfl, rfl, (by show (0 : Int) ≤ (m : Int) % 10; omega), (by show (m : Int) % 10 < 2 ^ 63; omega), (by show (m : Int) % 10 < 10; omega), ?_, ?_⟩
      · show (PySem.Str.ofString "0123456789").cps[((m : Int) % 10).toNat]? = _
        rw [em, Int.toNat_natCast]
        exact figs_at lt10
      · refine ⟨_, rfl, _, _, rfl, rfl, size2 (by show 1 + y.length ≤ 10000; omega), ?_⟩
        refine ⟨_, rfl, _, _, rfl, rfl, ⟨by decide, by decide⟩, ?_⟩
        refine ⟨?_, rfl⟩
        show [some (V.int n), some (V.str (PySem.Str.mk #[48 + m % 10] ++ y)), some (V.int ((m : Int) / 10))] = _
        rw [ed]
  · have hm : ¬ 0 < m := fun z => c (decide_eq_true (by omega))
    refine ⟨_, rfl, rfl, _, rfl, ?_⟩
    refine ite2 (fun c => ?_) (fun c => ?_)
    · rw [decS] at c
      have hm := str_nil (of_decide_eq_true c)
      obtain ⟨s1, s2, s3⟩ := step (.inr hm)
      refine ⟨fun σ' H'' => σ' = [some (.int n), some (.str (PySem.Str.mk #[48 + m % 10] ++ y)), some (.int ((m / 10 : Nat) : Int))] ∧ H'' = H', ?_, ?_⟩
      · rintro _ _ ⟨rfl, rfl⟩
        exact ⟨m / 10, s1, m / 10, _, rfl, rfl, .inr ⟨s2, s3, rfl⟩⟩
      · refine ⟨_, rfl, _, _, rfl, rfl, (by show (0 : Int) < 10; decide), _, _, 48 + m % 10, rfl, rfl, (by show (0 : Int) ≤ (m : Int) % 10; omega), (by show (m : Int) % 10 < 2 ^ 63; omega), (by show (m : Int) % 10 < 10; omega), ?_, ?_⟩
        · show (PySem.Str.ofString "0123456789").cps[((m : Int) % 10).toNat]? = _
          rw [em, Int.toNat_natCast]
          exact figs_at lt10
        · refine ⟨_, rfl, _, _, rfl, rfl, size2 (by show 1 + y.length ≤ 10000; omega), ?_⟩
          refine ⟨_, rfl, _, _, rfl, rfl, ⟨by decide, by decide⟩, ?_⟩
          refine ⟨?_, rfl⟩
          show [some (V.int n), some (V.str (PySem.Str.mk #[48 + m % 10] ++ y)), some (V.int ((m : Int) / 10))] = _
          rw [ed]
    · have hy0 : ¬ cl y = [] := fun e => c (by rw [decS]; exact decide_eq_true (ext (e.trans (show [] = cl (PySem.Str.ofString "") from rfl))))
      have hno : ¬ (0 < m ∨ cl y = []) := fun h => h.elim hm hy0
      exact ⟨_, rfl, _, _, rfl, rfl, .inr ⟨_, rfl, _, _, rfl, rfl, mok, _, rfl, _, _, rfl, rfl, size2 (by omega), q _ (tail hno)⟩⟩
theorem c__law_shown (T : Txt K mg ad) : CalB P w K mg base true 2 "_law_shown" ["_law_part_here"] (spShowD K) := by
  have C__law_written := c__law_written (P := P) (w := w) (base := base) T
  refine T.t__law_shown.calN sc__law_shown (fun _ _ _ _ _ _ => by1 fun _ => rfl) (fun vs H Q E h => ?_) (fun f cdv A outer s H vs Q E hr h => ?_)
  · obtain ⟨_, _, rfl, _⟩ := h; rfl
  obtain ⟨v, p, rfl, hv, sp, q⟩ := h
  obtain ⟨a, y1, y2, rfl, h, e1, e2⟩ := DV.t2 (show DV K H v (.tuple [.int p.num, .int (p.den : Int)]) from hv)
  obtain rfl := DV.int_of e1
  obtain rfl := DV.int_of e2
  refine ⟨_, (pss_cons (ps_if (pt_cmpR op_eq (pe_ix ix_tup (pv 0) pe_int (fun _ _ => rfl)) pe_int (nomark _)) (pss_one (ps_ret (pe_cB C__law_written (hr.mono (by decide)) pass01 (pa_sub (pe_ix ix_tup (pv 0) pe_int (fun _ _ => rfl)) pa_nil)))) pss_nil) (pss_one (ps_ret (pe_op op_add_str (pe_op op_add_str (pe_cB C__law_written (hr.mono (by decide)) pass01 (pa_sub (pe_ix ix_tup (pv 0) pe_int (fun _ _ => rfl)) pa_nil)) pe_str) (pe_cB C__law_written (hr.mono (by decide)) pass01 (pa_sub (pe_ix ix_tup (pv 0) pe_int (fun _ _ => rfl)) pa_nil)))))), ?_⟩
  refine ⟨_, rfl, a, _, _, _, rfl, rfl, h, rfl, rfl, _, rfl, ?_⟩
  have n1 := (dg_len (m := p.num.natAbs) (k := 15) (by decide)).mpr sp.n
  have n2 := (dg_len (m := p.den) (k := 15) (by decide)).mpr sp.d
  have e1 : ∀ x : PySem.Str, cl x = sh p → x = shS p := fun x hx => ext (hx.trans (cl_shS p).symm)
  refine ite2 (fun c1 => ?_) (fun c1 => ?_)
  · have d1 : p.den = 1 := by
      have z : decide (V.int (p.den : Int) = V.int 1) = true := c1
      rw [decI] at z
      have := of_decide_eq_true z
      omega
    refine ⟨_, rfl, a, _, _, _, rfl, rfl, h, rfl, _, rfl, sp.n, fun z hz => ?_⟩
    rw [e1 z (by rw [hz]; unfold sh; rw [if_pos d1, List.append_nil])]
    exact q
  · have d1 : ¬ p.den = 1 := by
      intro e
      apply c1
      show decide (V.int (p.den : Int) = V.int 1) = true
      rw [decI, e]
      rfl
    refine ⟨_, rfl, a, _, _, _, rfl, rfl, h, rfl, _, rfl, sp.n, fun z hz => ?_⟩
    have zl := cl_len z
    rw [hz, List.length_append] at zl
    have zl2 : (if p.num < 0 then [45] else [] : List Nat).length ≤ 1 := by split <;> decide
    have zs : (PySem.Str.ofString "/").length = 1 := rfl
    refine ⟨_, _, rfl, rfl, size2 (by omega), ?_⟩
    refine ⟨_, rfl, a, _, _, _, rfl, rfl, h, rfl, _, rfl, by rw [Int.natAbs_natCast]; exact sp.d, fun y hy => ?_⟩
    rw [if_neg (by omega), List.nil_append, Int.natAbs_natCast] at hy
    have yl := cl_len y
    rw [hy] at yl
    refine ⟨_, _, rfl, rfl, size2 (by rw [app_len]; omega), ?_⟩
    show Q (.str (z ++ PySem.Str.ofString "/" ++ y)) H
    rw [e1 (z ++ PySem.Str.ofString "/" ++ y) (by
      rw [cl_app, cl_app, hz, hy]
      unfold sh
      rw [if_neg d1]
      show _ ++ [47] ++ _ = _
      simp)]
    exact q
theorem c__law_piece_text (T : Txt K mg ad) : CalB P w K mg base true 3 "_law_piece_text" ["_law_piece_here"] (spShowPF K) := by
  have C__law_shown := c__law_shown (P := P) (w := w) (base := base) T
  refine T.t__law_piece_text.calN sc__law_piece_text (fun _ _ _ _ _ _ => by1 fun _ => rfl) (fun vs H Q E h => ?_) (fun f cdv A outer s H vs Q E hr h => ?_)
  · obtain ⟨_, _, rfl, _⟩ := h; rfl
  obtain ⟨v, p, rfl, hv, ps, q⟩ := h
  refine ⟨_, (pss_one (ps_ret (pe_bm PySem.F.plainAttrs_str PySem.F.slot_str_join PySem.F.type_str_join mt_join pe_str (pa_bin (pe_op op_cat (pe_lst (pa_sub (pe_ix ix_tup (pv 0) pe_int (fun _ _ => rfl)) pa_nil)) (pe_comp ["_law_part_here"] [none] rfl (pi_tup (pe_slice sl_tup (pv 0) (po_some pe_int) po_none)) (fun _ _ _ _ _ => (pg_name (i := 0) (show List.Nodup [("_law_part_here" : Str)] by decide) rfl (by first | exact Or.inl rfl | exact Or.inr rfl))) (fun _ _ _ _ _ => pifs_nil) (fun _ _ _ _ _ => (pe_cB C__law_shown (hr.mono (by decide)) pass01 (pa_name (pv 0) pa_nil))) (cap_nil (by decide) (by decide)) (by decide) rfl (by decide) rfl (nocap rfl))) pa_nil)))), ?_⟩
  obtain ⟨t, xr, rfl, ht, hxr⟩ : ∃ (t : Addr) (xr : List V), v = .ref t ∧ SqT K H t (.str (wd p) :: xr) ∧ DVs K H xr ((fracs p).map frD) := by
    cases p with
    | gap g =>
      obtain ⟨t, y0, y1, rfl, ht, g0, g1⟩ := DV.t2 (show DV K H v (.tuple [.str "gap", frD g]) from hv)
      obtain rfl := DV.str_of g0
      exact ⟨t, _, rfl, ht, .cons g1 .nil⟩
    | glass g =>
      obtain ⟨t, y0, y1, rfl, ht, g0, g1⟩ := DV.t2 (show DV K H v (.tuple [.str "glass", frD g]) from hv)
      obtain rfl := DV.str_of g0
      exact ⟨t, _, rfl, ht, .cons g1 .nil⟩
    | stop g h =>
      obtain ⟨t, y0, y1, y2, rfl, ht, g0, g1, g2⟩ := DV.t3 (show DV K H v (.tuple [.str "stop", frD g, frD h]) from hv)
      obtain rfl := DV.str_of g0
      exact ⟨t, _, rfl, ht, .cons g1 (.cons g2 .nil)⟩
  have hl : xr.length = (fracs p).length := by have := hxr.len; rw [List.length_map] at this; exact this
  have fl : 1 ≤ (fracs p).length ∧ (fracs p).length ≤ 2 := by cases p <;> exact ⟨by simp [fracs], by simp [fracs]⟩
  refine ⟨rfl, _, rfl, t, _, _, _, rfl, rfl, ht, atI0, (by show 1 ≤ sizeLine; decide), fun p1 hp1 => ?_⟩
  have u1 := same_new hp1 (.lst [.str (wd p)])
  have m1 : upd H p1 (.lst [.str (wd p)]) p1 = some (.lst [.str (wd p)]) := upd_same
  generalize upd H p1 (.lst [.str (wd p)]) = H1 at u1 m1 ⊢
  refine ⟨_, rfl, _, rfl, t, _, rfl, ht.keep u1, (fun e => by rw [sIx1] at e; simp only [List.length_cons] at e; omega), fun p2 hp2 => ⟨p2, rfl, ⟨_, SqT.of upd_same⟩, ?_⟩⟩
  rw [cut1]
  have u2 := same_new hp2 (.tup ((V.str (wd p) :: xr).drop 1))
  have m2 : upd H1 p2 (.tup ((V.str (wd p) :: xr).drop 1)) p2 = some (.tup xr) := upd_same
  have m12 := u2 _ _ m1
  have s2 := u1.trans u2
  generalize upd H1 p2 (.tup ((V.str (wd p) :: xr).drop 1)) = H2 at u2 m2 m12 s2 ⊢
  refine comp_tup0 (K := K) (a := p2) (xs := xr) (fun i σ ys H' => ∃ c0, σ = [c0] ∧ ys = (((fracs p).take i).map shS).map V.str ∧ H' = H2) ⟨_, rfl, rfl, rfl⟩ ?_ ?_ ?_
  · rintro i σ ys H' hi ⟨c0, rfl, rfl, rfl⟩
    refine ⟨?_, SqT.of m2⟩
    rw [List.length_map, List.length_map, List.length_take]
    exact Nat.le_of_lt (small1000 (by omega))
  · rintro i x σ ys H' hi ⟨c0, rfl, rfl, rfl⟩
    obtain ⟨d, hd, hx⟩ := hxr.get hi
    rw [List.getElem?_map] at hd
    cases e : (fracs p)[i]? with
    | none => rw [e] at hd; cases hd
    | some g =>
      rw [e] at hd
      cases hd
      refine ⟨_, rfl, x, g, rfl, hx.keep s2, ps g (List.mem_of_getElem? e), nx (lt_of_get hi) ⟨_, rfl, ?_, rfl⟩⟩
      rw [List.take_add_one, e, List.map_append, List.map_append]
      rfl
  · rintro σ ys H' p3 ⟨c0, rfl, rfl, rfl⟩ hp3
    rw [hl, List.take_length]
    have u3 := same_new hp3 (.lst (((fracs p).map shS).map V.str))
    have m3 : upd H' p3 (.lst (((fracs p).map shS).map V.str)) p3 = some (.lst (((fracs p).map shS).map V.str)) := upd_same
    have m13 := u3 _ _ m12
    have s3 := s2.trans u3
    generalize upd H' p3 (.lst (((fracs p).map shS).map V.str)) = H3 at u3 m3 m13 s3 ⊢
    refine ⟨p1, p3, _, _, rfl, rfl, m13, m3, Nat.le_of_lt (small1000 (by rw [List.length_map, List.length_map]; simp only [List.length_cons, List.length_nil]; omega)), fun p4 hp4 => ?_⟩
    have e4 : ([.str (wd p)] ++ ((fracs p).map shS).map V.str : List V) = (toks p).map V.str := rfl
    have jo : JoinOk (PySem.Str.ofString " ") (toks p) = true := by
      refine PyProof.Rows.joinOk_of_weight ?_ (by decide +kernel)
      have h1 : ∀ t ∈ toks p, t.length ≤ 50 := fun t ht => Lib.tokF_le p ps t ht
      have h2 := toks_len p
      have h3 : ((toks p).map (·.length)).sum ≤ (toks p).length * 50 := sum_le h1
      have h4 : (toks p).length * 50 ≤ 3 * 50 := Nat.mul_le_mul_right _ h2.1
      omega
    exact ⟨_, p4, toks p, rfl, rfl, by rw [upd_same, e4], jo, q _ (s3.trans (same_new hp4 _))⟩
theorem c__law_text (T : Txt K mg ad) : CalB P w K mg base true 4 "_law_text" ["_law_bench"] (spShowB K) := by
  have C__law_piece_text := c__law_piece_text (P := P) (w := w) (base := base) T
  refine T.t__law_text.calN sc__law_text (fun _ _ _ _ _ _ => by1 fun _ => rfl) (fun vs H Q E h => ?_) (fun f cdv A outer s H vs Q E hr h => ?_)
  · obtain ⟨_, _, rfl, _⟩ := h; rfl
  obtain ⟨v, ps, rfl, hv, l60, sh, q⟩ := h
  refine ⟨_, (pss_one (ps_ret (pe_bm PySem.F.plainAttrs_str PySem.F.slot_str_join PySem.F.type_str_join mt_join pe_str (pa_cons (pe_comp ["_law_piece_here"] [none] rfl (pi_list (pv 0)) (fun _ _ _ _ _ => (pg_name (i := 0) (show List.Nodup [("_law_piece_here" : Str)] by decide) rfl (by first | exact Or.inl rfl | exact Or.inr rfl))) (fun _ _ _ _ _ => pifs_nil) (fun _ _ _ _ _ => (pe_cB C__law_piece_text (hr.mono (by decide)) pass01 (pa_name (pv 0) pa_nil))) (cap_nil (by decide) (by decide)) (by decide) rfl (by decide) rfl (nocap rfl)) pa_nil)))), ?_⟩
  have s1 := Same.refl H
  obtain ⟨b, xs, rfl, hb, hxs⟩ := hv.lst_of
  have hl : xs.length = ps.length := by have := hxs.len; rw [List.length_map] at this; exact this
  refine ⟨rfl, _, rfl, b, rfl, ⟨_, hb.keep s1⟩, ?_⟩
  refine comp_list0 (K := K) (a := b) (xs := xs) (fun i σ ys H' => ∃ c0, σ = [c0] ∧ ys = ((ps.take i).map textP).map V.str ∧ Same H H') ⟨_, rfl, rfl, s1⟩ ?_ ?_ ?_
  · rintro i σ ys H' hi ⟨c0, rfl, rfl, s2⟩
    refine ⟨?_, hb.keep s2⟩
    rw [List.length_map, List.length_map, List.length_take]
    exact Nat.le_of_lt (small1000 (by omega))
  · rintro i x σ ys H' hi ⟨c0, rfl, rfl, s2⟩
    obtain ⟨d, hd, hx⟩ := hxs.get hi
    obtain ⟨pc, hpc, rfl⟩ := get_map_pc hd
    refine ⟨_, rfl, x, pc, rfl, hx.keep s2, (sh pc (List.mem_of_getElem? hpc)).2, fun H3 s3 => nx (lt_of_get hi) ⟨_, rfl, ?_, s2.trans s3⟩⟩
    rw [List.take_add_one, hpc, List.map_append, List.map_append]
    rfl
  · rintro σ ys H' p ⟨c0, rfl, rfl, s2⟩ hp
    rw [hl, List.take_length]
    have jo : JoinOk (PySem.Str.ofString "; ") (ps.map textP) = true := by
      refine PyProof.Rows.joinOk_of_weight ?_ (by decide +kernel)
      have h1 : ∀ t ∈ ps.map textP, t.length ≤ 200 := fun t ht => by
        obtain ⟨p, hp, rfl⟩ := List.mem_map.mp ht
        exact textP_len (sh p hp)
      have h3 := sum_le h1
      rw [List.length_map] at h3 ⊢
      have h4 : ps.length * 200 ≤ 60 * 200 := Nat.mul_le_mul_right _ l60
      omega
    exact ⟨_, p, ps.map textP, rfl, rfl, upd_same, jo, q _ (s2.trans (same_new hp _))⟩
end
end K12
namespace K12
open PySem L2 Lib Fr Op Tx
seal PE PT PW PA PS PSs PG PI PO PIfs
def boolsV : List V := [.bl true, .bl true, .bl false, .bl false, .bl false, .bl false, .bl false, .bl false, .bl false, .bl false]
def boolsD : PyData := .list [.bool true, .bool true, .bool false, .bool false, .bool false, .bool false, .bool false, .bool false, .bool false, .bool false]
def spKinds (C : Addr) : Sp := fun vs H Q _ => ∃ a : Addr, vs = [.ref a] ∧ H a = some (excO a C) ∧ ∀ l H', Same H H' → H' l = some (.lst boolsV) → Q (.ref l) H'
def NoTx (K : PySem.W.Frag) (H : Hp) (v : V) : Prop := (∃ d, DV K H v d ∧ ∀ x : PySem.Str, d ≠ .str x) ∨ ∃ x : PySem.Str, v = .str x ∧ x.length ≤ 20000 ∧ parseB x = none
def spRef12 (K : PySem.W.Frag) : Sp := fun vs H Q _ => ∃ v : V, vs = [v] ∧ NoTx K H v ∧ ∀ H', Same H H' → Q (.bl true) H'
theorem dv_bools {K : PySem.W.Frag} {H : Hp} {l : Addr} (h : H l = some (.lst boolsV)) : DV K H (.ref l) boolsD := .lst (SqL.of h) (.cons (.bl _) (.cons (.bl _) (.cons (.bl _) (.cons (.bl _) (.cons (.bl _) (.cons (.bl _) (.cons (.bl _) (.cons (.bl _) (.cons (.bl _) (.cons (.bl _) .nil))))))))))
section
variable {P : Program} {w : World} {K : PySem.W.Frag} {mg : PySem.Str → Option Value} {base : Heap} {ad : Adr} {c : Bool}
theorem c__law_kinds (T : Txt K mg ad) : CalB P w K mg base false 1 "_law_kinds" ["_law_e"] (spKinds ad.NoText) := by
  refine T.t__law_kinds.calN sc__law_kinds (fun _ _ _ _ _ _ => by1 fun _ => rfl) (fun vs H Q E h => ?_) (fun f cdv A outer s H vs Q E hr h => ?_)
  · obtain ⟨_, rfl, _⟩ := h; rfl
  obtain ⟨a, rfl, ha, q⟩ := h
  have X := T.ex
  have ek := X.e_NoText
  refine ⟨_, (pss_cons (ps_set (i := 1) sc__law_kinds.nd rfl (Or.inl rfl) (pe_lst (pa_call (pe_callB call_isiX rfl T.isinstance bt_isinstance (pa_name (pv 0) (pa_name (pe_glob (v := .ref ad.NoText) rfl T.ex.m_NoText rfl) pa_nil))) (pa_call (pe_callB call_isiX rfl T.isinstance bt_isinstance (pa_name (pv 0) (pa_name (pe_bltn (v := .ty "ValueError") rfl T.ValueError bt_ValueError rfl) pa_nil))) (pa_call (pe_callB call_isiX rfl T.isinstance bt_isinstance (pa_name (pv 0) (pa_name (pe_glob (v := .ref ad.NoNumber) rfl T.ex.m_NoNumber rfl) pa_nil))) (pa_call (pe_callB call_isiX rfl T.isinstance bt_isinstance (pa_name (pv 0) (pa_name (pe_glob (v := .ref ad.NoBench) rfl T.ex.m_NoBench rfl) pa_nil))) pa_nil)))))) (pss_cons (ps_set (i := 1) sc__law_kinds.nd rfl (Or.inl rfl) (pe_op op_cat (pv 1) (pe_lst (pa_call (pe_callB call_isiX rfl T.isinstance bt_isinstance (pa_name (pv 0) (pa_name (pe_glob (v := .ref ad.NoTable) rfl T.ex.m_NoTable rfl) pa_nil))) (pa_call (pe_callB call_isiX rfl T.isinstance bt_isinstance (pa_name (pv 0) (pa_name (pe_glob (v := .ref ad.NoBox) rfl T.ex.m_NoBox rfl) pa_nil))) (pa_call (pe_callB call_isiX rfl T.isinstance bt_isinstance (pa_name (pv 0) (pa_name (pe_glob (v := .ref ad.NoStock) rfl T.ex.m_NoStock rfl) pa_nil))) (pa_call (pe_callB call_isiX rfl T.isinstance bt_isinstance (pa_name (pv 0) (pa_name (pe_glob (v := .ref ad.NoWish) rfl T.ex.m_NoWish rfl) pa_nil))) pa_nil))))))) (pss_one (ps_ret (pe_op op_cat (pv 1) (pe_lst (pa_call (pe_callB call_isiX rfl T.isinstance bt_isinstance (pa_name (pv 0) (pa_name (pe_glob (v := .ref ad.NoRow) rfl T.ex.m_NoRow rfl) pa_nil))) (pa_call (pe_callB call_isiX rfl T.isinstance bt_isinstance (pa_name (pv 0) (pa_name (pe_glob (v := .ref ad.Unknown) rfl T.ex.m_Unknown rfl) pa_nil))) pa_nil)))))))), ?_⟩
  refine ⟨_, rfl, a, _, _, _, _, rfl, ha, ek, rfl, X.k_NoText_NoText, ?_⟩
  refine ⟨_, rfl, a, _, _, _, _, rfl, ha, ek, rfl, X.k_NoText_ValueError, ?_⟩
  refine ⟨_, rfl, a, _, _, _, _, rfl, ha, ek, rfl, X.k_NoText_NoNumber, ?_⟩
  refine ⟨_, rfl, a, _, _, _, _, rfl, ha, ek, rfl, X.k_NoText_NoBench, ?_⟩
  refine ⟨(by show 4 ≤ sizeLine; decide), fun p1 hp1 => ?_⟩
  have u1 := same_new hp1 (.lst [.bl true, .bl true, .bl false, .bl false])
  have l1 : upd H p1 (.lst [.bl true, .bl true, .bl false, .bl false]) p1 = some (.lst [.bl true, .bl true, .bl false, .bl false]) := upd_same
  have ha1 := u1 _ _ ha
  generalize upd H p1 (.lst [.bl true, .bl true, .bl false, .bl false]) = H1 at u1 l1 ha1 ⊢
  refine ⟨_, rfl, _, rfl, a, _, _, _, _, rfl, ha1, ek, rfl, X.k_NoText_NoTable, ?_⟩
  refine ⟨_, rfl, a, _, _, _, _, rfl, ha1, ek, rfl, X.k_NoText_NoBox, ?_⟩
  refine ⟨_, rfl, a, _, _, _, _, rfl, ha1, ek, rfl, X.k_NoText_NoStock, ?_⟩
  refine ⟨_, rfl, a, _, _, _, _, rfl, ha1, ek, rfl, X.k_NoText_NoWish, ?_⟩
  refine ⟨(by show 4 ≤ sizeLine; decide), fun p2 hp2 => ?_⟩
  have u2 := same_new hp2 (.lst [.bl false, .bl false, .bl false, .bl false])
  have l2 : upd H1 p2 (.lst [.bl false, .bl false, .bl false, .bl false]) p2 = some (.lst [.bl false, .bl false, .bl false, .bl false]) := upd_same
  generalize upd H1 p2 (.lst [.bl false, .bl false, .bl false, .bl false]) = H2 at u2 l2 ⊢
  refine ⟨p1, p2, _, _, rfl, rfl, u2 _ _ l1, l2, (by show 8 ≤ sizeLine; decide), fun p3 hp3 => ?_⟩
  have u3 := same_new hp3 (.lst ([V.bl true, .bl true, .bl false, .bl false] ++ [.bl false, .bl false, .bl false, .bl false]))
  have l3 : upd H2 p3 (.lst ([V.bl true, .bl true, .bl false, .bl false] ++ [.bl false, .bl false, .bl false, .bl false])) p3 = some (.lst ([V.bl true, .bl true, .bl false, .bl false] ++ [.bl false, .bl false, .bl false, .bl false])) := upd_same
  have ha3 := (u2.trans u3) _ _ ha1
  generalize upd H2 p3 (.lst ([V.bl true, .bl true, .bl false, .bl false] ++ [.bl false, .bl false, .bl false, .bl false])) = H3 at u3 l3 ha3 ⊢
  refine ⟨_, rfl, _, rfl, a, _, _, _, _, rfl, ha3, ek, rfl, X.k_NoText_NoRow, ?_⟩
  refine ⟨_, rfl, a, _, _, _, _, rfl, ha3, ek, rfl, X.k_NoText_Unknown, ?_⟩
  refine ⟨(by show 2 ≤ sizeLine; decide), fun p4 hp4 => ?_⟩
  have u4 := same_new hp4 (.lst [.bl false, .bl false])
  have l4 : upd H3 p4 (.lst [.bl false, .bl false]) p4 = some (.lst [.bl false, .bl false]) := upd_same
  generalize upd H3 p4 (.lst [.bl false, .bl false]) = H4 at u4 l4 ⊢
  refine ⟨p3, p4, _, _, rfl, rfl, u4 _ _ l3, l4, (by show 10 ≤ sizeLine; decide), fun p5 hp5 => ?_⟩
  exact q p5 _ (u1.trans (u2.trans (u3.trans (u4.trans (same_new hp5 _))))) upd_same
end
end K12
namespace K12
open PySem L2 Lib Fr Op Tx
seal PE PT PW PA PS PSs PG PI PO PIfs
section
variable {P : Program} {w : World} {K : PySem.W.Frag} {mg : PySem.Str → Option Value} {base : Heap} {ad : Adr} {c : Bool}
theorem c__law_refused (T : Txt K mg ad) : CalB P w K mg base true 24 "_law_refused" ["_law_thing"] (spRef12 K) := by
  have C_read_bench := x_read_bench (P := P) (w := w) (base := base) T
  have CF__law_kinds := c__law_kinds (P := P) (w := w) (base := base) T
  refine T.t__law_refused.calN sc__law_refused (fun _ _ _ _ _ _ => by1 fun _ => rfl) (fun vs H Q E h => ?_) (fun f cdv A outer s H vs Q E hr h => ?_)
  · obtain ⟨_, rfl, _⟩ := h; rfl
  obtain ⟨v, rfl, bad, q⟩ := h
  have X := T.ex
  refine ⟨_, (pss_cons (ps_set (i := 1) sc__law_refused.nd rfl (Or.inl rfl) (pe_lst pa_nil)) (pss_cons (ps_tryE (i := 2) C_read_bench (hr.mono (by decide)) rfl rfl (pa_name (pv 0) pa_nil) T.ex.m_BenchError (fun _ => (pss_one (ps_set (i := 1) sc__law_refused.nd rfl (Or.inl rfl) (pe_cB CF__law_kinds ((hr.mark _).mono (by decide)) pass01 (pa_name (pv 2) pa_nil))))) sc__law_refused.nd rfl rfl) (pss_one (ps_ret (pe_cmpR (op_eqD hr.units) (pv 1) (pe_op op_cat (pe_lst (pa_const pe_bl (pa_const pe_bl pa_nil))) (pe_op op_rep (pe_lst (pa_const pe_bl pa_nil)) pe_int)) (nomark _)))))), ?_⟩
  refine ⟨(by show 0 ≤ sizeLine; decide), fun p0 hp0 => ?_⟩
  have u0 := same_new hp0 (.lst [])
  generalize upd H p0 (.lst []) = H0 at u0 ⊢
  have fin : ∀ (l a : Addr) (H3 : Hp), Same H H3 → H3 l = some (.lst boolsV) → ∀ c2, tRet (tOp (rEqD K) (tVar 1) (tOp rCat (tLst (tCons (tC (V.bl true)) (tCons (tC (V.bl true)) tNil))) (tOp rRep (tLst (tCons (tC (V.bl false)) tNil)) (tC (V.int 8))))) { nx := fun _ H' => Q V.non H', rt := Q } [some v, some (.ref l), c2] H3 := fun l a H3 s3 hl c2 => by
    refine ⟨_, rfl, (by show 2 ≤ sizeLine; decide), fun p3 hp3 => ?_⟩
    have u3 := same_new hp3 (.lst [.bl true, .bl true])
    have l3 : upd H3 p3 (.lst [.bl true, .bl true]) p3 = some (.lst [.bl true, .bl true]) := upd_same
    generalize upd H3 p3 (.lst [.bl true, .bl true]) = H4 at u3 l3 ⊢
    refine ⟨(by show 1 ≤ sizeLine; decide), fun p4 hp4 => ?_⟩
    have u4 := same_new hp4 (.lst [.bl false])
    have l4 : upd H4 p4 (.lst [.bl false]) p4 = some (.lst [.bl false]) := upd_same
    generalize upd H4 p4 (.lst [.bl false]) = H5 at u4 l4 ⊢
    refine ⟨p4, 8, [.bl false], rfl, rfl, l4, (by decide), (by decide), (by show 1 * 8 ≤ sizeLine; decide), fun p5 hp5 => ?_⟩
    have u5 := same_new hp5 (.lst (List.replicate (Int.toNat 8) [V.bl false]).flatten)
    have l5 : upd H5 p5 (.lst (List.replicate (Int.toNat 8) [V.bl false]).flatten) p5 = some (.lst (List.replicate 8 (V.bl false))) := by rw [upd_same, rep_flat1]; rfl
    generalize upd H5 p5 (.lst (List.replicate (Int.toNat 8) [V.bl false]).flatten) = H6 at u5 l5 ⊢
    refine ⟨p3, p5, _, _, rfl, rfl, (u4.trans u5) _ _ l3, l5, (by show 10 ≤ sizeLine; decide), fun p6 hp6 => ?_⟩
    have u6 := same_new hp6 (.lst ([V.bl true, .bl true] ++ List.replicate 8 (V.bl false)))
    have l6 : upd H6 p6 (.lst ([V.bl true, .bl true] ++ List.replicate 8 (V.bl false))) p6 = some (.lst boolsV) := upd_same
    have w6 := u3.trans (u4.trans (u5.trans u6))
    refine ⟨boolsD, boolsD, dv_bools (w6 _ _ hl), dv_bools l6, by decide, by decide, ?_⟩
    rw [show PyData.eqv boolsD boolsD = true by decide]
    exact q _ (s3.trans w6)
  have exc : ∀ H1, Same H0 H1 → ∀ a, H1 a = none → tAsg (tCall (spKinds ad.NoText) [] E0 (tCons (tVar 2) tNil)) (gName 1) (Ends.gone { nx := tRet (tOp (rEqD K) (tVar 1) (tOp rCat (tLst (tCons (tC (V.bl true)) (tCons (tC (V.bl true)) tNil))) (tOp rRep (tLst (tCons (tC (V.bl false)) tNil)) (tC (V.int 8))))) { nx := fun _ H' => Q V.non H', rt := Q }, rt := Q } 2) [some v, some (.ref p0), some (.ref a)] (upd H1 a (excO a ad.NoText)) := fun H1 s1 a ha => by
    have ua := same_new ha (excO a ad.NoText)
    refine ⟨_, rfl, a, rfl, upd_same, fun l H3 s3 hl => ?_⟩
    exact fin l a H3 (u0.trans (s1.trans (ua.trans s3))) hl _
  rcases bad with ⟨d, hd, nd⟩ | ⟨x, rfl, xl, pn⟩
  · exact ⟨_, rfl, .inl ⟨v, d, rfl, hd.keep u0, nd, ad.NoText, rfl, X.x_NoText_BenchError, exc H0 (Same.refl _)⟩⟩
  · exact ⟨_, rfl, .inr ⟨x, rfl, xl, (fun bs e => by rw [pn] at e; cases e), fun _ H1 s1 => ⟨ad.NoText, rfl, X.x_NoText_BenchError, exc H1 s1⟩⟩⟩
end
end K12
namespace K12
open PySem L2 Lib Fr Op Tx
seal PE PT PW PA PS PSs PG PI PO PIfs
def spBadT : Sp := fun vs H Q _ => ∃ (p : Pc) (z : Int), vs = [.str (textP p), .int z] ∧ PShort p ∧ ∀ x H', BadT x → Same H H' → Q (.str x) H'
section
variable {P : Program} {w : World} {K : PySem.W.Frag} {mg : PySem.Str → Option Value} {base : Heap} {ad : Adr} {c : Bool}
theorem c__law_numbers (T : Txt K mg ad) : CalB P w K mg base true 1 "_law_numbers" ["_law_text_here", "_law_cell"] spBadT := by
  refine T.t__law_numbers.calN sc__law_numbers (fun _ _ _ _ _ _ => by2 fun _ _ => rfl) (fun vs H Q E h => ?_) (fun f cdv A outer s H vs Q E hr h => ?_)
  · obtain ⟨_, _, rfl, _⟩ := h; rfl
  obtain ⟨p, z, rfl, sp, q⟩ := h
  refine ⟨_, (pss_cons (ps_set (i := 2) sc__law_numbers.nd rfl (Or.inl rfl) (pe_lst (pa_const pe_str (pa_const pe_str (pa_const pe_str (pa_const pe_str (pa_const pe_str (pa_const pe_str (pa_const pe_str (pa_const pe_str (pa_const pe_str (pa_const pe_str (pa_const pe_str (pa_const pe_str (pa_const pe_str (pa_bin (pe_op op_mul_str pe_str pe_int) (pa_const pe_str pa_nil))))))))))))))))) (pss_cons (ps_set (i := 2) sc__law_numbers.nd rfl (Or.inl rfl) (pe_op op_cat (pv 2) (pe_lst (pa_bin (pe_op op_add_str pe_str (pe_op op_mul_str pe_str pe_int)) (pa_const pe_str (pa_const pe_str (pa_const pe_str (pa_const pe_str (pa_const pe_str (pa_const pe_str (pa_const pe_str (pa_const pe_str (pa_const pe_str pa_nil))))))))))))) (pss_cons (ps_set (i := 3) sc__law_numbers.nd rfl (Or.inl rfl) (pe_bm PySem.F.plainAttrs_str PySem.F.slot_str_split PySem.F.type_str_split mt_split (pv 0) (pa_const pe_str pa_nil))) (pss_one (ps_ret (pe_bm PySem.F.plainAttrs_str PySem.F.slot_str_join PySem.F.type_str_join mt_join pe_str (pa_bin (pe_op op_cat (pe_slice sl_list (pv 3) po_none (po_some (pe_un un_neg pe_int))) (pe_lst (pa_sub (pe_ix ix_list (pv 2) (pe_op op_mod (pv 1) (pe_callB call_len_seq rfl T.len bt_len (pa_name (pv 2) pa_nil))) (fun _ _ => rfl)) pa_nil))) pa_nil))))))), ?_⟩
  have mk : ∀ x : PySem.Str, x.length = 1 → MulOk x 16 := fun x hx => by
    refine ⟨by decide, fun _ _ => by rw [hx]; decide, fun _ _ => ?_⟩
    rw [hx]
    unfold Builtin.Str.tooLong sizeLine
    decide
  have m16 : Txt.mul (PySem.Str.ofString "1") 16 = sOf "1111111111111111" := by decide +kernel
  have m3 : PySem.Str.ofString "1/" ++ Txt.mul (PySem.Str.ofString "3") 16 = sOf "1/3333333333333333" := by decide +kernel
  have len3 : (PySem.Str.ofString "1/").length + (Txt.mul (PySem.Str.ofString "3") 16).length = 18 := by decide +kernel
  refine ⟨_, _, rfl, rfl, mk _ (by decide +kernel), (by show 15 ≤ sizeLine; decide), fun p1 hp1 => ?_⟩
  rw [m16]
  have u1 := same_new hp1 (.lst [V.str (sOf "01"), .str (sOf "+1"), .str (sOf "-0"), .str (sOf "1/1"), .str (sOf "2/4"), .str (sOf "1/0"), .str (sOf "-1/-2"), .str (sOf "1.5"), .str (sOf "1/"), .str (sOf "/2"), .str (sOf "1/2/3"), .str (sOf "a"), .str (sOf "1_0"), .str (sOf "1111111111111111"), .str (sOf "--1")])
  have l1 : upd H p1 (.lst [V.str (sOf "01"), .str (sOf "+1"), .str (sOf "-0"), .str (sOf "1/1"), .str (sOf "2/4"), .str (sOf "1/0"), .str (sOf "-1/-2"), .str (sOf "1.5"), .str (sOf "1/"), .str (sOf "/2"), .str (sOf "1/2/3"), .str (sOf "a"), .str (sOf "1_0"), .str (sOf "1111111111111111"), .str (sOf "--1")]) p1 = some (.lst [V.str (sOf "01"), .str (sOf "+1"), .str (sOf "-0"), .str (sOf "1/1"), .str (sOf "2/4"), .str (sOf "1/0"), .str (sOf "-1/-2"), .str (sOf "1.5"), .str (sOf "1/"), .str (sOf "/2"), .str (sOf "1/2/3"), .str (sOf "a"), .str (sOf "1_0"), .str (sOf "1111111111111111"), .str (sOf "--1")]) := upd_same
  show gName 2 (.ref p1) _ (upd H p1 (.lst [V.str (sOf "01"), .str (sOf "+1"), .str (sOf "-0"), .str (sOf "1/1"), .str (sOf "2/4"), .str (sOf "1/0"), .str (sOf "-1/-2"), .str (sOf "1.5"), .str (sOf "1/"), .str (sOf "/2"), .str (sOf "1/2/3"), .str (sOf "a"), .str (sOf "1_0"), .str (sOf "1111111111111111"), .str (sOf "--1")])) _
  generalize upd H p1 (.lst [V.str (sOf "01"), .str (sOf "+1"), .str (sOf "-0"), .str (sOf "1/1"), .str (sOf "2/4"), .str (sOf "1/0"), .str (sOf "-1/-2"), .str (sOf "1.5"), .str (sOf "1/"), .str (sOf "/2"), .str (sOf "1/2/3"), .str (sOf "a"), .str (sOf "1_0"), .str (sOf "1111111111111111"), .str (sOf "--1")]) = H1 at u1 l1 ⊢
  refine ⟨_, rfl, _, _, rfl, rfl, mk _ (by decide +kernel), _, _, rfl, rfl, (by rw [len3]; decide), (by show 10 ≤ sizeLine; decide), fun p2 hp2 => ?_⟩
  rw [m3]
  have u2 := same_new hp2 (.lst [V.str (sOf "1/3333333333333333"), .str (sOf "0/5"), .str (sOf "- 1"), .str (sOf "-"), .str (sOf "1/-2"), .str (sOf "1/02"), .str (sOf "3/1"), .str (sOf "1 /2"), .str (sOf "1,0"), .str (sOf "0x1")])
  have l2 : upd H1 p2 (.lst [V.str (sOf "1/3333333333333333"), .str (sOf "0/5"), .str (sOf "- 1"), .str (sOf "-"), .str (sOf "1/-2"), .str (sOf "1/02"), .str (sOf "3/1"), .str (sOf "1 /2"), .str (sOf "1,0"), .str (sOf "0x1")]) p2 = some (.lst [V.str (sOf "1/3333333333333333"), .str (sOf "0/5"), .str (sOf "- 1"), .str (sOf "-"), .str (sOf "1/-2"), .str (sOf "1/02"), .str (sOf "3/1"), .str (sOf "1 /2"), .str (sOf "1,0"), .str (sOf "0x1")]) := upd_same
  refine ⟨p1, p2, _, _, rfl, rfl, u2 _ _ l1, l2, (by show 25 ≤ sizeLine; decide), fun p3 hp3 => ?_⟩
  have u3 := same_new hp3 (.lst (badNs.map V.str))
  have l3 : upd (upd H1 p2 (.lst [V.str (sOf "1/3333333333333333"), .str (sOf "0/5"), .str (sOf "- 1"), .str (sOf "-"), .str (sOf "1/-2"), .str (sOf "1/02"), .str (sOf "3/1"), .str (sOf "1 /2"), .str (sOf "1,0"), .str (sOf "0x1")])) p3 (.lst (badNs.map V.str)) p3 = some (.lst (badNs.map V.str)) := upd_same
  show gName 2 (.ref p3) _ (upd (upd H1 p2 (.lst [V.str (sOf "1/3333333333333333"), .str (sOf "0/5"), .str (sOf "- 1"), .str (sOf "-"), .str (sOf "1/-2"), .str (sOf "1/02"), .str (sOf "3/1"), .str (sOf "1 /2"), .str (sOf "1,0"), .str (sOf "0x1")])) p3 (.lst (badNs.map V.str))) _
  have t3 := u1.trans (u2.trans u3)
  generalize upd (upd H1 p2 (.lst [V.str (sOf "1/3333333333333333"), .str (sOf "0/5"), .str (sOf "- 1"), .str (sOf "-"), .str (sOf "1/-2"), .str (sOf "1/02"), .str (sOf "3/1"), .str (sOf "1 /2"), .str (sOf "1,0"), .str (sOf "0x1")])) p3 (.lst (badNs.map V.str)) = H3 at l3 t3 ⊢
  have tl := textP_len sp
  refine ⟨_, rfl, rfl, _, _, rfl, rfl, (by decide +kernel), Nat.le_of_lt (small1000 (by omega)), fun p4 hp4 => ?_⟩
  have es : Txt.split (textP p) (PySem.Str.ofString " ") = toks p := by
    have h := split_text (ps := [p]) (by simp)
    have ht : textB [p] = textP p := by
      show Txt.join _ [textP p] = _
      rw [joinT]
      rfl
    rw [ht] at h
    exact h
  rw [es]
  have u4 := same_new hp4 (.lst ((toks p).map V.str))
  have l4 : upd H3 p4 (.lst ((toks p).map V.str)) p4 = some (.lst ((toks p).map V.str)) := upd_same
  show gName 3 (.ref p4) _ (upd H3 p4 (.lst ((toks p).map V.str))) _
  have l34 := u4 _ _ l3
  generalize upd H3 p4 (.lst ((toks p).map V.str)) = H4 at u4 l4 l34 ⊢
  refine ⟨rfl, _, rfl, ?_⟩
  refine ⟨_, rfl, _, rfl, p4, _, rfl, SqL.of l4, fun p5 hp5 => ?_⟩
  have ed : cutV ((toks p).map V.str) none (some (-1)) = ((toks p).dropLast).map V.str := by cases p <;> rfl
  rw [ed]
  have u5 := same_new hp5 (.lst (((toks p).dropLast).map V.str))
  have l5 : upd H4 p5 (.lst (((toks p).dropLast).map V.str)) p5 = some (.lst (((toks p).dropLast).map V.str)) := upd_same
  have l35 := u5 _ _ l34
  generalize upd H4 p5 (.lst (((toks p).dropLast).map V.str)) = H5 at u5 l5 l35 ⊢
  have m0 := Int.emod_nonneg z (show (25 : Int) ≠ 0 by decide)
  have m1 := Int.emod_lt_of_pos z (show (0 : Int) < 25 by decide)
  obtain ⟨k, hk, k25⟩ : ∃ k : Nat, z % 25 = (k : Int) ∧ k < badNs.length := ⟨(z % 25).toNat, by omega, by show _ < 25; omega⟩
  have eb := List.getElem?_eq_getElem k25
  have hb : badNs[k] ∈ badNs := List.getElem_mem k25
  generalize badNs[k] = b at eb hb
  refine ⟨_, rfl, _, rfl, _, rfl, p3, _, rfl, .inl (SqL.of l35), _, _, rfl, rfl, (by show (0 : Int) < 25; decide), ?_⟩
  dsimp only
  rw [show z % (((badNs.map V.str).length : Nat) : Int) = (k : Int) from hk]
  have ebv : (badNs.map V.str)[k]? = some (.str b) := by rw [List.getElem?_map, eb]; rfl
  refine ⟨p3, _, _, .str b, rfl, rfl, SqL.of l35, atI_nat ebv, (by show 1 ≤ sizeLine; decide), fun p6 hp6 => ?_⟩
  have u6 := same_new hp6 (.lst [.str b])
  have l6 : upd H5 p6 (.lst [.str b]) p6 = some (.lst [.str b]) := upd_same
  have l56 := u6 _ _ l5
  generalize upd H5 p6 (.lst [.str b]) = H6 at u6 l6 l56 ⊢
  have tl3 := (toks_len p).1
  have dl : (toks p).dropLast.length ≤ 2 := by rw [List.length_dropLast]; omega
  refine ⟨p5, p6, _, _, rfl, rfl, l56, l6, Nat.le_of_lt (small1000 (by rw [List.length_map]; simp only [List.length_cons, List.length_nil]; omega)), fun p7 hp7 => ?_⟩
  have u7 := same_new hp7 (.lst (((toks p).dropLast).map V.str ++ [.str b]))
  have l7 : upd H6 p7 (.lst (((toks p).dropLast).map V.str ++ [.str b])) p7 = some (.lst (((toks p).dropLast ++ [b]).map V.str)) := by rw [upd_same, List.map_append]; rfl
  have t7 := t3.trans (u4.trans (u5.trans (u6.trans u7)))
  generalize upd H6 p7 (.lst (((toks p).dropLast).map V.str ++ [.str b])) = H7 at l7 t7 ⊢
  have lb : ∀ b ∈ badNs, b.length ≤ 18 := by decide +kernel
  have h1 : ∀ t ∈ (toks p).dropLast ++ [b], t.length ≤ 50 := fun t ht => by
    rcases List.mem_append.mp ht with m | m
    · exact Lib.tok1_le p sp t (List.mem_of_mem_take (by rw [List.dropLast_eq_take] at m; exact m))
    · rw [List.mem_singleton.mp m]
      exact Nat.le_trans (lb b hb) (by decide)
  have h3 := sum_le h1
  have h4 : ((toks p).dropLast ++ [b]).length ≤ 3 := by rw [List.length_append, List.length_singleton]; omega
  have h5 : ((toks p).dropLast ++ [b]).length * 50 ≤ 3 * 50 := Nat.mul_le_mul_right _ h4
  have jo : JoinOk (PySem.Str.ofString " ") ((toks p).dropLast ++ [b]) = true := by
    refine PyProof.Rows.joinOk_of_weight ?_ (by decide +kernel)
    omega
  refine ⟨_, p7, (toks p).dropLast ++ [b], rfl, rfl, l7, jo, q _ _ ⟨?_, fun pre post wp _ => numbers_no hb wp sp⟩ t7⟩
  rw [joinT]
  have e1 := join_le (PySem.Str.ofString " ") ((toks p).dropLast ++ [b]) 50 h1
  have e3 : (PySem.Str.ofString " ").length = 1 := by decide +kernel
  have e4 : ((toks p).dropLast ++ [b]).length * (50 + (PySem.Str.ofString " ").length) ≤ 3 * 51 := Nat.mul_le_mul h4 (by omega)
  omega
end
end K12
namespace K12
open PySem L2 Lib Fr Op Tx
seal PE PT PW PA PS PSs PG PI PO PIfs
section
variable {P : Program} {w : World} {K : PySem.W.Frag} {mg : PySem.Str → Option Value} {base : Heap} {ad : Adr} {c : Bool}
theorem jo_toks {p : Pc} {s : PySem.Str} (hs : s.length ≤ 2) {ts : List PySem.Str} (h : ∀ t ∈ ts, t.length ≤ 60) (hl : ts.length ≤ 3) : JoinOk s ts = true := by
  have h3 := sum_le h
  have h5 : ts.length * 60 ≤ 3 * 60 := Nat.mul_le_mul_right _ hl
  have h6 : ts.length * s.length ≤ 3 * 2 := Nat.mul_le_mul hl hs
  refine PyProof.Rows.joinOk_of_weight ?_ ?_
  · omega
  · omega
theorem c__law_signs (T : Txt K mg ad) : CalB P w K mg base true 1 "_law_signs" ["_law_text_here", "_law_cell"] spBadT := by
  refine T.t__law_signs.calN sc__law_signs (fun _ _ _ _ _ _ => by2 fun _ _ => rfl) (fun vs H Q E h => ?_) (fun f cdv A outer s H vs Q E hr h => ?_)
  · obtain ⟨_, _, rfl, _⟩ := h; rfl
  obtain ⟨p, z, rfl, sp, q⟩ := h
  refine ⟨_, (pss_cons (ps_set (i := 2) sc__law_signs.nd rfl (Or.inl rfl) (pe_bm PySem.F.plainAttrs_str PySem.F.slot_str_split PySem.F.type_str_split mt_split (pv 0) (pa_const pe_str pa_nil))) (pss_cons (ps_set (i := 3) sc__law_signs.nd rfl (Or.inl rfl) (pe_lst (pa_bin (pe_op op_add_str (pv 0) pe_str) (pa_bin (pe_op op_add_str pe_str (pv 0)) (pa_call (pe_bm PySem.F.plainAttrs_str PySem.F.slot_str_join PySem.F.type_str_join mt_join pe_str (pa_name (pv 2) pa_nil)) (pa_call (pe_bm PySem.F.plainAttrs_str PySem.F.slot_str_join PySem.F.type_str_join mt_join pe_str (pa_sub (pe_slice sl_list (pv 2) po_none (po_some (pe_un un_neg pe_int))) pa_nil)) (pa_bin (pe_op op_add_str (pv 0) pe_str) (pa_call (pe_bm0 PySem.F.plainAttrs_str PySem.F.slot_str_upper PySem.F.type_str_upper mt_upper (pv 0)) (pa_sub (pe_slice sl_str (pv 0) (po_some pe_int) po_none) pa_nil))))))))) (pss_cons (ps_set (i := 3) sc__law_signs.nd rfl (Or.inl rfl) (pe_op op_cat (pv 3) (pe_lst (pa_bin (pe_op op_add_str (pv 0) pe_str) (pa_bin (pe_op op_add_str (pv 0) pe_str) (pa_call (pe_bm PySem.F.plainAttrs_str PySem.F.slot_str_join PySem.F.type_str_join mt_join pe_str (pa_name (pv 2) pa_nil)) (pa_const pe_str (pa_bin (pe_op op_add_str (pe_op op_add_str (pe_ix ix_list (pv 2) pe_int (fun _ _ => rfl)) pe_str) (pe_bm PySem.F.plainAttrs_str PySem.F.slot_str_join PySem.F.type_str_join mt_join pe_str (pa_sub (pe_slice sl_list (pv 2) (po_some pe_int) po_none) pa_nil))) (pa_const pe_str pa_nil))))))))) (pss_one (ps_ret (pe_ix ix_list (pe_op op_cat (pv 3) (pe_lst (pa_bin (pe_op op_add_str (pv 0) pe_str) (pa_bin (pe_op op_add_str (pe_op op_add_str pe_str (pv 0)) pe_str) (pa_bin (pe_op op_add_str (pe_op op_add_str pe_str (pv 0)) pe_str) (pa_const pe_str (pa_call (pe_rep1 (pv 0) (by decide +kernel)) pa_nil))))))) (pe_op op_mod (pv 1) pe_int) (fun _ _ => rfl))))))), ?_⟩
  have tl := piece_len sp
  have sz : ∀ y : PySem.Str, y.length ≤ 100 → (textP p).length + y.length ≤ sizeLine := fun y hy => Nat.le_of_lt (small1000 (by omega))
  have zs : ∀ y : PySem.Str, y.length ≤ 100 → y.length + (textP p).length ≤ sizeLine := fun y hy => Nat.le_of_lt (small1000 (by omega))
  have t50 : ∀ t ∈ toks p, t.length ≤ 60 := fun t ht => Nat.le_trans (Lib.tok1_le p sp t ht) (by decide)
  have f50 : ∀ t ∈ (fracs p).map shS, t.length ≤ 60 := fun t ht => t50 t (List.mem_cons_of_mem _ ht)
  have d50 : ∀ t ∈ (toks p).dropLast, t.length ≤ 60 := fun t ht => t50 t (List.mem_of_mem_take (by rw [List.dropLast_eq_take] at ht; exact ht))
  have l3 : (toks p).length ≤ 3 := by cases p <;> simp [toks, fracs]
  have d3 : (toks p).dropLast.length ≤ 3 := by rw [List.length_dropLast]; omega
  have f3 : ((fracs p).map shS).length ≤ 3 := by cases p <;> simp [fracs]
  have wl : (wd p).length ≤ 5 := by cases p <;> (show (PySem.Str.ofString _).length ≤ 5; decide +kernel)
  have es : Txt.split (textP p) (PySem.Str.ofString " ") = toks p := by
    have h := split_text (ps := [p]) (by simp)
    have ht : textB [p] = textP p := by
      show Txt.join _ [textP p] = _
      rw [joinT]
      rfl
    rw [ht] at h
    exact h
  have ed : cutV ((toks p).map V.str) none (some (-1)) = ((toks p).dropLast).map V.str := by cases p <;> rfl
  have ef : cutV ((toks p).map V.str) (some 1) none = ((fracs p).map shS).map V.str := by cases p <;> rfl
  refine ⟨_, rfl, rfl, _, _, rfl, rfl, (by decide +kernel), Nat.le_of_lt (small1000 (by omega)), fun p0 hp0 => ?_⟩
  rw [es]
  have u0 := same_new hp0 (.lst ((toks p).map V.str))
  have l0 : upd H p0 (.lst ((toks p).map V.str)) p0 = some (.lst ((toks p).map V.str)) := upd_same
  show gName 2 (.ref p0) _ (upd H p0 (.lst ((toks p).map V.str))) _
  generalize upd H p0 (.lst ((toks p).map V.str)) = H0 at u0 l0 ⊢
  -- the first seven
  refine ⟨_, rfl, _, _, rfl, rfl, sz _ (by decide +kernel), ?_⟩
  refine ⟨_, rfl, _, _, rfl, rfl, zs _ (by decide +kernel), ?_⟩
  refine ⟨rfl, _, rfl, _, p0, toks p, rfl, rfl, l0, jo_toks (p := p) (by decide +kernel) t50 l3, ?_⟩
  refine ⟨rfl, _, rfl, _, rfl, _, rfl, p0, _, rfl, SqL.of l0, fun p1 hp1 => ?_⟩
  rw [ed]
  have u1 := same_new hp1 (.lst (((toks p).dropLast).map V.str))
  have l1 : upd H0 p1 (.lst (((toks p).dropLast).map V.str)) p1 = some (.lst (((toks p).dropLast).map V.str)) := upd_same
  have l01 := u1 _ _ l0
  generalize upd H0 p1 (.lst (((toks p).dropLast).map V.str)) = H1 at u1 l1 l01 ⊢
  refine ⟨_, p1, (toks p).dropLast, rfl, rfl, l1, jo_toks (p := p) (by decide +kernel) d50 d3, ?_⟩
  refine ⟨_, rfl, _, _, rfl, rfl, sz _ (by decide +kernel), ?_⟩
  have ul : Builtin.Str.tooLong (Txt.upper (textP p)).length = false := by
    have := sgn_len sp (Txt.upper (textP p)) (by simp [sgnL])
    exact decide_eq_false (Nat.not_lt.mpr (Nat.le_of_lt (small1000 (by omega))))
  refine ⟨_, rfl, rfl, _, rfl, rfl, ul, ?_⟩
  refine ⟨_, rfl, _, rfl, _, rfl, Nat.le_of_lt (small1000 (by omega)), ?_⟩
  refine ⟨(by show 7 ≤ sizeLine; decide), fun p2 hp2 => ?_⟩
  generalize hH2 : upd H1 p2 (.lst _) = H2
  have u2 : Same H1 H2 := by rw [← hH2]; exact same_new hp2 _
  have l2 : H2 p2 = some (.lst ((sgnL p).take 7 |>.map V.str)) := by rw [← hH2]; exact upd_same
  have l02 := u2 _ _ l01
  clear hH2
  -- six more
  refine ⟨_, rfl, ?_⟩
  refine ⟨_, rfl, _, _, rfl, rfl, sz _ (by decide +kernel), ?_⟩
  refine ⟨_, rfl, _, _, rfl, rfl, sz _ (by decide +kernel), ?_⟩
  refine ⟨rfl, _, rfl, _, p0, toks p, rfl, rfl, l02, jo_toks (p := p) (by decide +kernel) t50 l3, ?_⟩
  have at0 : atI ((toks p).map V.str) 0 = some (.str (wd p)) := by cases p <;> rfl
  refine ⟨_, rfl, p0, _, _, _, rfl, rfl, SqL.of l02, at0, ?_⟩
  have s2 : (PySem.Str.ofString "s ").length = 2 := by decide +kernel
  refine ⟨_, _, rfl, rfl, Nat.le_of_lt (small1000 (by rw [s2]; omega)), ?_⟩
  refine ⟨rfl, _, rfl, _, rfl, p0, _, rfl, SqL.of l02, fun p3 hp3 => ?_⟩
  rw [ef]
  have u3 := same_new hp3 (.lst (((fracs p).map shS).map V.str))
  have l3' : upd H2 p3 (.lst (((fracs p).map shS).map V.str)) p3 = some (.lst (((fracs p).map shS).map V.str)) := upd_same
  have l23 := u3 _ _ l2
  generalize upd H2 p3 (.lst (((fracs p).map shS).map V.str)) = H3 at u3 l3' l23 ⊢
  have jl := toks_join_le sp (s := PySem.Str.ofString " ") (by decide +kernel) f50 f3
  refine ⟨_, p3, (fracs p).map shS, rfl, rfl, l3', jo_toks (p := p) (by decide +kernel) f50 f3, ?_⟩
  refine ⟨_, _, rfl, rfl, Nat.le_of_lt (small1000 (by rw [len_app, s2]; omega)), ?_⟩
  refine ⟨(by show 6 ≤ sizeLine; decide), fun p4 hp4 => ?_⟩
  generalize hH4 : upd H3 p4 (.lst _) = H4
  have u4 : Same H3 H4 := by rw [← hH4]; exact same_new hp4 _
  have l4 : H4 p4 = some (.lst (((sgnL p).drop 7 |>.take 6).map V.str)) := by rw [← hH4]; exact upd_same
  have l24 := u4 _ _ l23
  clear hH4
  refine ⟨p2, p4, _, _, rfl, rfl, l24, l4, (by show 13 ≤ sizeLine; decide), fun p5 hp5 => ?_⟩
  generalize hH5 : upd H4 p5 (.lst _) = H5
  have u5 : Same H4 H5 := by rw [← hH5]; exact same_new hp5 _
  have l5 : H5 p5 = some (.lst (((sgnL p).take 13).map V.str)) := by rw [← hH5]; exact upd_same
  clear hH5
  -- the last five
  refine ⟨_, rfl, ?_⟩
  refine ⟨_, rfl, _, _, rfl, rfl, sz _ (by decide +kernel), ?_⟩
  refine ⟨_, rfl, _, _, rfl, rfl, zs _ (by decide +kernel), _, _, rfl, rfl, Nat.le_of_lt (small1000 (by rw [len_app, show (PySem.Str.ofString "(").length = 1 by decide +kernel, show (PySem.Str.ofString ")").length = 1 by decide +kernel]; omega)), ?_⟩
  refine ⟨_, rfl, _, _, rfl, rfl, zs _ (by decide +kernel), _, _, rfl, rfl, Nat.le_of_lt (small1000 (by rw [len_app, show (PySem.Str.ofString "( ").length = 2 by decide +kernel, show (PySem.Str.ofString " )").length = 2 by decide +kernel]; omega)), ?_⟩
  have rl := sgn_len sp (rep1 (textP p) (PySem.Str.ofString " ") (PySem.Str.ofString "")) (by simp [sgnL])
  refine ⟨_, rfl, _, rfl, (by rw [show (PySem.Str.ofString "").length = 0 by decide +kernel]; omega), Nat.le_of_lt (small1000 (by omega)), ?_⟩
  refine ⟨(by show 5 ≤ sizeLine; decide), fun p6 hp6 => ?_⟩
  generalize hH6 : upd H5 p6 (.lst _) = H6
  have u6 : Same H5 H6 := by rw [← hH6]; exact same_new hp6 _
  have l6 : H6 p6 = some (.lst (((sgnL p).drop 13).map V.str)) := by rw [← hH6]; exact upd_same
  have l56 := u6 _ _ l5
  clear hH6
  refine ⟨p5, p6, _, _, rfl, rfl, l56, l6, (by show 18 ≤ sizeLine; decide), fun p7 hp7 => ?_⟩
  generalize hH7 : upd H6 p7 (.lst _) = H7
  have u7 : Same H6 H7 := by rw [← hH7]; exact same_new hp7 _
  have l7 : H7 p7 = some (.lst ((sgnL p).map V.str)) := by rw [← hH7]; exact upd_same
  clear hH7
  have m0 := Int.emod_nonneg z (show (18 : Int) ≠ 0 by decide)
  have m1 := Int.emod_lt_of_pos z (show (0 : Int) < 18 by decide)
  obtain ⟨k, hk, k18⟩ : ∃ k : Nat, z % 18 = (k : Int) ∧ k < (sgnL p).length := ⟨(z % 18).toNat, by omega, by show _ < 18; omega⟩
  have eb := List.getElem?_eq_getElem k18
  have hb : (sgnL p)[k] ∈ sgnL p := List.getElem_mem k18
  generalize (sgnL p)[k] = b at eb hb
  have ebv : ((sgnL p).map V.str)[k]? = some (.str b) := by rw [List.getElem?_map, eb]; rfl
  refine ⟨_, rfl, _, _, rfl, rfl, (by show (0 : Int) < 18; decide), ?_⟩
  dsimp only
  rw [hk]
  exact ⟨p7, _, _, .str b, rfl, rfl, SqL.of l7, atI_nat ebv, q _ _ (bad_sgn sp hb) (u0.trans (u1.trans (u2.trans (u3.trans (u4.trans (u5.trans (u6.trans u7)))))))⟩
theorem c__law_rounds (T : Txt K mg ad) : CalB P w K mg base true 1 "_law_rounds" ["_law_text_here", "_law_cell"] spBadT := by
  refine T.t__law_rounds.calN sc__law_rounds (fun _ _ _ _ _ _ => by2 fun _ _ => rfl) (fun vs H Q E h => ?_) (fun f cdv A outer s H vs Q E hr h => ?_)
  · obtain ⟨_, _, rfl, _⟩ := h; rfl
  obtain ⟨p, z, rfl, sp, q⟩ := h
  refine ⟨_, (pss_cons (ps_set (i := 2) sc__law_rounds.nd rfl (Or.inl rfl) (pe_lst (pa_const pe_str (pa_const pe_str (pa_const pe_str (pa_const pe_str (pa_const pe_str (pa_const pe_str pa_nil)))))))) (pss_cons (ps_set (i := 2) sc__law_rounds.nd rfl (Or.inl rfl) (pe_op op_cat (pv 2) (pe_lst (pa_const pe_str (pa_const pe_str (pa_const pe_str (pa_const pe_str (pa_const pe_str (pa_const pe_str pa_nil))))))))) (pss_cons (ps_set (i := 2) sc__law_rounds.nd rfl (Or.inl rfl) (pe_op op_cat (pv 2) (pe_lst (pa_const pe_str (pa_const pe_str (pa_const pe_str (pa_const pe_str (pa_const pe_str (pa_const pe_str pa_nil))))))))) (pss_cons (ps_set (i := 2) sc__law_rounds.nd rfl (Or.inl rfl) (pe_op op_cat (pv 2) (pe_lst (pa_bin (pe_op op_add_str (pe_op op_add_str (pe_op op_mul_str pe_str pe_int) pe_str) (pe_op op_mul_str pe_str pe_int)) (pa_const pe_str (pa_const pe_str (pa_const pe_str (pa_const pe_str pa_nil)))))))) (pss_cons (ps_set (i := 2) sc__law_rounds.nd rfl (Or.inl rfl) (pe_op op_cat (pv 2) (pe_lst (pa_const pe_str (pa_const pe_str (pa_const pe_str (pa_const pe_str (pa_const pe_str pa_nil)))))))) (pss_one (ps_ret (pe_bm PySem.F.plainAttrs_str PySem.F.slot_str_replace PySem.F.type_str_replace mt_replace (pe_ix ix_list (pv 2) (pe_op op_mod (pv 1) (pe_callB call_len_seq rfl T.len bt_len (pa_name (pv 2) pa_nil))) (fun _ _ => rfl)) (pa_const pe_str (pa_name (pv 0) pa_nil)))))))))), ?_⟩
  have tl := piece_len sp
  have mk : ∀ x : PySem.Str, x.length ≤ 10 → MulOk x 5 := fun x hx => by
    refine ⟨by decide, fun _ _ => by omega, fun _ _ => ?_⟩
    refine decide_eq_false (Nat.not_lt.mpr (Nat.le_of_lt (small1000 ?_)))
    have : x.length * Int.toNat 5 ≤ 10 * 5 := Nat.mul_le_mul hx (by decide)
    omega
  have m18 : Txt.mul (PySem.Str.ofString "1 times ( ") 5 ++ PySem.Str.ofString "T" ++ Txt.mul (PySem.Str.ofString " )") 5 = sOf "1 times ( 1 times ( 1 times ( 1 times ( 1 times ( T ) ) ) ) )" := by decide +kernel
  refine ⟨(by show 6 ≤ sizeLine; decide), fun p1 hp1 => ?_⟩
  generalize hH1 : upd H p1 (.lst _) = H1
  have u1 : Same H H1 := by rw [← hH1]; exact same_new hp1 _
  have l1 : H1 p1 = some (.lst ((rndP.take 6).map V.str)) := by rw [← hH1]; exact upd_same
  clear hH1
  refine ⟨_, rfl, (by show 6 ≤ sizeLine; decide), fun p2 hp2 => ?_⟩
  generalize hH2 : upd H1 p2 (.lst _) = H2
  have u2 : Same H1 H2 := by rw [← hH2]; exact same_new hp2 _
  have l2 : H2 p2 = some (.lst (((rndP.drop 6).take 6).map V.str)) := by rw [← hH2]; exact upd_same
  clear hH2
  refine ⟨p1, p2, _, _, rfl, rfl, u2 _ _ l1, l2, (by show 12 ≤ sizeLine; decide), fun p3 hp3 => ?_⟩
  generalize hH3 : upd H2 p3 (.lst _) = H3
  have u3 : Same H2 H3 := by rw [← hH3]; exact same_new hp3 _
  have l3 : H3 p3 = some (.lst ((rndP.take 12).map V.str)) := by rw [← hH3]; exact upd_same
  clear hH3
  refine ⟨_, rfl, (by show 6 ≤ sizeLine; decide), fun p4 hp4 => ?_⟩
  generalize hH4 : upd H3 p4 (.lst _) = H4
  have u4 : Same H3 H4 := by rw [← hH4]; exact same_new hp4 _
  have l4 : H4 p4 = some (.lst (((rndP.drop 12).take 6).map V.str)) := by rw [← hH4]; exact upd_same
  clear hH4
  refine ⟨p3, p4, _, _, rfl, rfl, u4 _ _ l3, l4, (by show 18 ≤ sizeLine; decide), fun p5 hp5 => ?_⟩
  generalize hH5 : upd H4 p5 (.lst _) = H5
  have u5 : Same H4 H5 := by rw [← hH5]; exact same_new hp5 _
  have l5 : H5 p5 = some (.lst ((rndP.take 18).map V.str)) := by rw [← hH5]; exact upd_same
  clear hH5
  have t1 : (Txt.mul (PySem.Str.ofString "1 times ( ") 5).length + (PySem.Str.ofString "T").length = 51 := by decide +kernel
  have t2 : (Txt.mul (PySem.Str.ofString "1 times ( ") 5 ++ PySem.Str.ofString "T").length + (Txt.mul (PySem.Str.ofString " )") 5).length = 61 := by decide +kernel
  refine ⟨_, rfl, _, _, rfl, rfl, mk _ (by decide +kernel), _, _, rfl, rfl, (by rw [t1]; decide), _, _, rfl, rfl, mk _ (by decide +kernel), _, _, rfl, rfl, (by rw [t2]; decide), (by show 5 ≤ sizeLine; decide), fun p6 hp6 => ?_⟩
  rw [m18]
  generalize hH6 : upd H5 p6 (.lst _) = H6
  have u6 : Same H5 H6 := by rw [← hH6]; exact same_new hp6 _
  have l6 : H6 p6 = some (.lst (((rndP.drop 18).take 5).map V.str)) := by rw [← hH6]; exact upd_same
  clear hH6
  refine ⟨p5, p6, _, _, rfl, rfl, u6 _ _ l5, l6, (by show 23 ≤ sizeLine; decide), fun p7 hp7 => ?_⟩
  generalize hH7 : upd H6 p7 (.lst _) = H7
  have u7 : Same H6 H7 := by rw [← hH7]; exact same_new hp7 _
  have l7 : H7 p7 = some (.lst ((rndP.take 23).map V.str)) := by rw [← hH7]; exact upd_same
  clear hH7
  refine ⟨_, rfl, (by show 5 ≤ sizeLine; decide), fun p8 hp8 => ?_⟩
  generalize hH8 : upd H7 p8 (.lst _) = H8
  have u8 : Same H7 H8 := by rw [← hH8]; exact same_new hp8 _
  have l8 : H8 p8 = some (.lst ((rndP.drop 23).map V.str)) := by rw [← hH8]; exact upd_same
  clear hH8
  refine ⟨p7, p8, _, _, rfl, rfl, u8 _ _ l7, l8, (by show 28 ≤ sizeLine; decide), fun p9 hp9 => ?_⟩
  generalize hH9 : upd H8 p9 (.lst _) = H9
  have u9 : Same H8 H9 := by rw [← hH9]; exact same_new hp9 _
  have l9 : H9 p9 = some (.lst (rndP.map V.str)) := by rw [← hH9]; exact upd_same
  clear hH9
  have t9 := u1.trans (u2.trans (u3.trans (u4.trans (u5.trans (u6.trans (u7.trans (u8.trans u9)))))))
  have m0 := Int.emod_nonneg z (show (28 : Int) ≠ 0 by decide)
  have m1 := Int.emod_lt_of_pos z (show (0 : Int) < 28 by decide)
  obtain ⟨k, hk, k28⟩ : ∃ k : Nat, z % 28 = (k : Int) ∧ k < rndP.length := ⟨(z % 28).toNat, by omega, by show _ < 28; omega⟩
  have eb := List.getElem?_eq_getElem k28
  have hb : rndP[k] ∈ rndP := List.getElem_mem k28
  generalize rndP[k] = b at eb hb
  have ebv : (rndP.map V.str)[k]? = some (.str b) := by rw [List.getElem?_map, eb]; rfl
  refine ⟨_, rfl, _, rfl, _, rfl, p9, _, rfl, .inl (SqL.of l9), _, _, rfl, rfl, (by show (0 : Int) < 28; decide), ?_⟩
  dsimp only
  rw [show z % (((rndP.map V.str).length : Nat) : Int) = (k : Int) from hk]
  have lb : ∀ b ∈ rndP, b.length ≤ 100 := by decide +kernel
  have hbl := lb b hb
  have ne : (PySem.Str.ofString "T" == textP p) = false := beq_false_of_ne fun e => by
    have h1 : 32 ∈ cl (textP p) := by
      rw [text_word, cl_app, cl_app, show cl (sOf " ") = [32] by decide +kernel]
      simp
    rw [← e] at h1
    exact absurd h1 (by decide +kernel)
  have hm : (b.length + 1) * (textP p).length ≤ 101 * 186 := Nat.mul_le_mul (by omega) tl
  obtain ⟨b1, b2⟩ := bad_rnd sp hb
  exact ⟨p9, _, _, .str b, rfl, rfl, SqL.of l9, atI_nat ebv, rfl, _, rfl, b, _, _, rfl, rfl, ne, by omega, q _ _ b1 t9, q _ _ b2 t9⟩
end
end K12
namespace K12
open PySem L2 Lib Fr Op Tx
seal PE PT PW PA PS PSs PG PI PO PIfs
section
variable {P : Program} {w : World} {K : PySem.W.Frag} {mg : PySem.Str → Option Value} {base : Heap} {ad : Adr} {c : Bool}
theorem c__law_bad (T : Txt K mg ad) : CalB P w K mg base true 4 "_law_bad" ["_law_bench", "_law_cell"] (spBad K) := by
  have C__law_piece_text := c__law_piece_text (P := P) (w := w) (base := base) T
  have C__law_numbers := c__law_numbers (P := P) (w := w) (base := base) T
  have C__law_signs := c__law_signs (P := P) (w := w) (base := base) T
  have C__law_rounds := c__law_rounds (P := P) (w := w) (base := base) T
  refine T.t__law_bad.calN sc__law_bad (fun _ _ _ _ _ _ => by2 fun _ _ => rfl) (fun vs H Q E h => ?_) (fun f cdv A outer s H vs Q E hr h => ?_)
  · obtain ⟨_, _, _, rfl, _⟩ := h; rfl
  obtain ⟨v, ps, z, rfl, hv, ne, l8, sh, q⟩ := h
  obtain ⟨b, xs, rfl, hb, hxs⟩ := hv.lst_of
  have hl : xs.length = ps.length := by have := hxs.len; rw [List.length_map] at this; exact this
  have pos : 0 < ps.length := List.length_pos_iff.mpr ne
  refine ⟨_, (pss_cons (ps_set (i := 2) sc__law_bad.nd rfl (Or.inl rfl) (pe_op op_mod (pe_op op_fdiv (pv 1) pe_int) (pe_callB call_len_seq rfl T.len bt_len (pa_name (pv 0) pa_nil)))) (pss_cons (ps_comp (i := 3) sc__law_bad.nd rfl (by first | exact Or.inl rfl | exact Or.inr rfl) ["_law_piece_here"] [none] rfl (pi_list (pv 0)) (fun _ _ _ _ _ => (pg_name (i := 0) (show List.Nodup [("_law_piece_here" : Str)] by decide) rfl (by first | exact Or.inl rfl | exact Or.inr rfl))) (fun _ _ _ _ _ => pifs_nil) (fun _ _ _ _ _ => (pe_cB C__law_piece_text (hr.mono (by decide)) pass01 (pa_name (pv 0) pa_nil))) (cap_nil (by decide) (by decide)) (by decide) rfl (by decide) rfl (nocap rfl)) (pss_cons (ps_if (pt_cmpR op_eq (pe_op op_mod (pv 1) pe_int) pe_int (nomark _)) (pss_one (ps_asg (pe_cB C__law_numbers (hr.mono (by decide)) pass01 (pa_sub (pe_ix ix_list (pv 3) (pv 2) (fun _ _ => rfl)) (pa_bin (pe_op op_fdiv (pv 1) pe_int) pa_nil))) (pg_sub (pv 3) (pv 2) set_list))) (pss_one (ps_if (pt_cmpR op_eq (pe_op op_mod (pv 1) pe_int) pe_int (nomark _)) (pss_one (ps_asg (pe_cB C__law_signs (hr.mono (by decide)) pass01 (pa_sub (pe_ix ix_list (pv 3) (pv 2) (fun _ _ => rfl)) (pa_bin (pe_op op_fdiv (pv 1) pe_int) pa_nil))) (pg_sub (pv 3) (pv 2) set_list))) (pss_one (ps_asg (pe_cB C__law_rounds (hr.mono (by decide)) pass01 (pa_sub (pe_ix ix_list (pv 3) (pv 2) (fun _ _ => rfl)) (pa_bin (pe_op op_fdiv (pv 1) pe_int) pa_nil))) (pg_sub (pv 3) (pv 2) set_list)))))) (pss_cons (ps_set (i := 4) sc__law_bad.nd rfl (Or.inl rfl) (pe_ix ix_list (pv 0) (pv 2) (fun _ _ => rfl))) (pss_cons (ps_if (PW.pt (pw_and (pt_cmpR op_eq (pe_ix ix_tup (pv 4) pe_int (fun _ _ => rfl)) pe_str (nomark _)) (pw_and (pt_cmpR (op_neD hr.units) (pe_ix ix_tup (pv 4) pe_int (fun _ _ => rfl)) (pe_ix ix_tup (pv 4) pe_int (fun _ _ => rfl)) (nomark _)) (pw_and1 (pt_cmpR op_eq (pe_op op_mod (pe_op op_fdiv (pv 1) pe_int) pe_int) pe_int (nomark _)))))) (pss_one (ps_asg (pe_cB C__law_piece_text (hr.mono (by decide)) pass01 (pa_tuple (pe_tup (pa_const pe_str (pa_sub (pe_ix ix_tup (pv 4) pe_int (fun _ _ => rfl)) (pa_sub (pe_ix ix_tup (pv 4) pe_int (fun _ _ => rfl)) pa_nil)))) pa_nil)) (pg_sub (pv 3) (pv 2) set_list))) pss_nil) (pss_one (ps_ret (pe_bm PySem.F.plainAttrs_str PySem.F.slot_str_join PySem.F.type_str_join mt_join pe_str (pa_name (pv 3) pa_nil))))))))), ?_⟩
  refine ⟨_, rfl, _, _, rfl, rfl, ⟨by decide, by decide⟩, _, rfl, b, _, rfl, .inl hb, _, _, rfl, rfl, (by show (0 : Int) < (xs.length : Int); omega), ?_⟩
  have a0 := Int.emod_nonneg (z / 3) (show (xs.length : Int) ≠ 0 by omega)
  have a1 := Int.emod_lt_of_pos (z / 3) (show (0 : Int) < (xs.length : Int) by omega)
  obtain ⟨k, hk, kl⟩ : ∃ k : Nat, z / 3 % (xs.length : Int) = (k : Int) ∧ k < ps.length := ⟨(z / 3 % (xs.length : Int)).toNat, by omega, by omega⟩
  show gName 2 (.int (z / 3 % (xs.length : Int))) _ H _
  rw [hk]
  have hk0 : ixN ps.length (k : Int) = some k := by unfold ixN; rw [if_pos (by omega), if_pos (by omega)]; rfl
  refine ⟨_, rfl, b, rfl, ⟨_, hb⟩, ?_⟩
  refine comp_list0 (K := K) (a := b) (xs := xs) (fun i σ ys H' => ∃ c0, σ = [c0] ∧ ys = ((ps.take i).map textP).map V.str ∧ Same H H') ⟨_, rfl, rfl, Same.refl _⟩ ?_ ?_ ?_
  · rintro i σ ys H' hi ⟨c0, rfl, rfl, s2⟩
    refine ⟨?_, hb.keep s2⟩
    rw [List.length_map, List.length_map, List.length_take]
    exact Nat.le_of_lt (small1000 (by omega))
  · rintro i x σ ys H' hi ⟨c0, rfl, rfl, s2⟩
    obtain ⟨d, hd, hx⟩ := hxs.get hi
    obtain ⟨pc, hpc, rfl⟩ := get_map_pc hd
    refine ⟨_, rfl, x, pc, rfl, hx.keep s2, (sh pc (List.mem_of_getElem? hpc)).2, fun H3 s3 => nx (lt_of_get hi) ⟨_, rfl, ?_, s2.trans s3⟩⟩
    rw [List.take_add_one, hpc, List.map_append, List.map_append]
    rfl
  · rintro σ ys H' tl ⟨c0, rfl, rfl, s2⟩ hp
    rw [hl, List.take_length]
    have s3 := s2.trans (same_new hp (.lst ((ps.map textP).map V.str)))
    have m3 : upd H' tl (.lst ((ps.map textP).map V.str)) tl = some (.lst ((ps.map textP).map V.str)) := upd_same
    generalize upd H' tl (.lst ((ps.map textP).map V.str)) = H3 at s3 m3 ⊢
    have ntl : H tl = none := by
      cases e : H tl with
      | none => rfl
      | some o => rw [s2 _ _ e] at hp; cases hp
    obtain ⟨p, hpk⟩ : ∃ p, ps[k]? = some p := ⟨_, List.getElem?_eq_getElem kl⟩
    have spk := sh p (List.mem_of_getElem? hpk)
    have tk : atI ((ps.map textP).map V.str) (k : Int) = some (.str (textP p)) := atI_nat (by rw [List.getElem?_map, List.getElem?_map, hpk]; rfl)
    have hk8 : k < ((ps.map textP).map V.str).length := by rw [List.length_map, List.length_map]; exact kl
    have jk : ixN ((ps.map textP).map V.str).length (k : Int) = some k := by rw [List.length_map, List.length_map]; exact hk0
    have eset : ∀ (ts : List PySem.Str) (x : PySem.Str), (ts.map V.str).set k (.str x) = (ts.set k x).map V.str := fun ts x => List.map_set.symm
    have setS : ∀ {H4 : Hp} (o : HO), Same H H4 → Same H (upd H4 tl o) := fun o s4 a u e => by
      rw [upd_ne (ne_of_none e ntl)]
      exact s4 _ _ e
    dsimp only
    refine seq_byK (fun σ' H4 => ∃ (x : PySem.Str) (c4 : Option V), σ' = [some (.ref b), some (.int z), some (.int (k : Int)), some (.ref tl), c4] ∧ BadT x ∧ Same H H4 ∧ H4 tl = some (.lst (((ps.map textP).set k x).map V.str))) (fun nxt hn => ?_) ?_
    · have put : ∀ (x : PySem.Str) (H4 : Hp) (c4 : Option V), BadT x → Same H3 H4 → rSetL (.ref tl) (.int (k : Int)) (.str x) H4 (fun H5 => nxt [some (.ref b), some (.int z), some (.int (k : Int)), some (.ref tl), c4] H5) := fun x H4 c4 bx s4 => by
        refine ⟨tl, _, _, k, rfl, rfl, s4 _ _ m3, jk, ?_⟩
        rw [eset]
        exact hn _ _ ⟨x, c4, rfl, bx, setS _ (s3.trans s4), upd_same⟩
      refine ⟨_, rfl, _, _, rfl, rfl, (by show (0 : Int) < 3; decide), rfl, _, rfl, ite2 (fun _ => ?_) (fun _ => ?_)⟩
      · exact ⟨_, rfl, _, rfl, tl, _, _, _, rfl, rfl, SqL.of m3, tk, _, rfl, _, _, rfl, rfl, ⟨by decide, by decide⟩, p, _, rfl, spk, fun x H4 bx s4 => ⟨_, rfl, _, rfl, put x H4 _ bx s4⟩⟩
      · refine ⟨_, rfl, _, _, rfl, rfl, (by show (0 : Int) < 3; decide), rfl, _, rfl, ite2 (fun _ => ?_) (fun _ => ?_)⟩
        · exact ⟨_, rfl, _, rfl, tl, _, _, _, rfl, rfl, SqL.of m3, tk, _, rfl, _, _, rfl, rfl, ⟨by decide, by decide⟩, p, _, rfl, spk, fun x H4 bx s4 => ⟨_, rfl, _, rfl, put x H4 _ bx s4⟩⟩
        · exact ⟨_, rfl, _, rfl, tl, _, _, _, rfl, rfl, SqL.of m3, tk, _, rfl, _, _, rfl, rfl, ⟨by decide, by decide⟩, p, _, rfl, spk, fun x H4 bx s4 => ⟨_, rfl, _, rfl, put x H4 _ bx s4⟩⟩
    · rintro _ H4 ⟨x, c4, rfl, bx, s4, m4⟩
      obtain ⟨y, hy⟩ : ∃ y, xs[k]? = some y := ⟨_, List.getElem?_eq_getElem (by omega)⟩
      obtain ⟨d, hd, hyd⟩ := hxs.get hy
      rw [List.getElem?_map, hpk] at hd
      cases hd
      have hy4 := hyd.keep s4
      refine ⟨_, rfl, _, rfl, b, _, _, _, rfl, rfl, hb.keep s4, atI_nat hy, ?_⟩
      have fin : ∀ (x : PySem.Str) (H5 : Hp) (c4 : Option V), BadT x → Same H H5 → H5 tl = some (.lst (((ps.map textP).set k x).map V.str)) → tRet (tBM K "str" rJoin (tC (.str (PySem.Str.ofString "; "))) (tCons (tVar 3) tNil)) { nx := fun _ H' => Q V.non H', rt := Q } [some (.ref b), some (.int z), some (.int (k : Int)), some (.ref tl), c4] H5 := fun x H5 c4 bx s5 m5 => by
        obtain ⟨b1, b2, b3⟩ := bad_at kl l8 sh bx
        have jo : JoinOk (PySem.Str.ofString "; ") ((ps.map textP).set k x) = true := by
          have h3 := sum_le b3
          have hl2 : ((ps.map textP).set k x).length ≤ 8 := by rw [List.length_set, List.length_map]; exact l8
          have h5 : ((ps.map textP).set k x).length * 2000 ≤ 8 * 2000 := Nat.mul_le_mul_right _ hl2
          refine PyProof.Rows.joinOk_of_weight ?_ (by decide +kernel)
          omega
        exact ⟨rfl, _, rfl, _, tl, _, rfl, rfl, m5, jo, q _ _ b2 b1 s5⟩
      have off : ∀ u : PySem.Str, u ≠ PySem.Str.ofString "stop" → decide (V.str u = V.str (PySem.Str.ofString "stop")) = false := fun u hu => decide_eq_false fun e => hu (V.str.inj e)
      dsimp only
      cases p with
      | gap g =>
        obtain ⟨t, y0, y1, rfl, ht, g0, g1⟩ := DV.t2 (show DV K H4 y (.tuple [.str "gap", frD g]) from hy4)
        obtain rfl := DV.str_of g0
        exact ⟨_, rfl, t, _, _, _, rfl, rfl, ht, atI0, rfl, _, rfl, iteF' (off _ (by decide +kernel)) (iteF (fin x H4 _ bx s4 m4))⟩
      | glass g =>
        obtain ⟨t, y0, y1, rfl, ht, g0, g1⟩ := DV.t2 (show DV K H4 y (.tuple [.str "glass", frD g]) from hy4)
        obtain rfl := DV.str_of g0
        exact ⟨_, rfl, t, _, _, _, rfl, rfl, ht, atI0, rfl, _, rfl, iteF' (off _ (by decide +kernel)) (iteF (fin x H4 _ bx s4 m4))⟩
      | stop lo hi =>
        obtain ⟨t, y0, y1, y2, rfl, ht, g0, g1, g2⟩ := DV.t3 (show DV K H4 y (.tuple [.str "stop", frD lo, frD hi]) from hy4)
        obtain rfl := DV.str_of g0
        refine ⟨_, rfl, t, _, _, _, rfl, rfl, ht, atI0, rfl, _, rfl, iteT' (decide_eq_true rfl) ?_⟩
        refine ⟨_, rfl, t, _, _, y1, rfl, rfl, ht, rfl, _, rfl, t, _, _, y2, rfl, rfl, ht, rfl, ne_frD g1 g2 ⟨_, rfl, ?_⟩⟩
        by_cases e : lo = hi
        · exact iteF' (by rw [decide_eq_true e]; rfl) (iteF (fin x H4 _ bx s4 m4))
        · refine iteT' (by rw [decide_eq_false e]; rfl) ?_
          refine ⟨_, rfl, _, _, rfl, rfl, ⟨by decide, by decide⟩, _, _, rfl, rfl, (by show (0 : Int) < 4; decide), rfl, _, rfl, ite2 (fun _ => ?_) (fun _ => fin x H4 _ bx s4 m4)⟩
          refine ⟨_, rfl, t, _, _, y2, rfl, rfl, ht, rfl, _, rfl, t, _, _, y1, rfl, rfl, ht, rfl, (by show 3 ≤ sizeLine; decide), fun p5 hp5 => ?_⟩
          have u5 := same_new hp5 (.tup [.str (PySem.Str.ofString "stop"), y2, y1])
          have t5 : upd H4 p5 (.tup [.str (PySem.Str.ofString "stop"), y2, y1]) p5 = some (.tup [.str (PySem.Str.ofString "stop"), y2, y1]) := upd_same
          have m45 := u5 _ _ m4
          have g15 := g1.keep u5
          have g25 := g2.keep u5
          generalize upd H4 p5 (.tup [.str (PySem.Str.ofString "stop"), y2, y1]) = H5 at u5 t5 m45 g15 g25 ⊢
          have hpc : DV K H5 (.ref p5) (pcD (.stop hi lo)) := .tup (SqT.of t5) (.cons (.str _) (.cons g25 (.cons g15 .nil)))
          refine ⟨_, .stop hi lo, rfl, hpc, (fun r hr => spk.2 r (by simp only [fracs, List.mem_cons, List.not_mem_nil, or_false] at hr ⊢; exact hr.symm)), fun H6 s6 => ?_⟩
          have s46 := u5.trans s6
          refine ⟨_, rfl, _, rfl, tl, _, _, k, rfl, rfl, s6 _ _ m45, (by rw [List.length_map, List.length_set, List.length_map]; exact hk0), ?_⟩
          rw [eset, List.set_set]
          exact fin _ _ _ (bad_stop spk e) (setS _ (s4.trans s46)) upd_same
end
end K12
namespace K12
open PySem L2 Lib Fr Op Tx
seal PE PT PW PA PS PSs PG PI PO PIfs
section
variable {P : Program} {w : World} {K : PySem.W.Frag} {mg : PySem.Str → Option Value} {base : Heap} {ad : Adr} {c : Bool}
theorem ok_law (T : Txt K mg ad) {fa : Addr} {fd : FuncData} (F : Fun K "law" "law" s_law fa fd) : FnB P w K mg base true 26 fa fd ["_law_script"] (spLaw K) := by
  have C__law_drawn := c__law_drawn (P := P) (w := w) (base := base) T
  have C__law_cell_at := c__law_cell_at (P := P) (w := w) (base := base) T
  have C__law_draw := c__law_draw (P := P) (w := w) (base := base) T
  have C__law_piece := c__law_piece (P := P) (w := w) (base := base) T
  have C__law_text := c__law_text (P := P) (w := w) (base := base) T
  have C__law_bad := c__law_bad (P := P) (w := w) (base := base) T
  have C__law_refused := c__law_refused (P := P) (w := w) (base := base) T
  have C_read_bench := x_read_bench (P := P) (w := w) (base := base) T
  refine F.okB sc_law (fun vs H Q E h => ?_) (fun cdv A outer s H vs Q E hr h => ?_)
  · obtain ⟨a, ns, rfl, _⟩ := h; rfl
  obtain ⟨a, ns, rfl, hS, h63, q⟩ := h
  refine ⟨_, (pss_cons (ps_set (i := 1) sc_law.nd rfl (by first | exact Or.inl rfl | exact Or.inr rfl) (pe_cB C__law_drawn (hr.mono (by decide)) pass01 (pa_name (pv 0) (pa_const pe_int pa_nil)))) (pss_cons (ps_set (i := 2) sc_law.nd rfl (by first | exact Or.inl rfl | exact Or.inr rfl) (pe_cmpR op_eq (pe_op op_mod (pe_cB C__law_cell_at (hr.mono (by decide)) pass01 (pa_name (pv 0) (pa_const pe_int pa_nil))) pe_int) pe_int (nomark _))) (pss_cons (ps_compX (i := 3) sc_law.nd rfl (by first | exact Or.inl rfl | exact Or.inr rfl) ["_law_k", "_law_drawn_here", "_law_far"] [none, some 1, some 2] rfl (pi_range1 rfl T.range (pa_bin (pe_op op_add pe_int (pe_cB C__law_draw (hr.mono (by decide)) pass01 (pa_name (pv 1) (pa_const pe_int pa_nil)))) pa_nil)) (fun _ _ _ _ _ _ => (pg_name (i := 0) (show List.Nodup [("_law_k" : Str), ("_law_drawn_here" : Str), ("_law_far" : Str)] by decide) rfl (by first | exact Or.inl rfl | exact Or.inr rfl))) (fun _ _ _ _ _ _ => pifs_nil) (fun _ _ _ _ _ _ => (pe_cB C__law_piece (hr.mono (by decide)) pass01 (pa_name (pv 1) (pa_name (pv 2) pa_nil)))) (cap_def (hcell := by decide) (hf := (show ∀ y : Str × NameKind, y ∈ _ → y.2 = NameKind.free → (defScope s_law).names.lookup y.1 = some NameKind.cell by decide))) (by decide) rfl (by decide) rfl (fun i j h => by
      rcases i with _ | _ | _ | i
      · simp at h
      · simp at h; subst h; exact ⟨_, rfl, rfl, rfl, rfl⟩
      · simp at h; subst h; exact ⟨_, rfl, rfl, rfl, rfl⟩
      · simp at h)) (pss_cons (ps_set (i := 4) sc_law.nd rfl (Or.inl rfl) (pe_cB C__law_text (hr.mono (by decide)) pass01 (pa_name (pv 3) pa_nil))) (pss_cons (ps_for PassesOwn.never rfl (pi_list (pe_op op_cat (pe_slice sl_list (pv 0) (po_some pe_int) (po_some pe_int)) (pe_lst (pa_call (pe_callB call_len_seq rfl T.len bt_len (pa_name (pv 0) pa_nil)) pa_nil)))) (pg_name (i := 5) sc_law.nd rfl (by first | exact Or.inl rfl | exact Or.inr rfl)) (pss_cons (ps_set (i := 6) sc_law.nd rfl (Or.inl rfl) (pe_op op_fdiv (pe_op op_mod (pe_op op_mul (pv 5) pe_int) pe_int) pe_int)) (pss_cons (ps_set (i := 7) sc_law.nd rfl (Or.inl rfl) (pe_lst (pa_const pe_non (pa_const pe_int (pa_const pe_bl (pa_list (pe_lst (pa_name (pv 4) pa_nil)) (pa_tuple (pe_tup (pa_name (pv 4) pa_nil)) (pa_dict (pe_d1 (pv 4) pe_int) (pa_call (pe_bm PySem.F.plainAttrs_str PySem.F.slot_str_join PySem.F.type_str_join mt_join pe_str (pa_bin (pe_op op_rep (pe_lst (pa_const pe_str pa_nil)) pe_int) pa_nil)) (pa_const pe_str pa_nil)))))))))) (pss_cons (ps_if (PW.pt (pw_or (pt_not (pt_val (pe_cB C__law_refused (hr.mono (by decide)) pass01 (pa_call (pe_cB C__law_bad (hr.mono (by decide)) pass01 (pa_name (pv 3) (pa_name (pv 6) pa_nil))) pa_nil)))) (pw_or1 (pt_not (pt_val (pe_cB C__law_refused (hr.mono (by decide)) pass01 (pa_sub (pe_ix ix_list (pv 7) (pe_op op_mod (pe_op op_fdiv (pv 6) pe_int) pe_int) (fun _ _ => rfl)) pa_nil))))))) (pss_one (ps_ret pe_bl)) pss_nil) (pss_one (ps_if (pt_cmpR (op_neD hr.units) (pe_cB C_read_bench (hr.mono (by decide)) pass01 (pa_name (pv 4) pa_nil)) (pv 3) (nomark _)) (pss_one (ps_ret pe_bl)) pss_nil)))))) (pss_one (ps_ret (pe_cmpR (op_eqD hr.units) (pe_cB C_read_bench (hr.mono (by decide)) pass01 (pa_bin (pe_op op_add_str (pe_op op_add_str (pe_op op_mul_str pe_str pe_int) (pv 4)) (pe_op op_mul_str pe_str pe_int)) pa_nil)) (pv 3) (nomark _))))))))), ?_⟩
  refine ⟨_, rfl, a, ns, 43, rfl, hS, fun d cc L H1 s1 nd nc dr => ?_⟩
  refine ⟨_, rfl, a, ns, 0, rfl, hS.keep s1, by decide, fun zc => ?_⟩
  refine ⟨_, _, rfl, rfl, (by show (0 : Int) < 16; decide), rfl, ?_⟩
  dsimp only
  generalize decide (V.int (zc % 16) = V.int 5) = far
  have dp : dsA.P H1 d cc 0 := ⟨L, dr⟩
  refine ⟨_, rfl, d, cc, 0, 8, rfl, dp, ⟨by decide, by decide⟩, fun m H2 m0 m1 hd2 s2 => ?_⟩
  refine ⟨_, _, rfl, rfl, _, rfl, by omega, by omega, ?_⟩
  obtain ⟨n, hn, n1, n8⟩ : ∃ n : Nat, (1 + m).toNat = n ∧ 1 ≤ n ∧ n ≤ 8 := ⟨_, rfl, by omega, by omega⟩
  rw [hn]
  refine comp_range (lo := 0) (n := n) (fun i σ ys H' => ∃ c0 ps, σ = [c0, some (.ref d), some (.bl far)] ∧ dsA.P H' d cc 0 ∧ SE d cc H2 H' ∧ DVs K H' ys (ps.map pcD) ∧ ps.length = i ∧ ∀ p ∈ ps, PShort p) ⟨_, [], rfl, hd2, SE.refl _ _ _, .nil, rfl, fun _ h => nomatch h⟩ ?_ ?_ ?_
  · rintro i σ ys H' hi ⟨c0, ps, rfl, _, _, hys, pl, _⟩
    have := hys.len
    rw [List.length_map, pl] at this
    exact Nat.le_of_lt (small1000 (by omega))
  · rintro i σ ys H' hi ⟨c0, ps, rfl, hd3, s3, hys, pl, hp⟩
    refine ⟨_, rfl, _, rfl, d, cc, 0, far, rfl, hd3, fun v H4 p hd4 s4 hv ok => nx hi ⟨_, ps ++ [p], rfl, hd4, s3.trans s4, ?_, by rw [List.length_append, pl]; rfl, fun p0 h0 => ?_⟩⟩
    · rw [List.map_append]
      exact (dvs_keepT (dsA.t hd3 s4) (noLs_map noL_pc ps) hys).append (.cons hv .nil)
    · rcases List.mem_append.mp h0 with h | h
      · exact hp p0 h
      · rw [List.mem_singleton.mp h]; exact ok
  rintro σ' xs H6 lb ⟨c0, ps, rfl, hd6, s6, hys, pl, sh⟩ hlb
  have u7 := same_new hlb (.lst xs)
  have l7 : (upd H6 lb (.lst xs)) lb = some (.lst xs) := upd_same
  have db := hys.keep u7
  have hS7 : SqL K (upd H6 lb (.lst xs)) a (ns.map V.int) := (sql_se hS nd nc s1 (s2.trans s6)).keep u7
  generalize upd H6 lb (.lst xs) = H7 at l7 db hS7 ⊢
  have ne : ps ≠ [] := fun e => by rw [e] at pl; simp at pl; omega
  have l8 : ps.length ≤ 8 := by omega
  have hv7 : DV K H7 (.ref lb) (benchD ps) := .lst (SqL.of l7) db
  have bl := bench_len l8 sh
  have bl2 : (textB ps).length ≤ 20000 := by omega
  refine ⟨_, rfl, .ref lb, ps, rfl, hv7, by omega, sh, fun H8 s8 => ?_⟩
  have hS8 := hS7.keep s8
  refine ⟨_, rfl, _, rfl, _, rfl, a, _, rfl, hS8, fun p1 hp1 => ?_⟩
  have v1 := same_new hp1 (.lst (cutV (ns.map V.int) (some 1) (some 46)))
  have z1 := cutV_le (ns.map V.int) 1 46
  change (cutV (ns.map V.int) (some 1) (some 46)).length ≤ _ at z1
  have i1 := cut_ints ns (some 1) (some 46)
  generalize cutV (ns.map V.int) (some 1) (some 46) = L1 at v1 z1 i1 ⊢
  refine ⟨_, rfl, a, _, rfl, .inl (hS8.keep v1), (by show 1 ≤ sizeLine; decide), fun p2 hp2 => ?_⟩
  generalize hnn : (((ns.map V.int).length : Nat) : Int) = nn
  have v2 := same_new hp2 (.lst [.int nn])
  refine ⟨p1, p2, _, _, rfl, rfl, v2 _ _ upd_same, upd_same, Nat.le_of_lt (small1000 (by simp only [List.length_cons, List.length_nil]; omega)), fun p3 hp3 => ⟨p3, rfl, ⟨_, SqL.of upd_same⟩, ?_⟩⟩
  have v3 := same_new hp3 (.lst (L1 ++ [.int nn]))
  have v13 := s8.trans (v1.trans (v2.trans v3))
  have hL : ∀ x ∈ L1 ++ [V.int nn], ∃ z : Int, x = .int z := fun x hx => by
    rcases List.mem_append.mp hx with h | h
    · exact i1 x h
    · exact ⟨nn, List.mem_singleton.mp h⟩
  have hp30 : upd (upd (upd H8 p1 (.lst L1)) p2 (.lst [.int nn])) p3 (.lst (L1 ++ [.int nn])) p3 = some (.lst (L1 ++ [.int nn])) := upd_same
  generalize upd (upd (upd H8 p1 (.lst L1)) p2 (.lst [.int nn])) p3 (.lst (L1 ++ [.int nn])) = H0 at hp30 v13 ⊢
  generalize L1 ++ [V.int nn] = LL at hL hp30 ⊢
  refine for_list (K := K) (a := p3) (xs := LL) (fun i σ H2 => ∃ c5 c6 c7, σ = [some (.ref a), some (.ref d), some (.bl far), some (.ref lb), some (.str (textB ps)), c5, c6, c7] ∧ Same H0 H2) ⟨_, _, _, rfl, Same.refl _⟩ ?_ ?_ ?_
  · rintro i σ H2 hi ⟨c5, c6, c7, rfl, s2⟩
    exact SqL.of (s2 _ _ hp30)
  · rintro i x σ H2 hi ⟨c5, c6, c7, rfl, s2⟩
    obtain ⟨z, rfl⟩ := hL x (List.mem_of_getElem? hi)
    refine ⟨_, rfl, _, _, rfl, rfl, .inr ⟨by decide, by decide⟩, _, _, rfl, rfl, (by show (0 : Int) < 2147483647; decide), _, _, rfl, rfl, ⟨by decide, by decide⟩, ?_⟩
    dsimp only
    generalize z * 16807 % 2147483647 / 8 = y
    have s72 := v13.trans s2
    -- the things that are no texts of benches
    refine ⟨_, rfl, (by show 1 ≤ sizeLine; decide), fun q1 hq1 => ?_⟩
    generalize hG1 : upd H2 q1 (.lst _) = G1
    have w1 : Same H2 G1 := by rw [← hG1]; exact same_new hq1 _
    have k1 : G1 q1 = some (.lst [.str (textB ps)]) := by rw [← hG1]; exact upd_same
    clear hG1
    refine ⟨_, rfl, (by show 1 ≤ sizeLine; decide), fun q2 hq2 => ?_⟩
    generalize hG2 : upd G1 q2 (.tup _) = G2
    have w2 : Same G1 G2 := by rw [← hG2]; exact same_new hq2 _
    have k2 : G2 q2 = some (.tup [.str (textB ps)]) := by rw [← hG2]; exact upd_same
    clear hG2
    refine fun q3 hq3 => ⟨_, rfl, _, rfl, upd_same, ?_⟩
    have w3 : Same G2 (upd (upd G2 q3 (.dK [])) q3 (.dK [(.inr (textB ps), .int 1)])) := fun b o e => by
      rw [upd_ne (ne_of_none e hq3), upd_ne (ne_of_none e hq3)]
      exact e
    have k3 : upd (upd G2 q3 (.dK [])) q3 (.dK [(.inr (textB ps), .int 1)]) q3 = some (.dK [(.inr (textB ps), .int 1)]) := upd_same
    show tBM _ _ _ _ _ _ (upd (upd G2 q3 (.dK [])) q3 (.dK [(.inr (textB ps), .int 1)])) _
    generalize upd (upd G2 q3 (.dK [])) q3 (.dK [(.inr (textB ps), .int 1)]) = G3 at w3 k3 ⊢
    refine ⟨rfl, (by show 1 ≤ sizeLine; decide), fun q4 hq4 => ?_⟩
    generalize hG4 : upd G3 q4 (.lst _) = G4
    have w4 : Same G3 G4 := by rw [← hG4]; exact same_new hq4 _
    have k4 : G4 q4 = some (.lst [.str (sOf "gap 1")]) := by rw [← hG4]; exact upd_same
    clear hG4
    refine ⟨q4, 61, [.str (sOf "gap 1")], rfl, rfl, k4, by decide, by decide, (by show 1 * 61 ≤ sizeLine; decide), fun q5 hq5 => ?_⟩
    generalize hG5 : upd G4 q5 (.lst _) = G5
    have w5 : Same G4 G5 := by rw [← hG5]; exact same_new hq5 _
    have k5 : G5 q5 = some (.lst ((List.replicate 61 (sOf "gap 1")).map V.str)) := by
      rw [← hG5, upd_same, rep_flat1, List.map_replicate]
      rfl
    clear hG5
    have jo : JoinOk (sOf "; ") (List.replicate 61 (sOf "gap 1")) = true := by decide +kernel
    refine ⟨_, q5, List.replicate 61 (sOf "gap 1"), rfl, rfl, k5, jo, ?_⟩
    refine ⟨(by show 8 ≤ sizeLine; decide), fun q6 hq6 => ?_⟩
    generalize hG6 : upd G5 q6 (.lst _) = G6
    have w6 : Same G5 G6 := by rw [← hG6]; exact same_new hq6 _
    have k6 : G6 q6 = some (.lst [.non, .int 5, .bl true, .ref q1, .ref q2, .ref q3, .str (Txt.join (sOf "; ") (List.replicate 61 (sOf "gap 1"))), .str (sOf "31 times ( gap 1; gap 1 )")]) := by rw [← hG6]; exact upd_same
    clear hG6
    have w36 := w4.trans (w5.trans w6)
    have s76 := s72.trans (w1.trans (w2.trans (w3.trans w36)))
    have s26 := s2.trans (w1.trans (w2.trans (w3.trans w36)))
    refine ⟨_, rfl, _, rfl, .ref lb, ps, y, rfl, hv7.keep s76, ne, l8, sh, fun x G7 xl pn w7 => ⟨.str x, rfl, .inr ⟨x, rfl, xl, pn⟩, fun G8 w8 => ⟨_, rfl, iteF ?_⟩⟩⟩
    have w68 := w7.trans w8
    have m0 := Int.emod_nonneg (y / 5) (show (8 : Int) ≠ 0 by decide)
    have m1 := Int.emod_lt_of_pos (y / 5) (show (0 : Int) < 8 by decide)
    refine ⟨_, rfl, _, rfl, _, _, rfl, rfl, ⟨by decide, by decide⟩, _, _, rfl, rfl, (by show (0 : Int) < 8; decide), ?_⟩
    dsimp only
    obtain ⟨k, hk, k8⟩ : ∃ k : Nat, y / 5 % 8 = (k : Int) ∧ k < 8 := ⟨(y / 5 % 8).toNat, by omega, by omega⟩
    rw [hk]
    have e1 : DV K G8 (.ref q1) (.list [.str (textB ps)]) := .lst (SqL.of ((w2.trans (w3.trans (w36.trans w68))) _ _ k1)) (.cons (.str _) .nil)
    have e2 : DV K G8 (.ref q2) (.tuple [.str (textB ps)]) := .tup (SqT.of ((w3.trans (w36.trans w68)) _ _ k2)) (.cons (.str _) .nil)
    have e3 : DV K G8 (.ref q3) (.dict []) := .dct ((w36.trans w68) _ _ k3)
    have jl : (Txt.join (sOf "; ") (List.replicate 61 (sOf "gap 1"))).length ≤ 20000 := by decide +kernel
    obtain ⟨t, ht, nt⟩ : ∃ t, atI [V.non, .int 5, .bl true, .ref q1, .ref q2, .ref q3, .str (Txt.join (sOf "; ") (List.replicate 61 (sOf "gap 1"))), .str (sOf "31 times ( gap 1; gap 1 )")] (k : Int) = some t ∧ NoTx K G8 t := by
      have k07 : k = 0 ∨ k = 1 ∨ k = 2 ∨ k = 3 ∨ k = 4 ∨ k = 5 ∨ k = 6 ∨ k = 7 := by omega
      rcases k07 with rfl | rfl | rfl | rfl | rfl | rfl | rfl | rfl
      · exact ⟨_, rfl, .inl ⟨_, .non, fun _ h => nomatch h⟩⟩
      · exact ⟨_, rfl, .inl ⟨_, .int _, fun _ h => nomatch h⟩⟩
      · exact ⟨_, rfl, .inl ⟨_, .bl _, fun _ h => nomatch h⟩⟩
      · exact ⟨_, rfl, .inl ⟨_, e1, fun _ h => nomatch h⟩⟩
      · exact ⟨_, rfl, .inl ⟨_, e2, fun _ h => nomatch h⟩⟩
      · exact ⟨_, rfl, .inl ⟨_, e3, fun _ h => nomatch h⟩⟩
      · exact ⟨_, rfl, .inr ⟨_, rfl, jl, many_no⟩⟩
      · exact ⟨_, rfl, .inr ⟨_, rfl, by decide +kernel, twice_no⟩⟩
    refine ⟨q6, _, _, t, rfl, rfl, SqL.of (w68 _ _ k6), ht, t, rfl, nt, fun G9 w9 => ⟨_, rfl, iteF ?_⟩⟩
    have w69 := w68.trans w9
    refine ⟨_, rfl, .inr ⟨textB ps, rfl, bl2, fun bs e l ys G10 w10 nl hl hys2 => ?_, fun e => by rw [parse_text (by omega) sh] at e; cases e⟩⟩
    rw [parse_text (by omega) sh] at e
    cases e
    have w610 := w69.trans w10
    refine ⟨_, rfl, ne_same (.lst (SqL.of hl) hys2) (hv7.keep (s76.trans w610)) (flat_bench ps) ⟨_, rfl, iteF ?_⟩⟩
    exact ⟨_, _, _, rfl, s26.trans w610⟩
  · rintro σ H2 ⟨c5, c6, c7, rfl, s2⟩
    have s72 := v13.trans s2
    have mk : ∀ x : PySem.Str, x.length ≤ 10 → MulOk x 4 := fun x hx => by
      refine ⟨by decide, fun _ _ => by omega, fun _ _ => ?_⟩
      refine decide_eq_false (Nat.not_lt.mpr (Nat.le_of_lt (small1000 ?_)))
      have : x.length * Int.toNat 4 ≤ 10 * 4 := Nat.mul_le_mul hx (by decide)
      omega
    have t1 : (Txt.mul (PySem.Str.ofString "1 times ( ") 4).length = 40 := by decide +kernel
    have t2 : (Txt.mul (PySem.Str.ofString " )") 4).length = 8 := by decide +kernel
    have sL : ∀ n : Nat, n ≤ 20000 → n ≤ sizeLine := fun n h => Nat.le_trans h (by decide)
    refine ⟨_, _, rfl, rfl, mk _ (by decide +kernel), _, rfl, _, _, rfl, rfl, sL _ (by rw [t1]; omega), _, _, rfl, rfl, mk _ (by decide +kernel), _, _, rfl, rfl, sL _ (by rw [len_app, t1, t2]; omega), ?_⟩
    have hp := parse_four ne (show ps.length ≤ 60 by omega) sh
    refine .inr ⟨_, rfl, (by rw [len_app, len_app, t1, t2]; omega), fun bs e l ys G10 w10 nl hl hys2 => ?_, fun e => by rw [hp] at e; cases e⟩
    rw [hp] at e
    cases e
    exact ⟨_, rfl, eq_same (.lst (SqL.of hl) hys2) (hv7.keep (s72.trans w10)) (flat_bench ps) (q _)⟩
theorem law_fd {fa : Addr} (F : TopFn K mg "law" s_law) (hmg : mg "law" = some (.ref fa)) : ∃ fd, Fun K "law" "law" s_law fa fd ∧ (∀ (s : Shared) (u : Value), BindsTo s fd ⟨[u], []⟩ [("_law_script", u)]) ∧ fd.scope.names.lookup ("_law_script" : PySem.Str) = some NameKind.local := by
  obtain ⟨f, fd, F, hm⟩ := F.ex
  cases hmg.symm.trans hm
  obtain ⟨oc, od, kV, doc, pm, an, cdv, ct, osl, rfl, l, c⟩ := id F.ex
  exact ⟨_, F, fun s u => .of_eq rfl, rfl⟩
end
end K12
namespace K12
open PySem L2 Lib
theorem walk {l : PySem.W.OpenLaw} {q : Program} {loose : List Str} {XP : (Str → Option Value) → Heap → Prop} {YP : World → Heap → Prop} {d : DefRec} {K : Params → PySem.W.Frag} (hn : l.most = some 63) (hdf : d.params.defaults = [])
    (hY : ∀ (w : World) (h : Heap), YP w h → (K w.params).In h)
    (F : ∀ (w : World) (mg : Str → Option Value) (fa : Addr) (h : Heap), (K w.params).In h → h.Ns mainGlobals mg → mg d.name = some (.ref fa) →
      ∃ fd : FuncData, ((∀ (s : Shared) (u : Value), BindsTo s fd ⟨[u], []⟩ [("_law_script", u)]) ∧ fd.scope.names.lookup ("_law_script" : PySem.Str) = some NameKind.local) ∧ ∀ base : Heap, (K w.params).In base → base.Ns mainGlobals mg → FnOk l.prog w (K w.params) mg base (CX1 l.prog w) 26 fa fd ["_law_script"] (spLaw (K w.params))) :
    PySem.W.WalkO q loose XP YP l.row.toRowW d [] (fun f vs => PySem.call f vs) :=
  L2.walk_of (n := 63) (k := 26) (x := "_law_script") (CX := fun w => CX1 l.prog w) (sp := fun w => spLaw (K w.params)) hn (by decide) hdf ⟨rfl, by decide, by decide⟩ hY F (fun _ _ a ns hl _ hS => ⟨a, ns, rfl, hS, hl, fun _ => rfl⟩) fun _ _ _ _ _ z => by
    obtain ⟨_, _, _, _, _, _, _, _, _, _, _, _, q⟩ := z
    exact q
end K12
def PySem.W.Fast.tw14537641120291379513 : Unit := ()
def PySem.W.Fast.tw13218226607141984342 : Unit := ()
def PySem.W.Fast.tw161741152508661512 : Unit := ()
def PySem.W.Fast.tw17991990427944861808 : Unit := ()
def PySem.W.Fast.tw9688906930163273211 : Unit := ()
def PySem.W.Fast.tw5426072125693510809 : Unit := ()
def PySem.W.Fast.tw14311279118991157008 : Unit := ()
def PySem.W.Fast.tw3524700067316113789 : Unit := ()
def PySem.W.Fast.tw6391927700549505634 : Unit := ()
def PySem.W.Fast.tw15259920805738516235 : Unit := ()
def PySem.W.Fast.tw10774651624939079537 : Unit := ()
def PySem.W.Fast.tw1346804003360955085 : Unit := ()
def PySem.W.Fast.tw15093801523159961812 : Unit := ()
def PySem.W.Fast.tw12239830640102484592 : Unit := ()
def PySem.W.Fast.tw572322322511733711 : Unit := ()
def PySem.W.Fast.tw4221569587043734461 : Unit := ()
def PySem.W.Fast.tw15127967799217631452 : Unit := ()
def PySem.W.Fast.tw9412826969522596107 : Unit := ()
def PySem.W.Fast.tw5924646429194906079 : Unit := ()
def PySem.W.Fast.tw924543419607394920 : Unit := ()
def PySem.W.Fast.tw8597008999785691715 : Unit := ()
def PySem.W.Fast.tw7222430922136445225 : Unit := ()
def PySem.W.Fast.tw13539989173627440012 : Unit := ()
def PySem.W.Fast.tw1483214535588011097 : Unit := ()
def PySem.W.Fast.tw1332128446427951124 : Unit := ()
def PySem.W.Fast.tw2322345061238586046 : Unit := ()
def PySem.W.Fast.tw12567726225667323869 : Unit := ()
def PySem.W.Fast.tw13066077730919234989 : Unit := ()
def PySem.W.Fast.tw10928310990433457116 : Unit := ()
def PySem.W.Fast.tw11674511185894564826 : Unit := ()
def PySem.W.Fast.tw18336539327286280511 : Unit := ()
def PySem.W.Fast.tw13746874621427788848 : Unit := ()
def PySem.W.Fast.tw5281884798166629033 : Unit := ()
def PySem.W.Fast.tw4036127200256241817 : Unit := ()
def PySem.W.Fast.tw6012330761969399695 : Unit := ()
def PySem.W.Fast.tw18185980647116467502 : Unit := ()
def PySem.W.Fast.tw1861531815038821475 : Unit := ()
def PySem.W.Fast.tw660173859756700713 : Unit := ()
def PySem.W.Fast.tw7020197477802973345 : Unit := ()
def PySem.W.Fast.tw15805075376952106169 : Unit := ()
def PySem.W.Fast.tw17141390005197997615 : Unit := ()
def PySem.W.Fast.tw5848336046529682631 : Unit := ()
def PySem.W.Fast.tw14106628207312790890 : Unit := ()
def PySem.W.Fast.tw10209864408058035145 : Unit := ()
def PySem.W.Fast.tw13846144201682631957 : Unit := ()
def PySem.W.Fast.tw9066241602010807359 : Unit := ()
def PySem.W.Fast.tw14332925391689466383 : Unit := ()
def PySem.W.Fast.tw17489461535439286964 : Unit := ()
def PySem.W.Fast.tw10884921859826941157 : Unit := ()
def PySem.W.Fast.tw5315755020379802980 : Unit := ()
def PySem.W.Fast.tw4287986230667589912 : Unit := ()
def PySem.W.Fast.tw16810516003301968752 : Unit := ()
def PySem.W.Fast.tw2941157807125038903 : Unit := ()
open PySem PySem.W PyProof.Rows
set_option maxRecDepth 100000 in
set_option maxHeartbeats 0 in
theorem PySem.Challenge.cw_grindbench_k12_texts_of_no_bench_holds : PySem.Challenge.rw_grindbench_k12_texts_of_no_bench.Holds := by
  w_on; o_law; k_head; (case hw => w_witness2)
  k_fill
  refine K12.walk (l := PySem.Challenge.rw_grindbench_k12_texts_of_no_bench) rfl rfl (fun w h Y => PySem.W.kIn_of Y) ?F
  case F =>
    intro w mg fa h KX G hmg
    have t_is_whole : L2.TopFn (L2.KOf KX) mg "is_whole" K12.s_is_whole := by
      dsimp only [L2.KOf]
      refine' L2.topFn_mk KX G ?a ?l ?c ?k
      (case a => k_is); (case l => k_is); (case c => k_is); (case k => k_is)
    have t_common_divisor : L2.TopFn (L2.KOf KX) mg "common_divisor" K12.s_common_divisor := by
      dsimp only [L2.KOf]
      refine' L2.topFn_mk KX G ?a ?l ?c ?k
      (case a => k_is); (case l => k_is); (case c => k_is); (case k => k_is)
    have t_is_ratio : L2.TopFn (L2.KOf KX) mg "is_ratio" K12.s_is_ratio := by
      dsimp only [L2.KOf]
      refine' L2.topFn_mk KX G ?a ?l ?c ?k
      (case a => k_is); (case l => k_is); (case c => k_is); (case k => k_is)
    have t_is_less : L2.TopFn (L2.KOf KX) mg "is_less" K12.s_is_less := by
      dsimp only [L2.KOf]
      refine' L2.topFn_mk KX G ?a ?l ?c ?k
      (case a => k_is); (case l => k_is); (case c => k_is); (case k => k_is)
    have t_show_ratio : L2.TopFn (L2.KOf KX) mg "show_ratio" K12.s_show_ratio := by
      dsimp only [L2.KOf]
      refine' L2.topFn_mk KX G ?a ?l ?c ?k
      (case a => k_is); (case l => k_is); (case c => k_is); (case k => k_is)
    have t_read_part_figures : L2.TopFnA (L2.KOf KX) mg "read_part_figures" "read_part" K12.s_read_part_figures := by
      dsimp only [L2.KOf]
      refine' L2.topFnA_mk KX G ?a ?l ?c ?k
      (case a => k_is); (case l => k_is); (case c => k_is); (case k => k_is)
    have t_read_ratio : L2.TopFn (L2.KOf KX) mg "read_ratio" K12.s_read_ratio := by
      dsimp only [L2.KOf]
      refine' L2.topFn_mk KX G ?a ?l ?c ?k
      (case a => k_is); (case l => k_is); (case c => k_is); (case k => k_is)
    have t_is_piece : L2.TopFn (L2.KOf KX) mg "is_piece" K12.s_is_piece := by
      dsimp only [L2.KOf]
      refine' L2.topFn_mk KX G ?a ?l ?c ?k
      (case a => k_is); (case l => k_is); (case c => k_is); (case k => k_is)
    have t_words_of : L2.TopFn (L2.KOf KX) mg "words_of" K12.s_words_of := by
      dsimp only [L2.KOf]
      refine' L2.topFn_mk KX G ?a ?l ?c ?k
      (case a => k_is); (case l => k_is); (case c => k_is); (case k => k_is)
    have t_read_number : L2.TopFn (L2.KOf KX) mg "read_number" K12.s_read_number := by
      dsimp only [L2.KOf]
      refine' L2.topFn_mk KX G ?a ?l ?c ?k
      (case a => k_is); (case l => k_is); (case c => k_is); (case k => k_is)
    have t_read_times : L2.TopFn (L2.KOf KX) mg "read_times" K12.s_read_times := by
      dsimp only [L2.KOf]
      refine' L2.topFn_mk KX G ?a ?l ?c ?k
      (case a => k_is); (case l => k_is); (case c => k_is); (case k => k_is)
    have t_read_round : L2.TopFn (L2.KOf KX) mg "read_round" K12.s_read_round := by
      dsimp only [L2.KOf]
      refine' L2.topFn_mk KX G ?a ?l ?c ?k
      (case a => k_is); (case l => k_is); (case c => k_is); (case k => k_is)
    have t_read_part_texts : L2.TopFnA (L2.KOf KX) mg "read_part_texts" "read_part" K12.s_read_part_texts := by
      dsimp only [L2.KOf]
      refine' L2.topFnA_mk KX G ?a ?l ?c ?k
      (case a => k_is); (case l => k_is); (case c => k_is); (case k => k_is)
    have t_read_parts : L2.TopFn (L2.KOf KX) mg "read_parts" K12.s_read_parts := by
      dsimp only [L2.KOf]
      refine' L2.topFn_mk KX G ?a ?l ?c ?k
      (case a => k_is); (case l => k_is); (case c => k_is); (case k => k_is)
    have t_count_of : L2.TopFn (L2.KOf KX) mg "count_of" K12.s_count_of := by
      dsimp only [L2.KOf]
      refine' L2.topFn_mk KX G ?a ?l ?c ?k
      (case a => k_is); (case l => k_is); (case c => k_is); (case k => k_is)
    have t_told_out : L2.TopFn (L2.KOf KX) mg "told_out" K12.s_told_out := by
      dsimp only [L2.KOf]
      refine' L2.topFn_mk KX G ?a ?l ?c ?k
      (case a => k_is); (case l => k_is); (case c => k_is); (case k => k_is)
    have t_read_bench : L2.TopFn (L2.KOf KX) mg "read_bench" K12.s_read_bench := by
      dsimp only [L2.KOf]
      refine' L2.topFn_mk KX G ?a ?l ?c ?k
      (case a => k_is); (case l => k_is); (case c => k_is); (case k => k_is)
    have t__law_cell_at : L2.TopFn (L2.KOf KX) mg "_law_cell_at" K12.s__law_cell_at := by
      dsimp only [L2.KOf]
      refine' L2.topFn_mk KX G ?a ?l ?c ?k
      (case a => k_is); (case l => k_is); (case c => k_is); (case k => k_is)
    have t__law_drawn : L2.TopFn (L2.KOf KX) mg "_law_drawn" K12.s__law_drawn := by
      dsimp only [L2.KOf]
      refine' L2.topFn_mk KX G ?a ?l ?c ?k
      (case a => k_is); (case l => k_is); (case c => k_is); (case k => k_is)
    have t__law_draw : L2.TopFn (L2.KOf KX) mg "_law_draw" K12.s__law_draw := by
      dsimp only [L2.KOf]
      refine' L2.topFn_mk KX G ?a ?l ?c ?k
      (case a => k_is); (case l => k_is); (case c => k_is); (case k => k_is)
    have t__law_low : L2.TopFn (L2.KOf KX) mg "_law_low" K12.s__law_low := by
      dsimp only [L2.KOf]
      refine' L2.topFn_mk KX G ?a ?l ?c ?k
      (case a => k_is); (case l => k_is); (case c => k_is); (case k => k_is)
    have t__law_under : L2.TopFn (L2.KOf KX) mg "_law_under" K12.s__law_under := by
      dsimp only [L2.KOf]
      refine' L2.topFn_mk KX G ?a ?l ?c ?k
      (case a => k_is); (case l => k_is); (case c => k_is); (case k => k_is)
    have t__law_part : L2.TopFn (L2.KOf KX) mg "_law_part" K12.s__law_part := by
      dsimp only [L2.KOf]
      refine' L2.topFn_mk KX G ?a ?l ?c ?k
      (case a => k_is); (case l => k_is); (case c => k_is); (case k => k_is)
    have t__law_piece : L2.TopFn (L2.KOf KX) mg "_law_piece" K12.s__law_piece := by
      dsimp only [L2.KOf]
      refine' L2.topFn_mk KX G ?a ?l ?c ?k
      (case a => k_is); (case l => k_is); (case c => k_is); (case k => k_is)
    have t__law_written : L2.TopFn (L2.KOf KX) mg "_law_written" K12.s__law_written := by
      dsimp only [L2.KOf]
      refine' L2.topFn_mk KX G ?a ?l ?c ?k
      (case a => k_is); (case l => k_is); (case c => k_is); (case k => k_is)
    have t__law_shown : L2.TopFn (L2.KOf KX) mg "_law_shown" K12.s__law_shown := by
      dsimp only [L2.KOf]
      refine' L2.topFn_mk KX G ?a ?l ?c ?k
      (case a => k_is); (case l => k_is); (case c => k_is); (case k => k_is)
    have t__law_piece_text : L2.TopFn (L2.KOf KX) mg "_law_piece_text" K12.s__law_piece_text := by
      dsimp only [L2.KOf]
      refine' L2.topFn_mk KX G ?a ?l ?c ?k
      (case a => k_is); (case l => k_is); (case c => k_is); (case k => k_is)
    have t__law_text : L2.TopFn (L2.KOf KX) mg "_law_text" K12.s__law_text := by
      dsimp only [L2.KOf]
      refine' L2.topFn_mk KX G ?a ?l ?c ?k
      (case a => k_is); (case l => k_is); (case c => k_is); (case k => k_is)
    have t__law_kinds : L2.TopFn (L2.KOf KX) mg "_law_kinds" K12.s__law_kinds := by
      dsimp only [L2.KOf]
      refine' L2.topFn_mk KX G ?a ?l ?c ?k
      (case a => k_is); (case l => k_is); (case c => k_is); (case k => k_is)
    have t__law_refused : L2.TopFn (L2.KOf KX) mg "_law_refused" K12.s__law_refused := by
      dsimp only [L2.KOf]
      refine' L2.topFn_mk KX G ?a ?l ?c ?k
      (case a => k_is); (case l => k_is); (case c => k_is); (case k => k_is)
    have t__law_numbers : L2.TopFn (L2.KOf KX) mg "_law_numbers" K12.s__law_numbers := by
      dsimp only [L2.KOf]
      refine' L2.topFn_mk KX G ?a ?l ?c ?k
      (case a => k_is); (case l => k_is); (case c => k_is); (case k => k_is)
    have t__law_signs : L2.TopFn (L2.KOf KX) mg "_law_signs" K12.s__law_signs := by
      dsimp only [L2.KOf]
      refine' L2.topFn_mk KX G ?a ?l ?c ?k
      (case a => k_is); (case l => k_is); (case c => k_is); (case k => k_is)
    have t__law_rounds : L2.TopFn (L2.KOf KX) mg "_law_rounds" K12.s__law_rounds := by
      dsimp only [L2.KOf]
      refine' L2.topFn_mk KX G ?a ?l ?c ?k
      (case a => k_is); (case l => k_is); (case c => k_is); (case k => k_is)
    have t__law_bad : L2.TopFn (L2.KOf KX) mg "_law_bad" K12.s__law_bad := by
      dsimp only [L2.KOf]
      refine' L2.topFn_mk KX G ?a ?l ?c ?k
      (case a => k_is); (case l => k_is); (case c => k_is); (case k => k_is)
    have t_law : L2.TopFn (L2.KOf KX) mg "law" K12.s_law := by
      dsimp only [L2.KOf]
      refine' L2.topFn_mk KX G ?a ?l ?c ?k
      (case a => k_is); (case l => k_is); (case c => k_is); (case k => k_is)
    have z_ValueError : mg "ValueError" = none := by
      refine' PySem.W.mg_none_of KX G ?a
      (case a => k_is)
    have z_abs : mg "abs" = none := by
      refine' PySem.W.mg_none_of KX G ?a
      (case a => k_is)
    have z_all : mg "all" = none := by
      refine' PySem.W.mg_none_of KX G ?a
      (case a => k_is)
    have z_bool : mg "bool" = none := by
      refine' PySem.W.mg_none_of KX G ?a
      (case a => k_is)
    have z_int : mg "int" = none := by
      refine' PySem.W.mg_none_of KX G ?a
      (case a => k_is)
    have z_isinstance : mg "isinstance" = none := by
      refine' PySem.W.mg_none_of KX G ?a
      (case a => k_is)
    have z_len : mg "len" = none := by
      refine' PySem.W.mg_none_of KX G ?a
      (case a => k_is)
    have z_range : mg "range" = none := by
      refine' PySem.W.mg_none_of KX G ?a
      (case a => k_is)
    have z_str : mg "str" = none := by
      refine' PySem.W.mg_none_of KX G ?a
      (case a => k_is)
    have z_tuple : mg "tuple" = none := by
      refine' PySem.W.mg_none_of KX G ?a
      (case a => k_is)
    have X0 : ∃ ad, K12.Exc (L2.KOf KX) mg ad := by
      dsimp only [L2.KOf]
      refine' ⟨_, K12.exc_mk KX G ?m_BenchError ?m_NoNumber ?m_NoText ?m_NoTable ?m_NoBox ?m_NoStock ?m_NoWish ?m_NoRow ?m_Unknown ?m_NoBench ?m_Reader ?m_GAP ?z_GAP ?m_GLASS ?z_GLASS ?m_STOP ?z_STOP ?m_MOST_PIECES ?m_FIGURES ?z_FIGURES ?m_MOST_FIGURES ?m_PARTED ?z_PARTED ?m_TIMES ?z_TIMES ?m_OPENED ?z_OPENED ?m_CLOSED ?z_CLOSED ?m_MOST_TIMES ?m_MOST_DEEP ?o_NoText ?o_NoNumber ?x_NoText_BenchError ?x_NoNumber_NoNumber ?k_NoText_NoText ?k_NoText_ValueError ?k_NoText_NoNumber ?k_NoText_NoBench ?k_NoText_NoTable ?k_NoText_NoBox ?k_NoText_NoStock ?k_NoText_NoWish ?k_NoText_NoRow ?k_NoText_Unknown ?ecl_NoText ?ega_NoText ?egt_NoText ?eha_NoText ?ehn_NoText ?eht_NoText ?ehm_NoText ?ehb_NoText ?pg_Reader ?hd_Reader ?po_Reader ?sa_Reader ?mk_Reader_init ?a_Reader_init ?fn_Reader_init ?kc_Reader_init ?l_Reader_init ?c_Reader_init ?kp_Reader_init ?a_Reader_is_done ?fn_Reader_is_done ?kp_Reader_is_done ?l_Reader_is_done ?c_Reader_is_done ?a_Reader_take ?fn_Reader_take ?kp_Reader_take ?l_Reader_take ?c_Reader_take ?a_Reader_take_if ?fn_Reader_take_if ?kp_Reader_take_if ?l_Reader_take_if ?c_Reader_take_if ?n_Reader_words ?n_Reader_place⟩
      (case m_BenchError => k_is); (case m_NoNumber => k_is); (case m_NoText => k_is); (case m_NoTable => k_is); (case m_NoBox => k_is); (case m_NoStock => k_is); (case m_NoWish => k_is); (case m_NoRow => k_is); (case m_Unknown => k_is); (case m_NoBench => k_is); (case m_Reader => k_is); (case m_GAP => k_is); (case z_GAP => decide); (case m_GLASS => k_is); (case z_GLASS => decide); (case m_STOP => k_is); (case z_STOP => decide); (case m_MOST_PIECES => k_is); (case m_FIGURES => k_is); (case z_FIGURES => decide); (case m_MOST_FIGURES => k_is); (case m_PARTED => k_is); (case z_PARTED => decide); (case m_TIMES => k_is); (case z_TIMES => decide); (case m_OPENED => k_is); (case z_OPENED => decide); (case m_CLOSED => k_is); (case z_CLOSED => decide); (case m_MOST_TIMES => k_is); (case m_MOST_DEEP => k_is); (case o_NoText => k_exc); (case o_NoNumber => k_exc); (case x_NoText_BenchError => kts_exm); (case x_NoNumber_NoNumber => kts_exm); (case k_NoText_NoText => kit_is); (case k_NoText_ValueError => kit_is); (case k_NoText_NoNumber => kit_is); (case k_NoText_NoBench => kit_is); (case k_NoText_NoTable => kit_is); (case k_NoText_NoBox => kit_is); (case k_NoText_NoStock => kit_is); (case k_NoText_NoWish => kit_is); (case k_NoText_NoRow => kit_is); (case k_NoText_Unknown => kit_is); (case ecl_NoText => k_is); (case ega_NoText => k_is); (case egt_NoText => k_is); (case eha_NoText => k_is); (case ehn_NoText => k_is); (case eht_NoText => k_is); (case ehm_NoText => k_is); (case ehb_NoText => k_is); (case pg_Reader => k_is); (case hd_Reader => k_is); (case po_Reader => k_is); (case sa_Reader => k_is); (case mk_Reader_init => k_is); (case a_Reader_init => k_is); (case fn_Reader_init => k_is); (case kc_Reader_init => k_is); (case l_Reader_init => k_is); (case c_Reader_init => k_is); (case kp_Reader_init => k_is); (case a_Reader_is_done => k_is); (case fn_Reader_is_done => k_is); (case kp_Reader_is_done => k_is); (case l_Reader_is_done => k_is); (case c_Reader_is_done => k_is); (case a_Reader_take => k_is); (case fn_Reader_take => k_is); (case kp_Reader_take => k_is); (case l_Reader_take => k_is); (case c_Reader_take => k_is); (case a_Reader_take_if => k_is); (case fn_Reader_take_if => k_is); (case kp_Reader_take_if => k_is); (case l_Reader_take_if => k_is); (case c_Reader_take_if => k_is); (case n_Reader_words => k_is); (case n_Reader_place => k_is)
    obtain ⟨ad, X0⟩ := X0
    obtain ⟨fd, FL, bL⟩ := K12.law_fd t_law hmg
    exact ⟨fd, bL, fun base _ _ => L2.FnB.ok (K12.ok_law ⟨X0, z_ValueError, z_abs, z_all, z_bool, z_int, z_isinstance, z_len, z_range, z_str, z_tuple, t_is_whole, t_common_divisor, t_is_ratio, t_is_less, t_show_ratio, t_read_part_figures, t_read_ratio, t_is_piece, t_words_of, t_read_number, t_read_times, t_read_round, t_read_part_texts, t_read_parts, t_count_of, t_told_out, t_read_bench, t__law_cell_at, t__law_drawn, t__law_draw, t__law_low, t__law_under, t__law_part, t__law_piece, t__law_written, t__law_shown, t__law_piece_text, t__law_text, t__law_kinds, t__law_refused, t__law_numbers, t__law_signs, t__law_rounds, t__law_bad⟩ FL)⟩
#print axioms PySem.Challenge.cw_grindbench_k12_texts_of_no_bench_holds
