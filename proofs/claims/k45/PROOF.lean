import PyProof.Rows.All
import Wide.All
import OpenK.AllK
import Wide.FinOn
import Lean
import PyProof.EqAt
import PyProof.EqKinds
import PyProof.TupleCall
import PySem.Challenge.RW_grindbench_k45_within_and_size_by_hand
set_option Elab.async false
set_option linter.all false
set_option maxRecDepth 100000
set_option maxHeartbeats 1000000
namespace L2
open PySem PySem.Spec PyProof.Rows
abbrev Key := Sum Int Str
def keyIs : Key → Value → Bool
  | .inl k, v => Value.isInt k v
  | .inr x, v => Value.isStrOf x v
def keyH (w : World) : Key → Int
  | .inl k => hashInt k
  | .inr x => hashStr w x
theorem keyIs_shape : ∀ {k : Key} {v : Value}, keyIs k v = true → (∃ i t, k = Sum.inl i ∧ v = Value.int i t) ∨ (∃ x t, k = Sum.inr x ∧ v = Value.str x t)
  | .inl i, v, h => by
    obtain ⟨t, e⟩ := Value.isInt_shape (k := i) (v := v) h
    exact .inl ⟨i, t, rfl, e⟩
  | .inr x, v, h => by
    obtain ⟨t, e⟩ := Value.isStrOf_shape (x := x) (v := v) h
    exact .inr ⟨x, t, rfl, e⟩
theorem key_ll (a b : Int) : decide ((Sum.inl a : Key) = Sum.inl b) = (a == b) := by
  by_cases e : a = b
  · subst e; simp
  · have h : ¬ (Sum.inl a : Key) = Sum.inl b := fun q => e (Sum.inl.inj q)
    rw [decide_eq_false h]
    exact (beq_eq_false_iff_ne.mpr e).symm
theorem key_rr (a b : Str) : decide ((Sum.inr a : Key) = Sum.inr b) = decide (a = b) := by
  by_cases e : a = b
  · subst e; simp
  · have h : ¬ (Sum.inr a : Key) = Sum.inr b := fun q => e (Sum.inr.inj q)
    rw [decide_eq_false h, decide_eq_false e]
theorem key_lr (a : Int) (b : Str) : decide ((Sum.inl a : Key) = Sum.inr b) = false := decide_eq_false (fun q => nomatch q)
theorem key_rl (a : Str) (b : Int) : decide ((Sum.inr a : Key) = Sum.inl b) = false := decide_eq_false (fun q => nomatch q)
def mixKind (prog : Program) (w : World) : PySem.KeyKind prog w Key where
  is := keyIs
  hash := keyH w
  inj := fun v a b ha hb => by
    rcases keyIs_shape ha with ⟨i, t, rfl, rfl⟩ | ⟨x, t, rfl, rfl⟩
    · rcases keyIs_shape hb with ⟨j, u, rfl, e⟩ | ⟨y, u, rfl, e⟩
      · injection e with e1 _; rw [e1]
      · exact nomatch e
    · rcases keyIs_shape hb with ⟨j, u, rfl, e⟩ | ⟨y, u, rfl, e⟩
      · exact nomatch e
      · injection e with e1 _; rw [e1]
  byValue := fun k v h => by
    rcases keyIs_shape h with ⟨i, t, rfl, rfl⟩ | ⟨x, t, rfl, rfl⟩ <;> rfl
  pyHash := fun hv h => by
    rcases keyIs_shape hv with ⟨i, t, rfl, rfl⟩ | ⟨x, t, rfl, rfl⟩
    · exact wpAny_pyHash_int h
    · exact wpAny_pyHash_str h
  eqBool := fun hu hv h => by
    rcases keyIs_shape hu with ⟨i, t, rfl, rfl⟩ | ⟨x, t, rfl, rfl⟩
    · rcases keyIs_shape hv with ⟨j, u, rfl, rfl⟩ | ⟨y, u, rfl, rfl⟩
      · rw [key_ll] at h; exact wpAny_eqBool_int h
      · rw [key_lr] at h; exact SeqAt.EqAt.int_str i t y u _ _ _ _ h
    · rcases keyIs_shape hv with ⟨j, u, rfl, rfl⟩ | ⟨y, u, rfl, rfl⟩
      · rw [key_rl] at h; exact SeqAt.EqAt.str_int x t j u _ _ _ _ h
      · rw [key_rr] at h; exact wpAny_eqBool_str h
  «strs» := fun k x t v h => by
    rcases keyIs_shape h with ⟨i, u, rfl, e⟩ | ⟨y, u, rfl, e⟩
    · exact nomatch e
    · injection e with e1 _
      subst e1
      cases v <;> rfl
end L2
namespace L2
open PySem PySem.Spec PyProof.Rows
inductive V where
  | non | bl (b : Bool) | int (i : Int) | str (x : Str) | byt (b : Array UInt8) | flt (b : UInt64) | ref (a : Addr) | ty (n : String)
  deriving DecidableEq
def RelV : V → Value → Prop
  | .non, u => u = Value.none
  | .bl b, u => u = Value.bool b
  | .int i, u => ∃ t, u = Value.int i t
  | .str x, u => ∃ t, u = Value.str x t
  | .byt b, u => ∃ t, u = Value.bytes b t
  | .flt b, u => ∃ t, u = Value.float b t
  | .ref a, u => u = Value.ref a
  | .ty n, u => u = Value.type n
abbrev Vals : List V → List Value → Prop := Paired RelV
theorem Vals.length {xs : List V} {us : List Value} (r : Vals xs us) : xs.length = us.length := Paired.length r
theorem Vals.get : ∀ {xs : List V} {us : List Value} {i : Nat} {x : V}, Vals xs us → xs[i]? = some x → ∃ u, us[i]? = some u ∧ RelV x u
  | _, _, _, _, .nil, e => by simp at e
  | _, _, 0, _, .cons r _, e => by simp at e; subst e; exact ⟨_, rfl, r⟩
  | _, _, i + 1, x, .cons _ t, e => by
    obtain ⟨u, h1, h2⟩ := Vals.get (i := i) (x := x) t (by simpa using e)
    exact ⟨u, by simpa using h1, h2⟩
theorem Vals.append : ∀ {xs ys : List V} {us ws : List Value}, Vals xs us → Vals ys ws → Vals (xs ++ ys) (us ++ ws)
  | _, _, _, _, .nil, s => s
  | _, _, _, _, .cons r t, s => .cons r (Vals.append t s)
theorem Vals.take : ∀ {xs : List V} {us : List Value} (n : Nat), Vals xs us → Vals (xs.take n) (us.take n)
  | _, _, 0, _ => .nil
  | _, _, _ + 1, .nil => .nil
  | _, _, n + 1, .cons r t => .cons r (Vals.take n t)
theorem Vals.drop : ∀ {xs : List V} {us : List Value} (n : Nat), Vals xs us → Vals (xs.drop n) (us.drop n)
  | _, _, 0, r => r
  | _, _, _ + 1, .nil => .nil
  | _, _, n + 1, .cons _ t => Vals.drop n t
def RelO : Option V → Option Value → Prop
  | some v, some u => RelV v u
  | none, none => True
  | _, _ => False
def KV {κ : Type} : List (κ × V) → List (κ × Value) → Prop := Paired fun (p : κ × V) (q : κ × Value) => p.1 = q.1 ∧ RelV p.2 q.2
def kV : Key → V
  | .inl i => .int i
  | .inr x => .str x
inductive HO where
  /-- a list -/
  | lst (xs : List V)
  /-- a tuple (never changes) -/
  | tup (xs : List V)
  /-- a dict whose keys are ints and texts; one whose keys are tuples of ints and texts (the empty one is both) -/
  | dK (kvs : List (Key × V)) | dT (kvs : List (List Key × V))
  /-- a set of ints: its members, its size -/
  | set (S : Int → Bool) (n : Nat)
  /-- an instance of the class at C, its dict at dx, its attributes -/
  | ins (C dx : Addr) (fs : List (Str × V))
  /-- the dict of the instance at x -/
  | own (x : Addr)
  /-- the dict of an exception -/
  | xd (fs : List (Str × V))
  /-- a bound method, f of x -/
  | met (f x : Addr)
  /-- a range object lo, lo + 1, .. below hi -/
  | rng (lo hi : Int)
  /-- a thing that is known to the object (the script; a dict while a loop walks it): read, never written while it is so -/
  | frz (o : Obj) (u : HO)
  /-- a code object's table -/
  | tbl (ps : Array Value)
  /-- any other thing, by what is true of its one object (a def of one's own: SetO a S n := HO.ext fun h => ..) -/
  | ext (φ : Heap → Prop)
abbrev Hp := Addr → Option HO
def upd (H : Hp) (a : Addr) (o : HO) : Hp := fun b => if b = a then some o else H b
theorem upd_same {H : Hp} {a : Addr} {o : HO} : upd H a o a = some o := by unfold upd; rw [if_pos rfl]
theorem upd_ne {H : Hp} {a b : Addr} {o : HO} (h : b ≠ a) : upd H a o b = H b := by unfold upd; rw [if_neg h]
theorem ne_of_none {H : Hp} {a b : Addr} {o : HO} (h : H a = some o) (h' : H b = none) : a ≠ b := by
  intro e; subst e; rw [h] at h'; cases h'
section
variable (P : Program) (w : World)
def ObjOk (H : Hp) (h : Heap) (a : Addr) : HO → Prop
  | .lst xs => xs.length ≤ sizeLine ∧ ∃ (its : List Value) (n : Nat), Vals xs its ∧ h.get? a = some { cls := .type "list", data := .seq its.toArray n }
  | .tup xs => xs.length ≤ sizeLine ∧ ∃ its : List Value, Vals xs its ∧ IsTup h a its.toArray
  | .dK kvs => kvs.length ≤ sizeLine ∧ (a == sysModules) = false ∧ ∃ vs, KV kvs vs ∧ h.DictOf (mixKind P w) a vs
  | .dT kvs => kvs.length ≤ sizeLine ∧ (a == sysModules) = false ∧ ∃ xs : List (List Key × Addr × Value),
      Paired (fun (p : List Key × V) (q : List Key × Addr × Value) => p.1 = q.1 ∧ H q.2.1 = some (.tup (p.1.map kV)) ∧ RelV p.2 q.2.2) kvs xs ∧
      ∃ o es ep, h.get? a = some o ∧ o.ExactDict ∧ o.data = .dict es ep ∧ es.toList = xs.map (entryOfKey (tupleKind (mixKind P w))) ∧ (xs.map (·.1)).Nodup
  | .set S n => h.SetOf (intKind P w) a S n
  | .ins C dx fs => H dx = some (.own a) ∧ fs.length ≤ 1000 ∧ dx ≠ a ∧ h.get? a = some (PySem.W.instObj C dx) ∧
      ∃ mA, h.Ns1 dx mA ∧ (∀ f, RelO (fs.lookup f) (mA f)) ∧ PySem.Within mA (fs.map (·.1))
  | .own _ => ∃ o, h.get? a = some o
  | .xd fs => ∃ mA, h.Ns1 a mA ∧ ∀ f, RelO (fs.lookup f) (mA f)
  | .rng lo hi => ∃ t u v, h.get? a = some { cls := .type "range", data := .fields #[.int lo t, .int hi u, .int 1 v] }
  | .frz o u => h.get? a = some o ∧ ObjOk H h a u
  | .tbl ps => h.get? a = some { cls := .none, data := .fields ps }
  | .met f x => h.get? a = some (PySem.W.methodObj (.ref f) (.ref x))
  | .ext φ => φ h ∧ (∃ o, h.get? a = some o) ∧ ∀ h1 h2 : Heap, φ h1 → (∀ o, h1.get? a = some o → h2.get? a = some o) → φ h2
def HOk (H : Hp) (h : Heap) : Prop := ∀ a o, H a = some o → ObjOk P w H h a o
end
section
variable {P : Program} {w : World} {H H' : Hp} {h h' : Heap} {a : Addr} {o : HO}
theorem ObjOk.lt (x : ObjOk P w H h a o) : a < h.objs.size := by
  cases o with
  | lst xs => obtain ⟨_, _, _, _, e⟩ := x; exact Heap.lt_size e
  | tup xs => obtain ⟨_, _, _, p⟩ := x; exact p.lt
  | dK kvs => obtain ⟨_, _, _, _, o, _, _, e, _⟩ := x; exact Heap.lt_size e
  | dT kvs => obtain ⟨_, _, _, _, o, _, _, e, _⟩ := x; exact Heap.lt_size e
  | set S n => obtain ⟨o, _, _, _, e, _⟩ := x; exact Heap.lt_size e
  | ins C dx fs => obtain ⟨_, _, _, e, _⟩ := x; exact Heap.lt_size e
  | own y => obtain ⟨_, e⟩ := x; exact Heap.lt_size e
  | xd fs => obtain ⟨_, ⟨_, _, _, e, _⟩, _⟩ := x; exact Heap.lt_size e
  | rng lo hi => obtain ⟨_, _, _, e⟩ := x; exact Heap.lt_size e
  | frz ob u => obtain ⟨e, _⟩ := x; exact Heap.lt_size e
  | tbl ps => exact Heap.lt_size (show h.get? a = some _ from x)
  | met f y => exact Heap.lt_size (show h.get? a = some _ from x)
  | ext φ => obtain ⟨_, ⟨_, e⟩, _⟩ := x; exact Heap.lt_size e
theorem Paired.mapP {α β : Type} {F G : α → β → Prop} : ∀ {l₁ : List α} {l₂ : List β}, Paired F l₁ l₂ → (∀ a b, F a b → G a b) → Paired G l₁ l₂
  | _, _, .nil, _ => .nil
  | _, _, .cons r t, f => .cons (f _ _ r) (Paired.mapP t f)
theorem ObjOk.stay (x : ObjOk P w H h a o) (k : ∀ b u, (b = a ∨ H b = some (.own a)) → h.get? b = some u → h'.get? b = some u)
    (ho : ∀ b, H b = some (.own a) → H' b = some (.own a)) (ht : ∀ b xs, H b = some (.tup xs) → H' b = some (.tup xs)) : ObjOk P w H' h' a o := by
  induction o with
  | lst xs => obtain ⟨z, its, n, r, e⟩ := x; exact ⟨z, its, n, r, k _ _ (.inl rfl) e⟩
  | tup xs => obtain ⟨z, its, r, ob, e, c⟩ := x; exact ⟨z, its, r, ob, k _ _ (.inl rfl) e, c⟩
  | dK kvs => obtain ⟨z, y, vs, r, ob, es, ep, e, c⟩ := x; exact ⟨z, y, vs, r, ob, es, ep, k _ _ (.inl rfl) e, c⟩
  | dT kvs =>
    obtain ⟨z, y, xs, r, ob, es, ep, e, c⟩ := x
    exact ⟨z, y, xs, Paired.mapP r fun p q z => ⟨z.1, ht _ _ z.2.1, z.2.2⟩, ob, es, ep, k _ _ (.inl rfl) e, c⟩
  | set S n => obtain ⟨ob, es, ep, t, e, c⟩ := x; exact ⟨ob, es, ep, t, k _ _ (.inl rfl) e, c⟩
  | ins C dx fs =>
    obtain ⟨d, z, ne, e, mA, ⟨od, es, ep, e2, c⟩, r⟩ := x
    exact ⟨ho _ d, z, ne, k _ _ (.inl rfl) e, mA, ⟨od, es, ep, k _ _ (.inr d) e2, c⟩, r⟩
  | own y => obtain ⟨ob, e⟩ := x; exact ⟨ob, k _ _ (.inl rfl) e⟩
  | xd fs => obtain ⟨mA, ⟨od, es, ep, e, c⟩, r⟩ := x; exact ⟨mA, ⟨od, es, ep, k _ _ (.inl rfl) e, c⟩, r⟩
  | rng lo hi => obtain ⟨t, u, v, e⟩ := x; exact ⟨t, u, v, k _ _ (.inl rfl) e⟩
  | frz ob u ih => obtain ⟨e, q⟩ := x; exact ⟨k _ _ (.inl rfl) e, ih q⟩
  | tbl ps =>
    have e : h.get? a = some { cls := .none, data := .fields ps } := x
    show h'.get? a = some { cls := .none, data := .fields ps }
    exact k a _ (.inl rfl) e
  | met f y =>
    have e : h.get? a = some (PySem.W.methodObj (.ref f) (.ref y)) := x
    show h'.get? a = some (PySem.W.methodObj (.ref f) (.ref y))
    exact k a _ (.inl rfl) e
  | ext φ => obtain ⟨p, ⟨o, e⟩, st⟩ := x; exact ⟨st _ _ p fun o q => k _ _ (.inl rfl) q, ⟨o, k _ _ (.inl rfl) e⟩, st⟩
theorem HOk.lt (x : HOk P w H h) (e : H a = some o) : a < h.objs.size := (x a o e).lt
theorem HOk.fresh (x : HOk P w H h) (e : h.objs.size ≤ a) : H a = none := by
  cases q : H a with
  | none => rfl
  | some u => exact absurd (Nat.lt_of_lt_of_le (x.lt q) e) (Nat.lt_irrefl _)
theorem HOk.kept (x : HOk P w H h) (k : ∀ b u, h.get? b = some u → h'.get? b = some u) : HOk P w H h' := fun a o e =>
  (x a o e).stay (fun b u _ q => k b u q) (fun _ q => q) fun _ _ q => q
theorem HOk.laid (x : HOk P w H h) (k : ∀ b u, h.get? b = some u → h'.get? b = some u) (hp : h.objs.size ≤ a) (new : ObjOk P w (upd H a o) h' a o) : HOk P w (upd H a o) h' := fun b u e => by
  have hn := x.fresh hp
  by_cases hb : b = a
  · subst hb; rw [upd_same] at e; cases e; exact new
  · rw [upd_ne hb] at e
    exact (x b u e).stay (fun c v _ q => k c v q) (fun c q => by rw [upd_ne (ne_of_none q hn)]; exact q) fun c xs q => by rw [upd_ne (ne_of_none q hn)]; exact q
end
def Rd (H : Hp) (a : Addr) (u : HO) : Prop := H a = some u ∨ ∃ o, H a = some (.frz o u)
theorem Rd.ok {P : Program} {w : World} {H : Hp} {h : Heap} {a : Addr} {u : HO} (r : Rd H a u) (x : HOk P w H h) : ObjOk P w H h a u := by
  rcases r with r | ⟨o, r⟩
  · exact x a u r
  · obtain ⟨_, q⟩ := x a _ r
    exact q
structure Un (fs ex : List Addr) (H H' : Hp) (h h' : Heap) : Prop where
  keep : ∀ b o, h.get? b = some o → H b = none → b ∉ fs → b ∉ ex → h'.get? b = some o
  slot : ∀ b o, h.get? b = some o → H b = none → b ∈ fs → b ∉ ex → ∃ sl, h'.get? b = some { o with slots := sl }
  free : ∀ b o, h.get? b = some o → H b = none → b ∉ ex → H' b = none
  there : ∀ b o, h.get? b = some o → b ∉ ex → ∃ o', h'.get? b = some o'
  tups : ∀ b xs, H b = some (.tup xs) → H' b = some (.tup xs)
  frzs : ∀ b o u, H b = some (.frz o u) → H' b = some (.frz o u)
  tbls : ∀ b ps, H b = some (.tbl ps) → ∃ more, H' b = some (.tbl (ps ++ more))
section
variable {fs fs' ex ex' : List Addr} {H H1 H2 : Hp} {h h1 h2 h' : Heap} {a x e : Addr} {o : HO}
theorem Un.any (u : Un fs ex H H1 h h1) {b : Addr} {ob : Obj} (q : h.get? b = some ob) (n : H b = none) (hx : b ∉ ex) : ∃ sl, h1.get? b = some { ob with slots := sl } := by
  by_cases hb : b ∈ fs
  · exact u.slot b ob q n hb hx
  · exact ⟨ob.slots, u.keep b ob q n hb hx⟩
theorem Un.kept (k : ∀ b u, h.get? b = some u → h'.get? b = some u) : Un fs ex H H h h' :=
  ⟨fun b ob q _ _ _ => k b ob q, fun b ob q _ _ _ => ⟨ob.slots, k b ob q⟩, fun _ _ _ n _ => n, fun b ob q _ => ⟨ob, k b ob q⟩, fun _ _ q => q, fun _ _ _ q => q, fun _ ps q => ⟨#[], by rw [q]; simp⟩⟩
theorem Un.refl : Un fs ex H H h h := Un.kept fun _ _ q => q
theorem Un.laid (k : ∀ b u, h.get? b = some u → h'.get? b = some u) (hp : h.objs.size ≤ a) (hn : H a = none) : Un fs ex H (upd H a o) h h' where
  keep := fun b u q _ _ _ => k b u q
  slot := fun b u q _ _ _ => ⟨u.slots, k b u q⟩
  free := fun b u q n _ => by rw [upd_ne (Nat.ne_of_lt (Nat.lt_of_lt_of_le (Heap.lt_size q) hp))]; exact n
  there := fun b u q _ => ⟨u, k b u q⟩
  tups := fun b xs q => by rw [upd_ne (ne_of_none q hn)]; exact q
  frzs := fun b u xs q => by rw [upd_ne (ne_of_none q hn)]; exact q
  tbls := fun b ps q => ⟨#[], by rw [upd_ne (ne_of_none q hn), q]; simp⟩
end
def trk (h : Heap) (H : Hp) : List Addr := (List.range h.objs.size).filter fun a => (H a).isSome
def hidT (h : Heap) (H : Hp) : Heap := PySem.W.hideAll h (trk h H)
theorem hidT_size (h : Heap) (H : Hp) : (hidT h H).objs.size = h.objs.size := PySem.W.hideAll_size _ _
theorem hidT_get {h : Heap} {H : Hp} {b : Addr} {o : Obj} (e : h.get? b = some o) (n : H b = none) : (hidT h H).get? b = some o :=
  PySem.W.hideAll_get _ e fun hm => by
    have q : (H b).isSome = true := (List.mem_filter.mp hm).2
    rw [n] at q; simp at q
theorem of_hidT {h : Heap} {H : Hp} {b : Addr} {o : Obj} (e : (hidT h H).get? b = some o) : h.get? b = some o ∧ H b = none := by
  have e' : h.get? b = some o := PySem.W.of_hideAll (trk h H) e
  refine ⟨e', ?_⟩
  cases q : H b with
  | none => rfl
  | some x =>
    have hm : b ∈ trk h H := List.mem_filter.mpr ⟨List.mem_range.mpr (Heap.lt_size e'), by simp [q]⟩
    have z : (hidT h H).get? b = none := PySem.W.hideAll_none (trk h H) hm
    rw [z] at e; cases e
end L2
namespace L2
open PySem PySem.Spec PyProof.Rows
structure Mod (K : PySem.W.Frag) (mg : Str → Option Value) (base : Heap) : Prop where
  kin : K.In base
  glob : base.Ns mainGlobals mg
  blt : ∃ mb, base.Ns builtinsNs mb ∧ ∀ x : Str, x ≠ "__name__" → mb x = bootBuiltins x
  nolimit : base.NoLimit
structure Cx where
  prog : Program
  w : World
  K : PySem.W.Frag
  mg : Str → Option Value
  base : Heap
  A : Around
  N : List Str
  s₀ : Shared
  H₀ : Hp
  env : Env
  outer : List Env
  stack : List Env
  ex : List Addr
  fn : Str → Bool
  calm : Bool
  pn : List (Addr × Obj)
  xe : Value → Shared → Prop
def frs (l : List Env) : List Addr := l.filterMap (·.frame)
abbrev Cx.fs (X : Cx) : List Addr := frs X.outer
def Vis (sc : Scope) (x : Str) : Prop := sc.names.lookup x = some .local ∨ sc.names.lookup x = some .cell ∨ sc.names.lookup x = some .free
def Loc (sc : Scope) (x : Str) : Prop := sc.names.lookup x = some .local ∨ sc.names.lookup x = some .cell
def Look (env : Env) (h : Heap) (m : Str → Option Value) (x : Str) (u : Value) : Prop :=
  (env.kindOf x = some .local ∧ m x = some u) ∨ ((env.kindOf x = some .cell ∨ env.kindOf x = some .free) ∧ ∃ c, env.cells.lookup x = some c ∧ h.IsCell c (some u))
structure Cx.Ok (X : Cx) : Prop where
  mod : Mod X.K X.mg X.base
  kind : X.env.scope.kind = .function
  glob : X.env.globals = mainGlobals
  blt : X.env.builtins = builtinsNs
  above : X.s₀.heap.objs.size ≤ X.env.locals
  inj : ∀ x y c, X.env.cells.lookup x = some c → X.env.cells.lookup y = some c → x = y
  has : ∀ x, (X.env.kindOf x = some .cell ∨ X.env.kindOf x = some .free) → ∃ c, X.env.cells.lookup x = some c
  cab : ∀ x c, X.fn x = true → X.env.cells.lookup x = some c → X.s₀.heap.objs.size ≤ c
  hd : X.calm = true → X.A.handled = none
  frames : X.A.frames = some X.stack
  stk : X.stack = X.outer ∨ (X.stack = X.env :: X.outer ∧ X.env.frame = some X.env.locals)
  exf : ∀ b ∈ X.ex, b ≠ X.env.locals ∧ ∀ x c, X.env.cells.lookup x = some c → c ≠ b
  bs : ∀ b o, X.base.get? b = some o → X.s₀.heap.get? b = some o ∧ X.H₀ b = none
  bsz : X.base.objs.size ≤ X.s₀.heap.objs.size
  noex : ∀ b o, X.base.get? b = some o → b ∉ X.ex
  exfs : ∀ b ∈ X.ex, b ∉ X.fs
  funs : X.s₀.heap.FunFrames X.base X.outer
  frf : ∀ b ∈ X.fs, X.H₀ b = none
structure Inv (X : Cx) (pins : List (Addr × Obj)) (σ : List (Option V)) (H : Hp) (s : Shared) : Prop where
  ok : X.Ok
  os : s.os = X.s₀.os
  bare : AllBare s.gens
  base : Un X.fs X.ex X.H₀ H X.s₀.heap s.heap
  loc : ∃ m, s.heap.Ns X.env.locals m ∧ ∀ (i : Nat) (x : Str) (v : V), X.N[i]? = some x → σ[i]? = some (some v) → Vis X.env.scope x → ∃ u, RelV v u ∧ Look X.env s.heap m x u
  cell : ∀ x c, X.env.cells.lookup x = some c → ∃ v, s.heap.IsCell c v
  free : H X.env.locals = none
  freeC : ∀ x c, X.env.cells.lookup x = some c → H c = none
  pin : ∀ p ∈ X.pn ++ pins, s.heap.get? p.1 = some p.2 ∧ H p.1 = none ∧ p.1 ≠ X.env.locals ∧ p.1 ∉ X.fs ∧ ∀ v, p.2.data ≠ .cell v
  hok : HOk X.prog X.w H s.heap
  len : σ.length = X.N.length
section
variable {X : Cx} {pins : List (Addr × Obj)} {σ : List (Option V)} {H H' : Hp} {s : Shared} {h' : Heap}
theorem Cx.Ok.nofr (ok : X.Ok) {b : Addr} {o : Obj} (e : X.base.get? b = some o) : b ∉ X.fs := fun hb => by
  have := (ok.funs.mem hb).1
  rw [e] at this; cases this
theorem Inv.bs (I : Inv X pins σ H s) : ∀ b o, X.base.get? b = some o → s.heap.get? b = some o ∧ H b = none := fun b o e =>
  ⟨I.base.keep b o (I.ok.bs b o e).1 (I.ok.bs b o e).2 (I.ok.nofr e) (I.ok.noex b o e), I.base.free b o (I.ok.bs b o e).1 (I.ok.bs b o e).2 (I.ok.noex b o e)⟩
theorem Inv.bk (I : Inv X pins σ H s) : ∀ b o, X.base.get? b = some o → s.heap.get? b = some o := fun b o e => (I.bs b o e).1
theorem Inv.mod (I : Inv X pins σ H s) : Mod X.K X.mg X.base := I.ok.mod
theorem Inv.kIn (I : Inv X pins σ H s) : X.K.In s.heap := I.ok.mod.kin.keeps I.bk
theorem Inv.lt (I : Inv X pins σ H s) : X.env.locals < s.heap.objs.size := let ⟨_, hn, _⟩ := I.loc; hn.lt
theorem Inv.sz (I : Inv X pins σ H s) : X.s₀.heap.objs.size ≤ s.heap.objs.size := Nat.le_trans I.ok.above (Nat.le_of_lt I.lt)
theorem Inv.nofs (I : Inv X pins σ H s) {a : Addr} (h : s.heap.objs.size ≤ a) : a ∉ X.fs := fun hb => by
  obtain ⟨_, o, ho, _⟩ := I.ok.funs.mem hb
  exact absurd (Nat.lt_of_lt_of_le (Heap.lt_size ho) (Nat.le_trans I.sz h)) (Nat.lt_irrefl _)
theorem Inv.cne (I : Inv X pins σ H s) : ∀ x c, X.env.cells.lookup x = some c → c ≠ X.env.locals := fun x c e z => by
  obtain ⟨v, o, ho, hd⟩ := I.cell x c e
  obtain ⟨m, ⟨o', es, ep, ho', hd', _⟩, _⟩ := I.loc
  rw [z, ho'] at ho; cases ho; rw [hd'] at hd; cases hd
theorem Inv.funs (I : Inv X pins σ H s) : s.heap.FunFrames X.base X.outer := by
  have all : ∀ (l : List Env), (∀ b ∈ frs l, b ∈ X.fs) → X.s₀.heap.FunFrames X.base l → s.heap.FunFrames X.base l := by
    intro l
    induction l with
    | nil => intro _ _; trivial
    | cons env r ih =>
      intro hs hl
      obtain ⟨hk, ⟨L, o, hf, hn, ho, hd⟩, hr⟩ := hl
      have hL : L ∈ X.fs := hs L (by unfold frs; rw [List.filterMap_cons, hf]; exact List.mem_cons_self)
      obtain ⟨sl, e⟩ := I.base.slot L o ho (I.ok.frf L hL) hL fun z => I.ok.exfs L z hL
      exact ⟨hk, ⟨L, _, hf, hn, e, hd⟩, ih (fun b hb => hs b (by unfold frs; rw [List.filterMap_cons, hf]; exact List.mem_cons_of_mem _ hb)) hr⟩
  exact all X.outer (fun _ hb => hb) I.ok.funs
theorem Inv.stack (I : Inv X pins σ H s) : s.heap.FunFrames X.base X.stack := by
  rcases I.ok.stk with e | ⟨e, hf⟩
  · rw [e]; exact I.funs
  · rw [e]
    obtain ⟨m, hn, _⟩ := I.loc
    refine .cons (by rw [I.ok.kind]; decide) hf hn ?_ I.funs
    exact Heap.get?_none_of_le (Nat.le_trans I.ok.bsz I.ok.above)
theorem Inv.stkSub (I : Inv X pins σ H s) : ∀ b ∈ frs X.stack, b ∈ X.env.locals :: X.fs := fun b hb => by
  rcases I.ok.stk with e | ⟨e, hf⟩
  · rw [e] at hb; exact List.mem_cons_of_mem _ hb
  · rw [e] at hb
    unfold frs at hb
    rw [List.filterMap_cons, hf] at hb
    exact hb
theorem Inv.stkFree (I : Inv X pins σ H s) : ∀ b ∈ frs X.stack, H b = none := fun b hb => by
  rcases List.mem_cons.mp (I.stkSub b hb) with e | hb
  · rw [e]; exact I.free
  · obtain ⟨_, o, ho, _⟩ := I.ok.funs.mem hb
    exact I.base.free b o ho (I.ok.frf b hb) fun z => I.ok.exfs b z hb
theorem Inv.step {g' : Array GenState} {t' : Nat} {d' : Drawn} {ch : List Addr} (I : Inv X pins σ H s)
    (hch : ∀ b ∈ ch, (b ∈ X.ex ∨ X.s₀.heap.objs.size ≤ b) ∧ b ≠ X.env.locals ∧ (∀ x c, X.env.cells.lookup x = some c → c ≠ b) ∧ ∀ p ∈ X.pn ++ pins, p.1 ≠ b)
    (keep : ∀ b o, b ≠ X.env.locals → b ∉ X.fs → b ∉ ch → s.heap.get? b = some o → H b = none → h'.get? b = some o)
    (slot : ∀ b o, b ≠ X.env.locals → b ∈ X.fs → b ∉ ch → s.heap.get? b = some o → H b = none → ∃ sl, h'.get? b = some { o with slots := sl }) (free : ∀ b o, b ∉ ch → s.heap.get? b = some o → H b = none → H' b = none)
    (there : ∀ b o, b ∉ ch → s.heap.get? b = some o → ∃ o', h'.get? b = some o')
    (tups : ∀ b xs, H b = some (.tup xs) → H' b = some (.tup xs)) (frzs : ∀ b o u, H b = some (.frz o u) → H' b = some (.frz o u)) (tbls : ∀ b ps, H b = some (.tbl ps) → ∃ more, H' b = some (.tbl (ps ++ more)))
    (ns : ∀ m, s.heap.Ns X.env.locals m → h'.Ns X.env.locals m) (hok : HOk X.prog X.w H' h') (hg : AllBare g') :
    Inv X pins σ H' { s with heap := h', gens := g', drawn := d', toks := t' } := by
  have neL : ∀ b o, X.s₀.heap.get? b = some o → b ≠ X.env.locals := fun b o e => Nat.ne_of_lt (Nat.lt_of_lt_of_le (Heap.lt_size e) I.ok.above)
  have neC : ∀ b o, X.s₀.heap.get? b = some o → b ∉ X.ex → b ∉ ch := fun b o e hx hb => by
    rcases (hch b hb).1 with z | z
    · exact hx z
    · exact absurd (Nat.lt_of_lt_of_le (Heap.lt_size e) z) (Nat.lt_irrefl _)
  have cellK : ∀ x c, X.env.cells.lookup x = some c → ∀ v, s.heap.IsCell c v → h'.IsCell c v := fun x c e v ⟨o, ho, hd⟩ => by
    have nch : c ∉ ch := fun z => (hch c z).2.2.1 x c e rfl
    by_cases hc : c ∈ X.fs
    · obtain ⟨sl, q⟩ := slot c o (I.cne x c e) hc nch ho (I.freeC x c e)
      exact ⟨_, q, hd⟩
    · exact ⟨o, keep c o (I.cne x c e) hc nch ho (I.freeC x c e), hd⟩
  refine ⟨I.ok, I.os, hg, ⟨fun b o e n hb hx => ?_, fun b o e n hb hx => ?_, fun b o e n hx => ?_, fun b o e hx => ?_, fun b xs e => tups b xs (I.base.tups b xs e), fun b o xs e => frzs b o xs (I.base.frzs b o xs e), fun b ps e => ?_⟩, ?_, fun x c e => ?_, ?_, fun x c e => ?_, fun p hp => ?_, hok, I.len⟩
  · exact keep b o (neL b o e) hb (neC b o e hx) (I.base.keep b o e n hb hx) (I.base.free b o e n hx)
  · obtain ⟨sl, e1⟩ := I.base.slot b o e n hb hx
    obtain ⟨sl', e2⟩ := slot b _ (neL b o e) hb (neC b o e hx) e1 (I.base.free b o e n hx)
    exact ⟨sl', e2⟩
  · obtain ⟨o', e1⟩ := I.base.there b o e hx
    exact free b o' (neC b o e hx) e1 (I.base.free b o e n hx)
  · obtain ⟨o', e1⟩ := I.base.there b o e hx
    exact there b o' (neC b o e hx) e1
  · obtain ⟨m1, e1⟩ := I.base.tbls b ps e
    obtain ⟨m2, e2⟩ := tbls b _ e1
    exact ⟨m1 ++ m2, by rw [e2, Array.append_assoc]⟩
  · obtain ⟨m, hn, hl⟩ := I.loc
    refine ⟨m, ns m hn, fun i x v e1 e2 e3 => ?_⟩
    obtain ⟨u, r, l⟩ := hl i x v e1 e2 e3
    refine ⟨u, r, ?_⟩
    rcases l with l | ⟨k, c, e, z⟩
    · exact .inl l
    · exact .inr ⟨k, c, e, cellK x c e _ z⟩
  · obtain ⟨v, z⟩ := I.cell x c e
    exact ⟨v, cellK x c e v z⟩
  · obtain ⟨m, ⟨o, _, _, ho, _⟩, _⟩ := I.loc
    exact free _ o (fun z => (hch _ z).2.1 rfl) ho I.free
  · obtain ⟨v, o, ho, hd⟩ := I.cell x c e
    exact free c o (fun z => (hch c z).2.2.1 x c e rfl) ho (I.freeC x c e)
  · obtain ⟨e, n, ne, nf, d⟩ := I.pin p hp
    have nch : p.1 ∉ ch := fun z => (hch p.1 z).2.2.2 p hp rfl
    exact ⟨keep p.1 p.2 ne nf nch e n, free p.1 p.2 nch e n, ne, nf, d⟩
theorem Inv.un {t' : Nat} (I : Inv X pins σ H s) (u : Un X.fs [] H H' s.heap h') (hok : HOk X.prog X.w H' h') : Inv X pins σ H' { s with heap := h', toks := t' } := by
  obtain ⟨m, ⟨o, es, ep, ho, r⟩, _⟩ := id I.loc
  obtain ⟨sl, hL⟩ := u.any ho I.free (by simp)
  exact I.step (g' := s.gens) (d' := s.drawn) (ch := []) (fun _ z => nomatch z) (fun b o _ hb _ e n => u.keep b o e n hb (by simp)) (fun b o _ hb _ e n => u.slot b o e n hb (by simp)) (fun b o _ e n => u.free b o e n (by simp)) (fun b o _ e => u.there b o e (by simp)) u.tups u.frzs u.tbls (fun m' hm => by
    obtain ⟨o', es', ep', ho', r'⟩ := hm
    rw [ho] at ho'; cases ho'
    exact ⟨_, es', ep', hL, r'⟩) hok I.bare
theorem Inv.call {g' : Array GenState} {t' : Nat} {d' : Drawn} {ch : List Addr} (I : Inv X pins σ H s) (u : Un (frs X.stack) ch H H' s.heap h') (hok : HOk X.prog X.w H' h') (hg : AllBare g')
    (hch : ∀ b ∈ ch, (b ∈ X.ex ∨ X.s₀.heap.objs.size ≤ b) ∧ b ≠ X.env.locals ∧ (∀ x c, X.env.cells.lookup x = some c → c ≠ b) ∧ ∀ p ∈ X.pn ++ pins, p.1 ≠ b) :
    Inv X pins σ H' { s with heap := h', gens := g', drawn := d', toks := t' } := by
  obtain ⟨m, ⟨o, es, ep, ho, r⟩, _⟩ := id I.loc
  obtain ⟨sl, hL⟩ := u.any ho I.free fun z => (hch _ z).2.1 rfl
  exact I.step (ch := ch) hch (fun b o hL hb hc e n => u.keep b o e n (fun z => (List.mem_cons.mp (I.stkSub b z)).elim hL hb) hc) (fun b o _ _ hc e n => u.any e n hc) (fun b o hc e n => u.free b o e n hc) (fun b o hc e => u.there b o e hc) u.tups u.frzs u.tbls (fun m' hm => by
    obtain ⟨o', es', ep', ho', r'⟩ := hm
    rw [ho] at ho'; cases ho'
    exact ⟨_, es', ep', hL, r'⟩) hok hg
theorem Inv.turned {t' : Nat} {it : Addr} (I : Inv X pins σ H s) (k : ∀ b o, b ≠ it → s.heap.get? b = some o → h'.get? b = some o) (hn : H it = none) (hL : it ≠ X.env.locals)
    (h1 : it ∈ X.ex ∨ X.s₀.heap.objs.size ≤ it) (h2 : ∀ x c, X.env.cells.lookup x = some c → c ≠ it) (h3 : ∀ p ∈ X.pn ++ pins, p.1 ≠ it) : Inv X pins σ H { s with heap := h', toks := t' } := by
  have nit : ∀ b u, H b = some u → b ≠ it := fun b u e z => by rw [z, hn] at e; cases e
  refine I.step (g' := s.gens) (d' := s.drawn) (ch := [it]) (fun b hb => ?_) (fun b o _ _ hc e _ => k b o (fun z => hc (by simp [z])) e) (fun b o _ _ hc e _ => ⟨o.slots, k b o (fun z => hc (by simp [z])) e⟩) (fun _ _ _ _ n => n)
    (fun b o hc e => ⟨o, k b o (fun z => hc (by simp [z])) e⟩) (fun _ _ e => e) (fun _ _ _ e => e) (fun b ps e => ⟨#[], by rw [e]; simp⟩) (fun m hm => ?_) (fun b u e => ?_) I.bare
  · have e : b = it := by simpa using hb
    subst e
    exact ⟨h1, hL, h2, h3⟩
  · obtain ⟨o, es, ep, ho, r⟩ := hm
    exact ⟨o, es, ep, k _ o (Ne.symm hL) ho, r⟩
  · refine (I.hok b u e).stay (fun c v hc q => k c v ?_ q) (fun _ q => q) fun _ _ q => q
    rcases hc with z | z
    · rw [z]; exact nit b u e
    · exact nit c _ z
theorem Inv.tok (I : Inv X pins σ H s) (t : Nat) : Inv X pins σ H { s with toks := t } := I.un (h' := s.heap) (t' := t) Un.refl I.hok
theorem Inv.kept {t' : Nat} (I : Inv X pins σ H s) (k : ∀ b u, s.heap.get? b = some u → h'.get? b = some u) : Inv X pins σ H { s with heap := h', toks := t' } := I.un (Un.kept k) (I.hok.kept k)
theorem Inv.laid {a : Addr} {o : HO} {t' : Nat} (I : Inv X pins σ H s) (k : ∀ b u, s.heap.get? b = some u → h'.get? b = some u) (hp : s.heap.objs.size ≤ a) (new : ObjOk X.prog X.w (upd H a o) h' a o) :
    Inv X pins σ (upd H a o) { s with heap := h', toks := t' } := I.un (Un.laid k hp (I.hok.fresh hp)) (I.hok.laid k hp new)
theorem Inv.pins_of {pins' : List (Addr × Obj)} (I : Inv X pins σ H s) (h : ∀ p ∈ pins', s.heap.get? p.1 = some p.2 ∧ H p.1 = none ∧ p.1 ≠ X.env.locals ∧ p.1 ∉ X.fs ∧ ∀ v, p.2.data ≠ .cell v) : Inv X pins' σ H s :=
  ⟨I.ok, I.os, I.bare, I.base, I.loc, I.cell, I.free, I.freeC, fun p hp => (List.mem_append.mp hp).elim (fun z => I.pin p (List.mem_append_left _ z)) (h p), I.hok, I.len⟩
theorem nodup_ix {N : List Str} (hN : N.Nodup) {i j : Nat} {x : Str} (a : N[i]? = some x) (b : N[j]? = some x) : i = j := by
  obtain ⟨h1, e1⟩ := List.getElem?_eq_some_iff.mp a
  obtain ⟨h2, e2⟩ := List.getElem?_eq_some_iff.mp b
  exact (List.getElem_inj hN).mp (e1.trans e2.symm)
theorem store_ok2 {M : Model} {A : Around} {E : Value → Shared → Prop} {i : Nat} {x : Str} {v : V} {u : Value} {Q : Unit → Shared → Prop} (I : Inv X pins σ H s) (hN : X.N.Nodup) (hi : X.N[i]? = some x) (hx : Loc X.env.scope x) (r : RelV v u)
    (h : ∀ s', Inv X pins (σ.set i (some v)) H s' → (∃ a, Heap.SameBut a s.heap s'.heap ∧ (a = X.env.locals ∨ X.env.cells.lookup x = some a)) → Q () s') (hf : X.fn x = true ∨ X.env.scope.names.lookup x = some .local := by first | exact .inl rfl | exact .inr rfl | assumption) : wpAny M A (storeName X.env x u) Q E s := by
  obtain ⟨m, hn, hl⟩ := id I.loc
  have hcls : (X.env.scope.kind == .class || (X.env.scope.kind == .module && X.env.locals != X.env.globals)) = false := by rw [I.ok.kind]; rfl
  have hiσ : i < σ.length := by rw [I.len]; exact (List.getElem?_eq_some_iff.mp hi).1
  have cne := I.cne
  have tracked : ∀ {a : Addr} {h' : Heap}, (∃ o, s.heap.get? a = some o ∧ H a = none) → Heap.SameBut a s.heap h' → HOk X.prog X.w H h' := fun {a h'} ha hs b ob e => by
    obtain ⟨_, _, hfree⟩ := ha
    refine (I.hok b ob e).stay (fun c w' hc q => (hs.2 c ?_).trans q) (fun _ q => q) fun _ _ q => q
    rintro rfl
    rcases hc with rfl | hc
    · rw [hfree] at e; cases e
    · rw [hfree] at hc; cases hc
  rcases hx with hk | hk
  · refine wpAny_storeName_local hk hn (fun h' hn' hs => ?_) hcls
    obtain ⟨oL, _, _, hoL, _⟩ := id hn
    refine h _ ⟨I.ok, I.os, I.bare, ⟨fun b o e n hb hx => ?_, fun b o e n hb hx => ?_, I.base.free, fun b o e hx => ?_, I.base.tups, I.base.frzs, I.base.tbls⟩, ⟨_, hn', fun j y v' e1 e2 e3 => ?_⟩, fun y c e => ?_, I.free, I.freeC, fun p hp => ?_, tracked ⟨oL, hoL, I.free⟩ hs, by simpa using I.len⟩ ⟨_, hs, .inl rfl⟩
    · exact (hs.2 b (Nat.ne_of_lt (Nat.lt_of_lt_of_le (Heap.lt_size e) I.ok.above))).trans (I.base.keep b o e n hb hx)
    · obtain ⟨sl, e1⟩ := I.base.slot b o e n hb hx
      exact ⟨sl, (hs.2 b (Nat.ne_of_lt (Nat.lt_of_lt_of_le (Heap.lt_size e) I.ok.above))).trans e1⟩
    · obtain ⟨o', e1⟩ := I.base.there b o e hx
      exact ⟨o', (hs.2 b (Nat.ne_of_lt (Nat.lt_of_lt_of_le (Heap.lt_size e) I.ok.above))).trans e1⟩
    · by_cases hj : j = i
      · subst hj
        rw [hi] at e1; cases e1
        rw [List.getElem?_set_self hiσ] at e2
        cases e2
        exact ⟨u, r, .inl ⟨hk, by simp⟩⟩
      · rw [List.getElem?_set_ne (Ne.symm hj)] at e2
        obtain ⟨u', r', q⟩ := hl j y v' e1 e2 e3
        refine ⟨u', r', ?_⟩
        rcases q with ⟨k, e⟩ | ⟨k, c, e, z⟩
        · refine .inl ⟨k, ?_⟩
          have : y ≠ x := fun e => hj (nodup_ix hN e1 (e ▸ hi))
          simp [this, e]
        · exact .inr ⟨k, c, e, z.sameBut hs (cne y c e)⟩
    · obtain ⟨w', z⟩ := I.cell y c e
      exact ⟨w', z.sameBut hs (cne y c e)⟩
    · obtain ⟨e, n, ne, nf, d⟩ := I.pin p hp
      exact ⟨(hs.2 p.1 ne).trans e, n, ne, nf, d⟩
  · have hfn : X.fn x = true := by
      rcases hf with z | z
      · exact z
      · rw [z] at hk; cases hk
    obtain ⟨c, hc⟩ := I.ok.has x (.inl hk)
    obtain ⟨w', z⟩ := I.cell x c hc
    refine wpAny_storeName_cell I.ok.kind hk hc z (fun h' hc' hs => ?_)
    obtain ⟨oc, hoc, hocd⟩ := id z
    refine h { s with heap := h' } ⟨I.ok, I.os, I.bare, ⟨fun b o e n hb hx => ?_, fun b o e n hb hx => ?_, I.base.free, fun b o e hx => ?_, I.base.tups, I.base.frzs, I.base.tbls⟩, ⟨m, hn.sameBut hs (Ne.symm (cne x c hc)), fun j y v' e1 e2 e3 => ?_⟩, fun y c' e => ?_, I.free, I.freeC, fun p hp => ?_, tracked ⟨oc, hoc, I.freeC x c hc⟩ hs, by simpa using I.len⟩ ⟨c, hs, .inr hc⟩
    · exact (hs.2 b (Nat.ne_of_lt (Nat.lt_of_lt_of_le (Heap.lt_size e) (I.ok.cab x c hfn hc)))).trans (I.base.keep b o e n hb hx)
    · obtain ⟨sl, e1⟩ := I.base.slot b o e n hb hx
      exact ⟨sl, (hs.2 b (Nat.ne_of_lt (Nat.lt_of_lt_of_le (Heap.lt_size e) (I.ok.cab x c hfn hc)))).trans e1⟩
    · obtain ⟨o', e1⟩ := I.base.there b o e hx
      exact ⟨o', (hs.2 b (Nat.ne_of_lt (Nat.lt_of_lt_of_le (Heap.lt_size e) (I.ok.cab x c hfn hc)))).trans e1⟩
    · by_cases hj : j = i
      · subst hj
        rw [hi] at e1; cases e1
        rw [List.getElem?_set_self hiσ] at e2
        cases e2
        exact ⟨u, r, .inr ⟨.inl hk, c, hc, hc'⟩⟩
      · rw [List.getElem?_set_ne (Ne.symm hj)] at e2
        obtain ⟨u', r', q⟩ := hl j y v' e1 e2 e3
        refine ⟨u', r', ?_⟩
        rcases q with q | ⟨k, c', e, z'⟩
        · exact .inl q
        · refine .inr ⟨k, c', e, z'.sameBut hs ?_⟩
          rintro rfl
          exact hj (nodup_ix hN e1 (I.ok.inj _ _ _ e hc ▸ hi))
    · by_cases hcc : c' = c
      · subst hcc; exact ⟨_, hc'⟩
      · obtain ⟨w2, z2⟩ := I.cell y c' e
        exact ⟨w2, z2.sameBut hs hcc⟩
    · obtain ⟨e, n, ne, nf, d⟩ := I.pin p hp
      refine ⟨(hs.2 p.1 ?_).trans e, n, ne, nf, d⟩
      intro q
      rw [q, hoc] at e
      have q' : oc = p.2 := Option.some.inj e
      exact d w' (by rw [← q']; exact hocd)
theorem store_ok {M : Model} {A : Around} {E : Value → Shared → Prop} {i : Nat} {x : Str} {v : V} {u : Value} {Q : Unit → Shared → Prop} (I : Inv X pins σ H s) (hN : X.N.Nodup) (hi : X.N[i]? = some x) (hx : Loc X.env.scope x) (r : RelV v u)
    (h : ∀ s', Inv X pins (σ.set i (some v)) H s' → Q () s') (hf : X.fn x = true ∨ X.env.scope.names.lookup x = some .local := by first | exact .inl rfl | exact .inr rfl | assumption) : wpAny M A (storeName X.env x u) Q E s :=
  store_ok2 I hN hi hx r (fun s' I' _ => h s' I') hf
theorem Inv.call' {s' : Shared} {ch : List Addr} (I : Inv X pins σ H s) (ho : s'.os = s.os) (u : Un (frs X.stack) ch H H' s.heap s'.heap) (hok : HOk X.prog X.w H' s'.heap) (hg : AllBare s'.gens)
    (hch : ∀ b ∈ ch, (b ∈ X.ex ∨ X.s₀.heap.objs.size ≤ b) ∧ b ≠ X.env.locals ∧ (∀ x c, X.env.cells.lookup x = some c → c ≠ b) ∧ ∀ p ∈ X.pn ++ pins, p.1 ≠ b) : Inv X pins σ H' s' := by
  obtain ⟨h', g', d', t', o'⟩ := s'
  have e : o' = s.os := ho
  subst e
  exact I.call (g' := g') (t' := t') (d' := d') u hok hg hch
end
abbrev XK := Value → Option Addr → Hp → Prop
abbrev St := List (Option V)
abbrev VK := V → Hp → Prop
abbrev TE := St → Hp → VK → Prop
abbrev TT := St → Hp → (Bool → Hp → Prop) → Prop
abbrev TA := St → Hp → (List V → Hp → Prop) → Prop
structure Ends where
  nx : St → Hp → Prop
  rt : VK
  bk : St → Hp → Prop := fun _ _ => False
  ct : St → Hp → Prop := fun _ _ => False
abbrev TS := Ends → St → Hp → Prop
def EP (X : Cx) (pins : List (Addr × Obj)) (σ : St) (Q : VK) (u : Value) (s' : Shared) : Prop := ∃ v H', Inv X pins σ H' s' ∧ RelV v u ∧ Q v H'
def TP (X : Cx) (pins : List (Addr × Obj)) (σ : St) (Q : Bool → Hp → Prop) (b : Bool) (s' : Shared) : Prop := ∃ H', Inv X pins σ H' s' ∧ Q b H'
def AP (X : Cx) (pins : List (Addr × Obj)) (σ : St) (Q : List V → Hp → Prop) (us : List Value) (s' : Shared) : Prop := ∃ vs H', Inv X pins σ H' s' ∧ Vals vs us ∧ Q vs H'
def SP (X : Cx) (pins : List (Addr × Obj)) (D : Ends) (f : Flow) (s' : Shared) : Prop :=
  match f with
  | .next => ∃ σ' H', Inv X pins σ' H' s' ∧ D.nx σ' H'
  | .brk => ∃ σ' H', Inv X pins σ' H' s' ∧ D.bk σ' H'
  | .cont => ∃ σ' H', Inv X pins σ' H' s' ∧ D.ct σ' H'
  | .ret u => ∃ v σ' H', Inv X pins σ' H' s' ∧ RelV v u ∧ D.rt v H'
def PE (X : Cx) (e : Expr) (t : TE) : Prop :=
  ∀ (pins : List (Addr × Obj)) (s : Shared) (σ : St) (H : Hp) (Q : VK), Inv X pins σ H s → t σ H Q → wpAny (model X.prog X.w) X.A (eval e X.env) (EP X pins σ Q) X.xe s
def PT (X : Cx) (e : Expr) (t : TT) : Prop :=
  ∀ (pins : List (Addr × Obj)) (s : Shared) (σ : St) (H : Hp) (Q : Bool → Hp → Prop), Inv X pins σ H s → t σ H Q → wpAny (model X.prog X.w) X.A (isTrue e X.env (eval e X.env)) (TP X pins σ Q) X.xe s
def PW (X : Cx) (e : Expr) (t : TT) : Prop :=
  ∀ (whole : Sem Value) (pins : List (Addr × Obj)) (s : Shared) (σ : St) (H : Hp) (Q : Bool → Hp → Prop), Inv X pins σ H s → t σ H Q → wpAny (model X.prog X.w) X.A (isTrue e X.env whole) (TP X pins σ Q) X.xe s
theorem PW.pt {X : Cx} {e : Expr} {t : TT} (h : PW X e t) : PT X e t := h _
def PA (X : Cx) (es : List Expr) (t : TA) : Prop :=
  ∀ (pos : Pos) (pins : List (Addr × Obj)) (s : Shared) (σ : St) (H : Hp) (Q : List V → Hp → Prop), Inv X pins σ H s → t σ H Q → wpAny (model X.prog X.w) X.A (spliced (backTo pos (starEach es X.env))) (AP X pins σ Q) X.xe s
def PS (X : Cx) (st : Stmt) (t : TS) : Prop :=
  ∀ (pins : List (Addr × Obj)) (s : Shared) (σ : St) (H : Hp) (D : Ends), Inv X pins σ H s → t D σ H → wpAny (model X.prog X.w) X.A (exec st X.env) (SP X pins D) X.xe s
def PSs (X : Cx) (st : List Stmt) (t : TS) : Prop :=
  ∀ (pins : List (Addr × Obj)) (s : Shared) (σ : St) (H : Hp) (D : Ends), Inv X pins σ H s → t D σ H → wpAny (model X.prog X.w) X.A (execs st X.env) (SP X pins D) X.xe s
theorem thn {α : Type} {t : Sem α} {Q Q' : α → Shared → Prop} {M : Model} {A : Around} {E : Value → Shared → Prop} {s : Shared} (h : wpAny M A t Q E s) (hQ : ∀ a s, Q a s → Q' a s) : wpAny M A t Q' E s := wpAny_mono h hQ fun _ _ x => x
end L2
namespace L2
open PySem PySem.Spec PyProof.Rows
section
variable {X : Cx}
def tVar (i : Nat) : TE := fun σ H Q => ∃ v, σ[i]? = some (some v) ∧ Q v H
def tC (v : V) : TE := fun _ H Q => Q v H
theorem pe_var {i : Nat} {x : Str} {pos : Pos} (hN : X.N[i]? = some x) (hv : Vis X.env.scope x) (hd : (x == ("__debug__" : Str)) = false := by decide) (hcd : (x == ("__classdict__" : Str)) = false := by decide) : PE X (.Name x pos) (tVar i) := by
  intro pins s σ H Q I h
  obtain ⟨v, e, h⟩ := h
  obtain ⟨m, hn, hl⟩ := I.loc
  obtain ⟨u, r, l⟩ := hl i x v hN e hv
  have fin : EP X pins σ Q u s := ⟨v, H, I, r, h⟩
  rcases l with ⟨hk, hm⟩ | ⟨hk, c, hc, hcell⟩
  · exact wpAny_Name (wpAny_loadName_local I.ok.kind hk hn hm fin) hd
  · rcases hk with hk | hk
    · exact wpAny_Name (wpAny_loadName_cell I.ok.kind hk hc hcell fin) hd
    · exact wpAny_Name (wpAny_loadName_free I.ok.kind hk hc hcell fin hcd) hd
theorem pe_int {i j pos} : PE X (.Constant (.int i) j pos) (tC (.int i)) := fun _ _ _ H _ I h => wpAny_Constant_int ⟨.int i, H, I.tok _, ⟨_, rfl⟩, h⟩
theorem pe_bl {b j pos} : PE X (.Constant (.bool b) j pos) (tC (.bl b)) := fun _ _ _ H _ I h => Constant_bool ⟨.bl b, H, I, rfl, h⟩
def Gl (X : Cx) (x : Str) : Prop := X.env.kindOf x = some .globalImplicit
theorem ld_glob {E : Value → Shared → Prop} {pins : List (Addr × Obj)} {s : Shared} {σ : St} {H : Hp} {x : Str} {u : Value} {pos : Pos} {Q : Value → Shared → Prop} (I : Inv X pins σ H s) (hg : Gl X x) (hm : X.mg x = some u) (h : Q u s)
    (hd : (x == ("__debug__" : Str)) = false := by decide) : wpAny (model X.prog X.w) X.A (eval (.Name x pos) X.env) Q E s :=
  Calls.Name_function_global I.ok.kind hg (Calls.loadGlobal_global (by rw [I.ok.glob]; exact I.mod.glob.keeps I.bk) hm h) hd
theorem ld_blt {E : Value → Shared → Prop} {pins : List (Addr × Obj)} {s : Shared} {σ : St} {H : Hp} {x : Str} {u : Value} {pos : Pos} {Q : Value → Shared → Prop} (I : Inv X pins σ H s) (hg : Gl X x) (hm : X.mg x = none) (hv : bootBuiltins x = some u) (h : Q u s)
    (hn : x ≠ "__name__" := by decide) (hd : (x == ("__debug__" : Str)) = false := by decide) : wpAny (model X.prog X.w) X.A (eval (.Name x pos) X.env) Q E s := by
  obtain ⟨mb, h1, h2⟩ := I.mod.blt
  exact Calls.Name_function_global I.ok.kind hg (Calls.loadGlobal_builtin (by rw [I.ok.glob]; exact I.mod.glob.keeps I.bk) hm (by rw [I.ok.blt]; exact h1.keeps I.bk) ((h2 x hn).trans hv) h) hd
theorem pe_glob {x : Str} {v : V} {u : Value} {pos : Pos} (hg : Gl X x) (hm : X.mg x = some u) (r : RelV v u) (hd : (x == ("__debug__" : Str)) = false := by decide) : PE X (.Name x pos) (tC v) :=
  fun _ _ _ H _ I h => ld_glob I hg hm ⟨v, H, I, r, h⟩ hd
theorem pe_bltn {x : Str} {v : V} {u : Value} {pos : Pos} (hg : Gl X x) (hm : X.mg x = none) (hv : bootBuiltins x = some u) (r : RelV v u) (hn : x ≠ "__name__" := by decide) (hd : (x == ("__debug__" : Str)) = false := by decide) : PE X (.Name x pos) (tC v) :=
  fun _ _ _ H _ I h => ld_blt I hg hm hv ⟨v, H, I, r, h⟩ hn hd
variable {a b : Expr} {ta tb : TE} {pos : Pos}
def tB (t : TE) : TT := fun σ H Q => t σ H fun x H1 => ∃ c, x = .bl c ∧ Q c H1
theorem pt_val {e : Expr} {t : TE} (h : PE X e t) (he : ∀ whole, isTrue e X.env whole = (do let v ← whole; standAt e.pos; holding [v] (truthy v)) := by intro _; rfl) : PT X e (tB t) := by
  intro pins s σ H Q I hw
  refine isTrue_plain (thn (h pins s σ H _ I hw) fun v s1 ⟨x, H1, I1, r1, q1⟩ => ?_) (he _)
  obtain ⟨d, rfl, q⟩ := q1
  cases r1
  exact wpAny_truthy_bool ⟨H1, I1, q⟩
variable {tA tB' : TT} {rest : List Expr}
def tOr (t u : TT) : TT := fun σ H Q => t σ H fun c H1 => if c = true then Q true H1 else u σ H1 Q
def tNot (t : TT) : TT := fun σ H Q => t σ H fun c H1 => Q (!c) H1
theorem pw_or1 (ha : PT X a tA) : PW X (.BoolOp .Or [a] pos) tA := by
  intro wh pins s σ H Q I h
  refine isTrue_or (thn (ha pins s σ H Q I h) fun c s1 e => ?_)
  cases c with
  | false => exact isTrue_or_nil e
  | true => exact e
theorem pw_or (ha : PT X a tA) (hb : PW X (.BoolOp .Or (b :: rest) pos) tB') : PW X (.BoolOp .Or (a :: b :: rest) pos) (tOr tA tB') := by
  intro wh pins s σ H Q I h
  refine isTrue_or (thn (ha pins s σ H _ I h) fun c s1 ⟨H1, I1, q1⟩ => ?_)
  cases c with
  | true => exact ⟨H1, I1, q1⟩
  | false => exact hb wh pins s1 σ H1 Q I1 q1
theorem pt_not (ha : PT X a tA) : PT X (.UnaryOp .Not a pos) (tNot tA) := by
  intro pins s σ H Q I h
  exact isTrue_not (ha pins s σ H (fun c H1 => Q (!c) H1) I h)
def tAndV (ta tb : TE) : TE := fun σ H Q => ta σ H fun x H1 => ∃ c, x = .bl c ∧ if c = true then tb σ H1 Q else Q (.bl false) H1
def tNotV (ta : TE) : TE := fun σ H Q => ta σ H fun x H1 => ∃ c, x = .bl c ∧ Q (.bl (!c)) H1
theorem pe_one {op} {t : TE} (h : PE X a t) : PE X (.BoolOp op [a] pos) t := fun pins s σ H Q I hw => BoolOp_one (h pins s σ H Q I hw)
theorem pe_and (ha : PE X a ta) (hb : PE X (.BoolOp .And (b :: rest) pos) tb) : PE X (.BoolOp .And (a :: b :: rest) pos) (tAndV ta tb) := by
  intro pins s σ H Q I h
  refine BoolOp_and (thn (ha pins s σ H _ I h) fun v s1 ⟨x, H1, I1, r1, q1⟩ => ?_)
  obtain ⟨c, rfl, q1⟩ := q1
  cases r1
  refine wpAny_truthy_bool ?_
  cases c with
  | true => exact hb pins s1 σ H1 Q I1 q1
  | false => exact ⟨.bl false, H1, I1, rfl, q1⟩
theorem pe_not (ha : PE X a ta) : PE X (.UnaryOp .Not a pos) (tNotV ta) := by
  intro pins s σ H Q I h
  refine UnaryOp_ (thn (ha pins s σ H _ I h) fun v s1 ⟨x, H1, I1, r1, q1⟩ => ?_)
  obtain ⟨c, rfl, q1⟩ := q1
  cases r1
  exact not_of (wpAny_truthy_bool ⟨.bl (!c), H1, I1, rfl, q1⟩)
end
end L2
namespace L2
open PySem PySem.Spec PyProof.Rows
def SqL (K : PySem.W.Frag) (H : Hp) (a : Addr) (xs : List V) : Prop :=
  Rd H a (.lst xs) ∨
    ∃ (o : Obj) (its : Array Value) (n : Nat), K.lookup a = some o ∧ o.cls = .type "list" ∧ o.dict = none ∧ o.data = .seq its n ∧ its.size ≤ sizeLine ∧ Vals xs its.toList
def SqT (K : PySem.W.Frag) (H : Hp) (a : Addr) (xs : List V) : Prop :=
  Rd H a (.tup xs) ∨
    ∃ (o : Obj) (its : Array Value) (n : Nat), K.lookup a = some o ∧ o.cls = .type "tuple" ∧ o.data = .seq its n ∧ its.size ≤ sizeLine ∧ Vals xs its.toList
def absV : Value → Option V
  | .none => some .non
  | .bool b => some (.bl b)
  | .int i _ => some (.int i)
  | .str x _ => some (.str x)
  | .bytes b _ => some (.byt b)
  | .float b _ => some (.flt b)
  | .ref a => some (.ref a)
  | .type n => some (.ty n)
  | _ => none
theorem RelV.abs {x : V} {u : Value} (r : RelV x u) : absV u = some x := by
  cases x with
  | non => cases r; rfl
  | bl _ => cases r; rfl
  | int _ => obtain ⟨t, rfl⟩ := r; rfl
  | str _ => obtain ⟨t, rfl⟩ := r; rfl
  | byt _ => obtain ⟨t, rfl⟩ := r; rfl
  | flt _ => obtain ⟨t, rfl⟩ := r; rfl
  | ref _ => cases r; rfl
  | ty _ => cases r; rfl
theorem RelV.inj {x y : V} {u : Value} (r : RelV x u) (q : RelV y u) : x = y := Option.some.inj (r.abs.symm.trans q.abs)
theorem Vals.inj : ∀ {xs ys : List V} {us : List Value}, Vals xs us → Vals ys us → xs = ys
  | _, _, _, .nil, .nil => rfl
  | _, _, _, .cons r t, .cons r' t' => by rw [r.inj r', Vals.inj t t']
section
variable {X : Cx} {pins : List (Addr × Obj)} {σ : St} {H : Hp} {s : Shared} {a : Addr} {xs ys : List V}
theorem SqL.of {K : PySem.W.Frag} (h : H a = some (.lst xs)) : SqL K H a xs := .inl (.inl h)
theorem SqT.of {K : PySem.W.Frag} (h : H a = some (.tup xs)) : SqT K H a xs := .inl (.inl h)
theorem Inv.list (I : Inv X pins σ H s) (h : SqL X.K H a xs) : ∃ its : List Value, Vals xs its ∧ PlainL s.heap a its.toArray ∧ xs.length ≤ sizeLine := by
  rcases h with h | ⟨o, its, n, hk, hc, hd, hs, hz, r⟩
  · obtain ⟨z, its, n, r, e⟩ := h.ok I.hok
    exact ⟨its, r, ⟨_, n, e, rfl, rfl, rfl⟩, z⟩
  · refine ⟨its.toList, r, ⟨o, n, I.kIn a o hk, hc, hd, by simpa using hs⟩, ?_⟩
    have e := r.length
    simp only [Array.length_toList] at e
    omega
theorem Inv.tuple (I : Inv X pins σ H s) (h : SqT X.K H a xs) : ∃ its : List Value, Vals xs its ∧ IsTup s.heap a its.toArray ∧ xs.length ≤ sizeLine := by
  rcases h with h | ⟨o, its, n, hk, hc, hs, hz, r⟩
  · obtain ⟨z, its, r, p⟩ := h.ok I.hok
    exact ⟨its, r, p, z⟩
  · refine ⟨its.toList, r, ⟨o, I.kIn a o hk, hc, n, by simpa using hs⟩, ?_⟩
    have e := r.length
    simp only [Array.length_toList] at e
    omega
theorem Inv.list_inj (I : Inv X pins σ H s) (h : SqL X.K H a xs) (h' : SqL X.K H a ys) : xs = ys := by
  obtain ⟨its, r, ⟨o, n, e, _, _, d⟩, _⟩ := I.list h
  obtain ⟨its', r', ⟨o', n', e', _, _, d'⟩, _⟩ := I.list h'
  rw [e] at e'; cases e'
  rw [d] at d'
  injection d' with d1 _
  have : its = its' := by simpa using congrArg Array.toList d1
  subst this
  exact r.inj r'
end
abbrev Cx.wish (X : Cx) (E : Value → Shared → Prop) : Cx := { X with xe := E }
abbrev Cx.nox (X : Cx) : Cx := X.wish fun _ _ => False
theorem Cx.Ok.wish {X : Cx} (ok : X.Ok) (E : Value → Shared → Prop) : (X.wish E).Ok :=
  ⟨ok.mod, ok.kind, ok.glob, ok.blt, ok.above, ok.inj, ok.has, ok.cab, ok.hd, ok.frames, ok.stk, ok.exf, ok.bs, ok.bsz, ok.noex, ok.exfs, ok.funs, ok.frf⟩
theorem Cx.Ok.unwish {X : Cx} {E : Value → Shared → Prop} (ok : (X.wish E).Ok) : X.Ok :=
  ⟨ok.mod, ok.kind, ok.glob, ok.blt, ok.above, ok.inj, ok.has, ok.cab, ok.hd, ok.frames, ok.stk, ok.exf, ok.bs, ok.bsz, ok.noex, ok.exfs, ok.funs, ok.frf⟩
section
variable {X : Cx} {pins : List (Addr × Obj)} {σ : St} {H : Hp} {s : Shared} {E : Value → Shared → Prop}
theorem Inv.wish (I : Inv X pins σ H s) (E : Value → Shared → Prop) : Inv (X.wish E) pins σ H s := ⟨I.ok.wish E, I.os, I.bare, I.base, I.loc, I.cell, I.free, I.freeC, I.pin, I.hok, I.len⟩
theorem Inv.unwish (I : Inv (X.wish E) pins σ H s) : Inv X pins σ H s := ⟨I.ok.unwish, I.os, I.bare, I.base, I.loc, I.cell, I.free, I.freeC, I.pin, I.hok, I.len⟩
theorem SP.unwish {D : Ends} {f : Flow} {s' : Shared} (h : SP (X.wish E) pins D f s') : SP X pins D f s' := by
  cases f with
  | next => obtain ⟨σ', H', I, q⟩ := h; exact ⟨σ', H', I.unwish, q⟩
  | brk => obtain ⟨σ', H', I, q⟩ := h; exact ⟨σ', H', I.unwish, q⟩
  | cont => obtain ⟨σ', H', I, q⟩ := h; exact ⟨σ', H', I.unwish, q⟩
  | ret u => obtain ⟨v, σ', H', I, r, q⟩ := h; exact ⟨v, σ', H', I.unwish, r, q⟩
theorem PSs.nox {st : List Stmt} {t : TS} (h : PSs X.nox st t) : PSs X st t := fun pins s σ H D I hw =>
  wpAny_mono (h pins s σ H D (I.wish _) hw) (fun _ _ q => q.unwish) fun _ _ z => False.elim z
end
section
variable {X : Cx} {st : Stmt} {rest : List Stmt} {t u : TS} {e : Expr} {te : TE} {pos : Pos}
def tNext : TS := fun D σ H => D.nx σ H
def tSeq (t u : TS) : TS := fun D σ H => t { D with nx := u D } σ H
theorem pss_nil : PSs X [] tNext := fun _ _ σ H _ I h => wpAny_execs_nil ⟨σ, H, I, h⟩
theorem pss_cons (h1 : PS X st t) (h2 : PSs X rest u) : PSs X (st :: rest) (tSeq t u) := by
  intro pins s σ H D I h
  refine wpAny_execs_cons (thn (h1 pins s σ H { D with nx := u D } I h) fun f s1 q => ?_)
  cases f with
  | next =>
    obtain ⟨σ', H', I', q⟩ := q
    exact h2 pins s1 σ' H' D I' q
  | ret v => exact q
  | brk => exact q
  | cont => exact q
theorem pss_one (h1 : PS X st t) : PSs X [st] t := by
  intro pins s σ H D I h
  refine wpAny_execs_cons (thn (h1 pins s σ H D I h) fun f s1 q => ?_)
  cases f with
  | next => exact wpAny_execs_nil q
  | ret v => exact q
  | brk => exact q
  | cont => exact q
def tRet (te : TE) : TS := fun D σ H => te σ H D.rt
theorem ps_ret (he : PE X e te) : PS X (.Return (some e) pos) (tRet te) := by
  intro pins s σ H D I h
  exact wpAny_Return_some (thn (he pins s σ H _ I h) fun v s1 ⟨x, H1, I1, r1, q1⟩ => ⟨x, σ, H1, I1, r1, q1⟩)
def tIfS (c : TT) (t u : TS) : TS := fun D σ H => c σ H fun b H1 => if b = true then t D σ H1 else u D σ H1
theorem ps_if {c : Expr} {a b : List Stmt} {tc : TT} (hc : PT X c tc) (ha : PSs X a t) (hb : PSs X b u) : PS X (.If c a b pos) (tIfS tc t u) := by
  intro pins s σ H D I h
  refine wpAny_If (thn (hc pins s σ H _ I h) fun d s1 ⟨H1, I1, q1⟩ => ?_)
  cases d with
  | true => exact ha pins s1 σ H1 D I1 q1
  | false => exact hb pins s1 σ H1 D I1 q1
def tNever : TS := fun _ _ _ => False
theorem ps_never : PS X st tNever := fun _ _ _ _ _ _ h => h.elim
end
abbrev TG := V → St → Hp → (St → Hp → Prop) → Prop
abbrev TGs := List V → St → Hp → (St → Hp → Prop) → Prop
def PG (X : Cx) (target : Expr) (t : TG) : Prop :=
  ∀ (pins : List (Addr × Obj)) (s : Shared) (σ : St) (H : Hp) (v : V) (u : Value) (Q : St → Hp → Prop), Inv X pins σ H s → RelV v u → t v σ H Q →
    wpAny (model X.prog X.w) X.A (assign target X.env u) (fun _ s' => ∃ σ' H', Inv X pins σ' H' s' ∧ Q σ' H') X.xe s
def PGs (X : Cx) (ts : List Expr) (t : TGs) : Prop :=
  ∀ (pins : List (Addr × Obj)) (s : Shared) (σ : St) (H : Hp) (vs : List V) (us : List Value) (Q : St → Hp → Prop), Inv X pins σ H s → Vals vs us → t vs σ H Q →
    wpAny (model X.prog X.w) X.A (assignInOrder ((assignEach ts X.env).map (·.2)) us) (fun _ s' => ∃ σ' H', Inv X pins σ' H' s' ∧ Q σ' H') X.xe s
section
variable {X : Cx} {pos : Pos}
def gName (i : Nat) : TG := fun v σ H Q => Q (σ.set i (some v)) H
theorem pg_name {i : Nat} {x : Str} (hN : X.N.Nodup) (hi : X.N[i]? = some x) (hx : Loc X.env.scope x) (hf : X.fn x = true ∨ X.env.scope.names.lookup x = some .local := by first | exact .inl rfl | exact .inr rfl | assumption) : PG X (.Name x pos) (gName i) := by
  intro pins s σ H v u Q I r h
  exact wpAny_assign_Name (store_ok I hN hi hx r (fun s' I' => ⟨_, H, I', h⟩) hf)
def gNil : TGs := fun vs σ H Q => vs = [] ∧ Q σ H
def gCons (t : TG) (u : TGs) : TGs := fun vs σ H Q => ∃ v r, vs = v :: r ∧ t v σ H fun σ' H' => u r σ' H' Q
theorem pgs_nil : PGs X [] gNil := by
  intro pins s σ H vs us Q I r h
  obtain ⟨e, h⟩ := h
  subst e
  cases r
  exact assignInOrder_nil ⟨σ, H, I, h⟩
theorem pgs_cons {e : Expr} {es : List Expr} {t : TG} {u : TGs} (h1 : PG X e t) (h2 : PGs X es u)
    (hs : (assignEach (e :: es) X.env).map (·.2) = assign e X.env :: (assignEach es X.env).map (·.2) := by rfl) : PGs X (e :: es) (gCons t u) := by
  intro pins s σ H vs us Q I r h
  obtain ⟨v, vr, e1, h⟩ := h
  subst e1
  cases r with
  | cons r rr =>
    rw [hs]
    refine assignInOrder_cons (thn (h1 pins s σ H _ _ _ I r h) fun _ s1 ⟨σ1, H1, I1, q1⟩ => ?_)
    exact h2 pins s1 σ1 H1 _ _ Q I1 rr q1
def gTup (K : PySem.W.Frag) (n : Nat) (t : TGs) : TG := fun v σ H Q => ∃ a xs, v = .ref a ∧ SqT K H a xs ∧ xs.length = n ∧ t xs σ H Q
theorem pg_tup {es : List Expr} {k : Nat} {t : TGs} {n : Nat} (hc : X.calm = true) (h : PGs X es t)
    (hn : (assignEach es X.env).length = n := by rfl) (hst : (assignEach es X.env).findIdx? (·.1) = none := by rfl) : PG X (.Tuple es k pos) (gTup X.K n t) := by
  intro pins s σ H v u Q I r hw
  obtain ⟨a, xs, e1, hq, hl, hw⟩ := hw
  subst e1
  cases r
  obtain ⟨its, rv, ht, hz⟩ := I.tuple hq
  refine assign_Tuple_tuple (I.ok.hd hc) ht (by simp [hn, ← hl, rv.length]) hst fun h' hx => ?_
  have I1 : Inv X pins σ H { s with heap := h' } := I.kept (t' := s.toks) fun b o e => hx b o (Nat.ne_of_lt (Heap.lt_size e)) e
  exact h pins _ σ H xs _ Q I1 (by simpa using rv) hw
def tAsg (te : TE) (g : TG) : TS := fun D σ H => te σ H fun x H1 => g x σ H1 D.nx
theorem ps_asg {tg e : Expr} {te : TE} {g : TG} (he : PE X e te) (hg : PG X tg g) (hs : swapsWithSole [tg] e pos.line X.env = pure false := by rfl) (hw : swappedStores [tg] e X.env = pure none := by rfl)
    (h1 : (assignEach [tg] X.env).map (·.2) = [assign tg X.env] := by rfl) : PS X (.Assign [tg] e pos) (tAsg te g) := by
  intro pins s σ H D I h
  refine wpAny_Assign_stores (thn (he pins s σ H _ I h) fun v s1 ⟨x, H1, I1, r1, q1⟩ => ?_) hs hw
  rw [h1]
  exact thn (hg pins s1 σ H1 x v _ I1 r1 q1) fun _ s2 q => q
theorem ps_set {i : Nat} {x : Str} {e : Expr} {te : TE} {pos' : Pos} (hN : X.N.Nodup) (hi : X.N[i]? = some x) (hx : Loc X.env.scope x) (he : PE X e te) (hs : swapsWith e (some (.Name x pos')) pos.line X.env = pure false := by rfl) (hf : X.fn x = true ∨ X.env.scope.names.lookup x = some .local := by first | exact .inl rfl | exact .inr rfl | assumption) :
    PS X (.Assign [.Name x pos'] e pos) (tAsg te (gName i)) := by
  intro pins s σ H D I h
  refine wpAny_Assign_Name (thn (he pins s σ H _ I h) fun v s1 ⟨y, H1, I1, r1, q1⟩ => ?_) hs
  exact store_ok I1 hN hi hx r1 (fun s2 I2 => ⟨_, H1, I2, q1⟩) hf
end
section
variable {X : Cx} {pos : Pos}
def tWhile (c : TT) (tb : TS) : TS := fun D σ H => ∃ W : Nat → St → Hp → Prop, (∃ m, W m σ H) ∧ ∀ m σ H, W m σ H →
  c σ H fun b H1 => if b = true then ∃ N : St → Hp → Prop, (∀ σ' H', N σ' H' → ∃ m', m' < m ∧ W m' σ' H') ∧ tb { D with nx := N, ct := N, bk := D.nx } σ H1 else D.nx σ H1
theorem ps_while {c : Expr} {body : List Stmt} {tc : TT} {tb : TS} (hp : PassesOwn (model X.prog X.w) X.A X.env X.xe) (hc : PT X c tc) (hb : PSs X body tb) : PS X (.While c body [] pos) (tWhile tc tb) := by
  intro pins s σ H D I h
  obtain ⟨W, ⟨m0, w0⟩, turn⟩ := h
  refine wpAny_While (codeAny_whileLoop (fun n s' => ∃ σ' H', Inv X pins σ' H' s' ∧ W n σ' H') ?_ m0 ⟨σ, H, I, w0⟩)
  rintro n s1 ⟨σ1, H1, I1, w1⟩
  refine wpAny_passesOwn hp (thn (hc pins s1 σ1 H1 _ I1 (turn n σ1 H1 w1)) fun b s2 ⟨H2, I2, q2⟩ => ?_)
  cases b with
  | true =>
    obtain ⟨N, hN, q2⟩ := q2
    rw [if_pos rfl]
    refine wpAny_passesOwn hp (thn (hb pins s2 σ1 H2 _ I2 q2) fun f s3 q3 => ?_)
    cases f with
    | next =>
      obtain ⟨σ3, H3, I3, n3⟩ := q3
      obtain ⟨m', hm, w3⟩ := hN σ3 H3 n3
      exact ⟨m', hm, σ3, H3, I3, w3⟩
    | cont =>
      obtain ⟨σ3, H3, I3, n3⟩ := q3
      obtain ⟨m', hm, w3⟩ := hN σ3 H3 n3
      exact ⟨m', hm, σ3, H3, I3, w3⟩
    | brk => exact q3
    | ret v => exact q3
  | false =>
    rw [if_neg Bool.false_ne_true]
    exact wpAny_execs_nil ⟨σ1, H2, I2, q2⟩
end
structure It where
  go : Nat → Hp → Prop
  yld : Nat → Hp → V → Hp → Prop
  stop : Nat → Hp → Prop
def FpOk (X : Cx) (pins : List (Addr × Obj)) (H : Hp) (b : Addr) : Prop :=
  H b = none ∧ b ≠ X.env.locals ∧ b ∉ X.fs ∧ (b ∈ X.ex ∨ X.s₀.heap.objs.size ≤ b) ∧ (∀ x c, X.env.cells.lookup x = some c → c ≠ b) ∧ ∀ p ∈ X.pn ++ pins, p.1 ≠ b
theorem Inv.fpOk {X : Cx} {pins : List (Addr × Obj)} {σ : St} {H H' : Hp} {s : Shared} {b : Addr} (I : Inv X pins σ H s) (hb : s.heap.objs.size ≤ b) (hn : H' b = none) : FpOk X pins H' b := by
  refine ⟨hn, Nat.ne_of_gt (Nat.lt_of_lt_of_le I.lt hb), I.nofs hb, .inr (Nat.le_trans I.sz hb), fun x c e z => ?_, fun p hp z => ?_⟩
  · obtain ⟨v, q⟩ := I.cell x c e
    exact absurd (Nat.lt_of_lt_of_le q.lt (by rw [z]; exact hb)) (Nat.lt_irrefl _)
  · exact absurd (Nat.lt_of_lt_of_le (Heap.lt_size (I.pin p hp).1) (by rw [z]; exact hb)) (Nat.lt_irrefl _)
structure Turn (P : Program) (w : World) (K : PySem.W.Frag) (tg : Expr) (J : It) (fp : List Addr) (it : Addr) (tn : Nat → Heap → Prop) : Prop where
  mem : it ∈ fp
  obj : ∀ i h, tn i h → ∀ b ∈ fp, ∃ o, h.get? b = some o ∧ ∀ v, o.data ≠ .cell v
  keep : ∀ i h h', tn i h → (∀ b ∈ fp, ∀ o, h.get? b = some o → h'.get? b = some o) → tn i h'
  item : ∀ (X : Cx), X.prog = P → X.w = w → X.K = K → X.calm = true → ∀ (i : Nat) (pins : List (Addr × Obj)) (s : Shared) (σ : St) (H : Hp) (E : Value → Shared → Prop), Inv X pins σ H s → (∀ b ∈ fp, FpOk X pins H b) → tn i s.heap → J.go i H →
    wpAny (model P w) X.A (pyNext (.ref it)) (fun r s1 => ∃ u, r = some u ∧
      wpAny (model P w) X.A (letOwnedTupleGo tg (.ref it) u) (fun _ s2 => ∃ x H', Inv X pins σ H' s2 ∧ RelV x u ∧ J.yld i H x H' ∧ tn (i + 1) s2.heap ∧ ∀ b ∈ fp, H' b = none) E s1) E s
  done : ∀ (X : Cx), X.prog = P → X.w = w → X.K = K → X.calm = true → ∀ (i : Nat) (pins : List (Addr × Obj)) (s : Shared) (σ : St) (H : Hp) (E : Value → Shared → Prop), Inv X pins σ H s → (∀ b ∈ fp, FpOk X pins H b) → tn i s.heap → J.stop i H →
    wpAny (model P w) X.A (pyNext (.ref it)) (fun r s1 => r = none ∧ Inv X pins σ H s1) E s
  self : ∀ (A : Around) (i : Nat) (s : Shared) (Q : Value → Shared → Prop) (E : Value → Shared → Prop), tn i s.heap → Q (.ref it) s → wpAny (model P w) A (pyIter (.ref it)) Q E s
abbrev TI := St → Hp → (It → Hp → Prop) → Prop
def PIE (X : Cx) (pins : List (Addr × Obj)) (σ : St) (tg : Expr) (R : It → Hp → Prop) (itv : Value) (s2 : Shared) : Prop :=
  ∃ (it : Addr) (fp : List Addr) (tn : Nat → Heap → Prop) (J : It) (H' : Hp), itv = .ref it ∧ Inv X pins σ H' s2 ∧ Turn X.prog X.w X.K tg J fp it tn ∧ tn 0 s2.heap ∧ (∀ b ∈ fp, FpOk X pins H' b) ∧ R J H'
def PI (X : Cx) (tg iter : Expr) (wi : TI) : Prop :=
  ∀ (pins : List (Addr × Obj)) (s : Shared) (σ : St) (H : Hp) (R : It → Hp → Prop), Inv X pins σ H s → wi σ H R →
    wpAny (model X.prog X.w) X.A (eval iter X.env) (fun v s1 => wpAny (model X.prog X.w) X.A (pyIter v) (PIE X pins σ tg R) X.xe s1) X.xe s
theorem go_of {M : Model} {A : Around} {E : Value → Shared → Prop} {s : Shared} {tg : Expr} {it : Addr} {u : Value} {o : Obj} {n : String} {vs : Array Value} {Q : Unit → Shared → Prop} (ho : s.heap.get? it = some o) (hc : o.cls = .type n) (hd : o.data = .fields vs)
    (hn : ["enumerate", "zip", "dict_itemiterator", "dict_reverseitemiterator", "odict_iterator", "itertools.zip_longest", "itertools.pairwise"].contains n = false) (hQ : Q () s) : wpAny M A (letOwnedTupleGo tg (.ref it) u) Q E s := by
  unfold letOwnedTupleGo
  cases tg <;> first
    | exact wpAny_pure hQ
    | (cases u <;> first
        | exact wpAny_pure hQ
        | (refine wpAny_bind (wpAny_load ho ?_)
           rw [hc, hd]
           show wpAny M A (if (["enumerate", "zip", "dict_itemiterator", "dict_reverseitemiterator", "odict_iterator", "itertools.zip_longest", "itertools.pairwise"].contains n && vs[0]? == some (rawInt _)) = true then _ else _) Q E s
           rw [if_neg (by intro h; rw [hn, Bool.false_and] at h; cases h)]
           exact wpAny_pure hQ))
def Itl (K : PySem.W.Frag) (a : Addr) : It :=
  ⟨fun i H => ∃ xs x, SqL K H a xs ∧ xs[i]? = some x, fun i H x H' => H' = H ∧ ∀ xs, SqL K H a xs → xs[i]? = some x, fun i H => ∃ xs, SqL K H a xs ∧ xs.length ≤ i⟩
def Itr (lo : Int) (n : Nat) : It := ⟨fun i _ => i < n, fun i H x H' => H' = H ∧ x = .int (lo + i), fun i _ => n ≤ i⟩
theorem turn_list {P : Program} {w : World} {K : PySem.W.Frag} {tg : Expr} (a it : Addr) : Turn P w K tg (Itl K a) [it] it (fun i h => h.IsListIter it a i) where
  mem := by simp
  obj := fun i h st b hb => by
    have e : b = it := by simpa using hb
    subst e
    obtain ⟨o, e, c, d⟩ := st
    exact ⟨o, e, fun v z => by rw [d] at z; cases z⟩
  keep := fun i h h' st k => st.at fun o e => k it (by simp) o e
  item := by
    intro X hP hw hK hc i pins s σ H E I hf st hg
    subst hP hw hK
    obtain ⟨xs, x, hq, hx⟩ := hg
    obtain ⟨its, rv, p, hz⟩ := I.list hq
    obtain ⟨u, hu, ru⟩ := rv.get hx
    obtain ⟨f0, f1, f2, f3, f4, f5⟩ := hf it (by simp)
    refine wpAny_pyNext_list_item st p.isList (x := u) (by simpa using hu) fun h' st' sb => ?_
    have I1 : Inv X pins σ H { s with heap := h' } := I.turned (t' := s.toks) (fun b o hb e => (sb.2 b hb).trans e) f0 f1 f3 f4 f5
    obtain ⟨o, e, c, d⟩ := id st'
    exact ⟨u, rfl, go_of (s := { s with heap := h' }) e c d (by decide) ⟨x, H, I1, ru, ⟨rfl, fun ys hy => by rw [I.list_inj hy hq]; exact hx⟩, st', fun b hb => (hf b hb).1⟩⟩
  done := by
    intro X hP hw hK hc i pins s σ H E I hf st hg
    subst hP hw hK
    obtain ⟨xs, hq, hx⟩ := hg
    obtain ⟨its, rv, p, hz⟩ := I.list hq
    obtain ⟨f0, f1, f2, f3, f4, f5⟩ := hf it (by simp)
    have hl := rv.length
    exact wpAny_pyNext_list_end (I.ok.hd hc) st p.isList (by simp; omega) fun h' eb => ⟨rfl, I.turned (t' := s.toks) (fun b o hb e => eb b o hb e) f0 f1 f3 f4 f5⟩
  self := fun _ _ _ _ _ st h => wpAny_pyIter_listiter st h
theorem turn_range {P : Program} {w : World} {K : PySem.W.Frag} {tg : Expr} (it : Addr) (lo : Int) (n : Nat) : Turn P w K tg (Itr lo n) [it] it (fun i h => IsRangeIter h it (lo + (i : Nat) * 1) ((n : Int) - (i : Nat)) 1) where
  mem := by simp
  obj := fun i h st b hb => by
    have e : b = it := by simpa using hb
    subst e
    exact ⟨_, st, fun v z => by
      have z' : Data.fields _ = Data.cell v := z
      cases z'⟩
  keep := fun i h h' st k => k it (by simp) _ st
  item := by
    intro X hP hw hK hc i pins s σ H E I hf st hg
    subst hP hw hK
    obtain ⟨f0, f1, f2, f3, f4, f5⟩ := hf it (by simp)
    have W := Walks.range (prog := X.prog) (w := X.w) (I.ok.hd hc) it lo 1 n
    refine W.item i s _ _ hg st fun v h' tk hv st' kk => ?_
    obtain ⟨t, rfl⟩ := hv
    have I1 : Inv X pins σ H { s with heap := h', toks := tk } := I.turned (fun b o hb e => kk b o (by simpa using hb) e) f0 f1 f3 f4 f5
    refine ⟨_, rfl, go_of (s := { s with heap := h', toks := tk }) (n := "range_iterator") st' rfl rfl (by decide) ⟨.int (lo + i), H, I1, ⟨t, ?_⟩, ⟨rfl, rfl⟩, st', fun b hb => (hf b hb).1⟩⟩
    rw [Int.mul_one]
  done := by
    intro X hP hw hK hc i pins s σ H E I hf st hg
    subst hP hw hK
    obtain ⟨f0, f1, f2, f3, f4, f5⟩ := hf it (by simp)
    exact wpAny_pyNext_range_end (I.ok.hd hc) st (by have : n ≤ i := hg; omega) fun h' eb => ⟨rfl, I.turned (t' := s.toks) (fun b o hb e => eb b o hb e) f0 f1 f3 f4 f5⟩
  self := fun _ _ _ _ _ st h => wpAny_pyIter_rangeiter st h
end L2
namespace L2
open PySem PySem.Spec PyProof.Rows
section
variable {X : Cx} {tg : Expr}
def iList (K : PySem.W.Frag) (tl : TE) : TI := fun σ H R => tl σ H fun x H1 => ∃ a, x = .ref a ∧ (∃ xs, SqL K H1 a xs) ∧ R (Itl K a) H1
theorem pi_list {l : Expr} {tl : TE} (hl : PE X l tl) : PI X tg l (iList X.K tl) := by
  intro pins s σ H R I h
  refine thn (hl pins s σ H _ I h) fun v s1 ⟨x, H1, I1, r1, q1⟩ => ?_
  obtain ⟨a, e, ⟨xs, hq⟩, q⟩ := q1
  subst e
  cases r1
  obtain ⟨its, rv, p, hz⟩ := I1.list hq
  refine wpAny_pyIter_list p.isList ?_
  refine ⟨s1.heap.objs.size, [s1.heap.objs.size], _, _, H1, rfl, I1.kept (t' := s1.toks) fun b o e => Heap.get?_push_of_some _ e, turn_list a _, ⟨_, Heap.get?_push_size _ rfl, rfl, rfl⟩, fun b hb => ?_, q⟩
  have e : b = s1.heap.objs.size := by simpa using hb
  subst e
  exact I1.fpOk (Nat.le_refl _) (I1.hok.fresh (Nat.le_refl _))
theorem range_it {pins : List (Addr × Obj)} {σ : St} {H : Hp} {s : Shared} {R : It → Hp → Prop} {E : Value → Shared → Prop} {lo hi : Int} {t u v : Tok} {tk : Nat} (I : Inv X pins σ H s) (h1 : -(2 ^ 62) ≤ lo) (h2 : lo < 2 ^ 62) (h3 : -(2 ^ 62) ≤ hi) (h4 : hi < 2 ^ 62)
    (q : R (Itr lo (hi - lo).toNat) H) : wpAny (model X.prog X.w) X.A (pyIter (.ref s.heap.objs.size)) (PIE X pins σ tg R) E { s with heap := s.heap.push { cls := .type "range", data := .fields #[.int lo t, .int hi u, .int 1 v] }, toks := tk } := by
  refine wpAny_pyIter_range (IsRange.new ..) (small_one h1 h2 h3 h4) ?_
  have I1 : Inv X pins σ H { s with heap := s.heap.push { cls := .type "range", data := .fields #[.int lo t, .int hi u, .int 1 v] }, toks := tk } := I.kept fun b o e => Heap.get?_push_of_some _ e
  refine ⟨(s.heap.push { cls := .type "range", data := .fields #[.int lo t, .int hi u, .int 1 v] }).objs.size, [(s.heap.push { cls := .type "range", data := .fields #[.int lo t, .int hi u, .int 1 v] }).objs.size], _, _, H, rfl,
    I1.kept (t' := tk) fun b o e => Heap.get?_push_of_some _ e, turn_range _ lo (hi - lo).toNat, ?_, fun b hb => ?_, q⟩
  · have e1 : lo + ((0 : Nat) : Int) * 1 = lo := by simp
    have e2 : (((hi - lo).toNat : Nat) : Int) - ((0 : Nat) : Int) = Builtin.Range.rangeSize lo hi 1 := by rw [rangeSize_one]; split <;> omega
    show IsRangeIter _ _ (lo + ((0 : Nat) : Int) * 1) ((((hi - lo).toNat : Nat) : Int) - ((0 : Nat) : Int)) 1
    rw [e1, e2]
    exact Heap.get?_push_size _ rfl
  · have e : b = (s.heap.push { cls := .type "range", data := .fields #[.int lo t, .int hi u, .int 1 v] }).objs.size := by simpa using hb
    subst e
    exact I1.fpOk (Nat.le_refl _) (I1.hok.fresh (Nat.le_refl _))
def iRng1 (ta : TA) : TI := fun σ H R => ta σ H fun vs H1 => ∃ j : Int, vs = [.int j] ∧ -(2 ^ 62) ≤ j ∧ j < 2 ^ 62 ∧ R (Itr 0 j.toNat) H1
theorem pi_range1 {a : Expr} {ta : TA} {p pos : Pos} (hg : Gl X "range") (hm : X.mg "range" = none) (ha : PA X [a] ta) (hs : starEach [a] X.env = [(false, eval a X.env)] := by rfl) : PI X tg (.Call (.Name "range" p) [a] [] pos) (iRng1 ta) := by
  intro pins s σ H R I h
  refine Call_ (ld_blt I hg hm boot_range (PyProof.Rows.callWith_type1 (thn (ha pos pins s σ H _ I h) fun us s1 ⟨vs, H1, I1, r1, q1⟩ => ?_) hs rfl))
  obtain ⟨j, e, q1, q2, q⟩ := q1
  subst e
  cases r1 with
  | cons r rr =>
    cases rr
    obtain ⟨t, rfl⟩ := r
    exact call_range_1 (range_it I1 (by omega) (by omega) q1 q2 (by simpa using q))
def tFor (wi : TI) (g : TG) (tb : TS) : TS := fun D σ H => wi σ H fun J H1 => ∃ W : Nat → Nat → St → Hp → Prop, (∃ m, W 0 m σ H1) ∧ ∀ i m σ H, W i m σ H →
  (J.stop i H ∧ D.nx σ H) ∨ (J.go i H ∧ ∃ N : St → Hp → Prop, (∀ σ' H', N σ' H' → ∃ m', m' < m ∧ W (i + 1) m' σ' H') ∧ ∀ x H', J.yld i H x H' → g x σ H' fun σ2 H2 => tb { D with nx := N, ct := N, bk := D.nx } σ2 H2)
def pinsAt (fp : List Addr) (h : Heap) : List (Addr × Obj) := fp.filterMap fun b => (h.get? b).map fun o => (b, o)
theorem mem_pinsAt {fp : List Addr} {h : Heap} {b : Addr} {o : Obj} (hb : b ∈ fp) (e : h.get? b = some o) : (b, o) ∈ pinsAt fp h := List.mem_filterMap.mpr ⟨b, hb, by rw [e]; rfl⟩
theorem of_pinsAt {fp : List Addr} {h : Heap} {p : Addr × Obj} (hp : p ∈ pinsAt fp h) : p.1 ∈ fp ∧ h.get? p.1 = some p.2 := by
  obtain ⟨b, hb, e⟩ := List.mem_filterMap.mp hp
  cases q : h.get? b with
  | none => rw [q] at e; cases e
  | some o =>
    rw [q] at e
    have e' : (b, o) = p := Option.some.inj e
    subst e'
    exact ⟨hb, q⟩
theorem Inv.pinned {pins : List (Addr × Obj)} {σ : St} {H : Hp} {s : Shared} {fp : List Addr} (I : Inv X pins σ H s) (hf : ∀ b ∈ fp, FpOk X pins H b) (ho : ∀ b ∈ fp, ∃ o, s.heap.get? b = some o ∧ ∀ v, o.data ≠ .cell v) : Inv X (pins ++ pinsAt fp s.heap) σ H s :=
  I.pins_of fun p hp => (List.mem_append.mp hp).elim (fun z => I.pin p (List.mem_append_right _ z)) fun z => by
    obtain ⟨hb, e⟩ := of_pinsAt z
    obtain ⟨f0, f1, f2, _⟩ := hf p.1 hb
    obtain ⟨o, e', d⟩ := ho p.1 hb
    rw [e] at e'; cases e'
    exact ⟨e, f0, f1, f2, d⟩
theorem Inv.unpinned {pins pl : List (Addr × Obj)} {σ : St} {H : Hp} {s : Shared} (I : Inv X (pins ++ pl) σ H s) : Inv X pins σ H s := I.pins_of fun p hp => I.pin p (List.mem_append_right _ (List.mem_append_left _ hp))
theorem ps_for {iter : Expr} {body : List Stmt} {wi : TI} {g : TG} {tb : TS} {pos : Pos} (hp : PassesOwn (model X.prog X.w) X.A X.env X.xe) (hc : X.calm = true) (hi : PI X tg iter wi) (hg : PG X tg g) (hb : PSs X body tb)
    (hs : ∀ x, foldedSetIterable iter X.env x = pure x := by intro _; rfl) : PS X (.For tg iter body [] pos) (tFor wi g tb) := by
  intro pins s σ H D I h
  refine wpAny_For (thn (hi pins s σ H _ I h) fun v s1 h1 => thn h1 fun itv s2 h2 => ?_) hs
  obtain ⟨it, fp, tn, J, H2, e, I2, T, st2, f2, W, ⟨m0, w0⟩, turn⟩ := h2
  subst e
  -- what stays true of the iterator's objects through the loop
  have stat : ∀ {H' : Hp}, (∀ b ∈ fp, H' b = none) → ∀ b ∈ fp, FpOk X pins H' b := fun hn b hb => ⟨hn b hb, (f2 b hb).2⟩
  refine codeAny_forLoop_any (fun n s' => ∃ i σ' H', Inv X pins σ' H' s' ∧ tn i s'.heap ∧ (∀ b ∈ fp, H' b = none) ∧ W i n σ' H') ?_ m0 ⟨0, σ, H2, I2, st2, fun b hb => (f2 b hb).1, w0⟩
  rintro n s3 ⟨i, σ3, H3, I3, st3, fr3, w3⟩
  rcases turn i n σ3 H3 w3 with ⟨stop, qn⟩ | ⟨go, N, hN, step⟩
  · refine wpAny_passesOwn hp (thn (T.done X rfl rfl rfl hc i pins s3 σ3 H3 X.xe I3 (stat fr3) st3 stop) fun r s4 ⟨hr, I4⟩ => ?_)
    subst hr
    exact wpAny_execs_nil ⟨σ3, H3, I4, qn⟩
  · refine wpAny_passesOwn hp (thn (T.item X rfl rfl rfl hc i pins s3 σ3 H3 X.xe I3 (stat fr3) st3 go) fun r s4 ⟨u, hr, h4⟩ => ?_)
    subst hr
    refine wpAny_passesOwn hp (thn h4 fun _ s5 ⟨x, H5, I5, r5, y5, st5, fr5⟩ => ?_)
    have I5' := I5.pinned (stat fr5) (T.obj _ _ st5)
    refine wpAny_passesOwn hp (thn (hg _ s5 σ3 H5 x u _ I5' r5 (step x H5 y5)) fun _ s6 ⟨σ6, H6, I6, q6⟩ => ?_)
    refine wpAny_passesOwn hp (thn (hb _ s6 σ6 H6 _ I6 q6) fun f s7 q7 => ?_)
    have again : ∀ {σ7 : St} {H7 : Hp}, Inv X (pins ++ pinsAt fp s5.heap) σ7 H7 s7 → N σ7 H7 → ∃ m, m < n ∧ ∃ i σ' H', Inv X pins σ' H' s7 ∧ tn i s7.heap ∧ (∀ b ∈ fp, H' b = none) ∧ W i m σ' H' := fun {σ7 H7} I7 n7 => by
      obtain ⟨m', hm, w7⟩ := hN σ7 H7 n7
      refine ⟨m', hm, i + 1, σ7, H7, I7.unpinned, T.keep _ _ _ st5 fun b hb o e => (I7.pin (b, o) (List.mem_append_right _ (List.mem_append_right _ (mem_pinsAt hb e)))).1, fun b hb => ?_, w7⟩
      obtain ⟨o, e, d⟩ := T.obj _ _ st5 b hb
      exact (I7.pin (b, o) (List.mem_append_right _ (List.mem_append_right _ (mem_pinsAt hb e)))).2.1
    cases f with
    | next => obtain ⟨σ7, H7, I7, n7⟩ := q7; exact again I7 n7
    | cont => obtain ⟨σ7, H7, I7, n7⟩ := q7; exact again I7 n7
    | brk => obtain ⟨σ7, H7, I7, q7⟩ := q7; exact ⟨σ7, H7, I7.unpinned, q7⟩
    | ret v => obtain ⟨x7, σ7, H7, I7, r7, q7⟩ := q7; exact ⟨x7, σ7, H7, I7.unpinned, r7, q7⟩
end
theorem for_list {K : PySem.W.Frag} {a : Addr} {xs : List V} {g : TG} {tb : TS} {D : Ends} {σ : St} {H : Hp} (Pv : Nat → St → Hp → Prop) (h0 : Pv 0 σ H) (hl : ∀ i σ H, i ≤ xs.length → Pv i σ H → SqL K H a xs)
    (hs : ∀ i x σ H, xs[i]? = some x → Pv i σ H → g x σ H fun σ2 H2 => tb { D with nx := Pv (i + 1), ct := Pv (i + 1), bk := D.nx } σ2 H2) (hd : ∀ σ H, Pv xs.length σ H → D.nx σ H) :
    ∃ W : Nat → Nat → St → Hp → Prop, (∃ m, W 0 m σ H) ∧ ∀ i m σ H, W i m σ H →
      ((Itl K a).stop i H ∧ D.nx σ H) ∨ ((Itl K a).go i H ∧ ∃ N : St → Hp → Prop, (∀ σ' H', N σ' H' → ∃ m', m' < m ∧ W (i + 1) m' σ' H') ∧ ∀ x H', (Itl K a).yld i H x H' → g x σ H' fun σ2 H2 => tb { D with nx := N, ct := N, bk := D.nx } σ2 H2) := by
  refine ⟨fun i m σ H => m = xs.length - i ∧ i ≤ xs.length ∧ Pv i σ H, ⟨xs.length, by simp, Nat.zero_le _, h0⟩, ?_⟩
  rintro i m σ H ⟨rfl, hi, p⟩
  have q := hl i σ H hi p
  by_cases hlt : i < xs.length
  · refine .inr ⟨⟨xs, xs[i], q, by simp [hlt]⟩, Pv (i + 1), fun σ' H' p' => ⟨xs.length - (i + 1), by omega, rfl, hlt, p'⟩, fun x H' y => ?_⟩
    obtain ⟨e, y⟩ := y
    subst e
    exact hs i x σ _ (y xs q) p
  · have e : i = xs.length := by omega
    subst e
    exact .inl ⟨⟨xs, q, Nat.le_refl _⟩, hd σ H p⟩
theorem for_range {lo : Int} {n : Nat} {g : TG} {tb : TS} {D : Ends} {σ : St} {H : Hp} (Pv : Nat → St → Hp → Prop) (h0 : Pv 0 σ H)
    (hs : ∀ i σ H, i < n → Pv i σ H → g (.int (lo + i)) σ H fun σ2 H2 => tb { D with nx := Pv (i + 1), ct := Pv (i + 1), bk := D.nx } σ2 H2) (hd : ∀ σ H, Pv n σ H → D.nx σ H) :
    ∃ W : Nat → Nat → St → Hp → Prop, (∃ m, W 0 m σ H) ∧ ∀ i m σ H, W i m σ H →
      ((Itr lo n).stop i H ∧ D.nx σ H) ∨ ((Itr lo n).go i H ∧ ∃ N : St → Hp → Prop, (∀ σ' H', N σ' H' → ∃ m', m' < m ∧ W (i + 1) m' σ' H') ∧ ∀ x H', (Itr lo n).yld i H x H' → g x σ H' fun σ2 H2 => tb { D with nx := N, ct := N, bk := D.nx } σ2 H2) := by
  refine ⟨fun i m σ H => m = n - i ∧ i ≤ n ∧ Pv i σ H, ⟨n, by simp, Nat.zero_le _, h0⟩, ?_⟩
  rintro i m σ H ⟨rfl, hi, p⟩
  by_cases hlt : i < n
  · refine .inr ⟨hlt, Pv (i + 1), fun σ' H' p' => ⟨n - (i + 1), by omega, rfl, hlt, p'⟩, fun x H' y => ?_⟩
    obtain ⟨e, y⟩ := y
    subst e y
    exact hs i σ _ hlt p
  · have e : i = n := by omega
    subst e
    exact .inl ⟨Nat.le_refl _, hd σ H p⟩
end L2
namespace L2
open PySem PySem.Spec PyProof.Rows
abbrev R2 := V → V → Hp → VK → Prop
def OpR (X : Cx) (f : Value → Value → Sem Value) (r : R2) : Prop :=
  ∀ (pins : List (Addr × Obj)) (s : Shared) (σ : St) (H : Hp) (x y : V) (v u : Value) (Q : VK), Inv X pins σ H s → RelV x v → RelV y u → r x y H Q →
    wpAny (model X.prog X.w) X.A (f v u) (EP X pins σ Q) X.xe s
def CallR (X : Cx) (f : Value) (r : List V → Hp → VK → Prop) : Prop :=
  ∀ (pins : List (Addr × Obj)) (s : Shared) (σ : St) (H : Hp) (xs : List V) (us : List Value) (Q : VK), Inv X pins σ H s → Vals xs us → r xs H Q →
    wpAny (model X.prog X.w) X.A (call f us) (EP X pins σ Q) X.xe s
def tOp (r : R2) (ta tb : TE) : TE := fun σ H Q => ta σ H fun x H1 => tb σ H1 fun y H2 => r x y H2 Q
def rI (C : Int → Int → Prop) (g : Int → Int → V) : R2 := fun x y H Q => ∃ i j, x = .int i ∧ y = .int j ∧ C i j ∧ Q (g i j) H
def rI0 (g : Int → Int → V) : R2 := fun x y H Q => ∃ i j, x = .int i ∧ y = .int j ∧ Q (g i j) H
section
variable {X : Cx} {a b c : Expr} {ta tb tc : TE} {pos : Pos}
theorem binT (ha : PE X a ta) (hb : PE X b tb) {pins : List (Addr × Obj)} {s : Shared} {σ : St} {H : Hp} {R : V → V → Hp → Prop} (I : Inv X pins σ H s)
    (h : ta σ H fun x H1 => tb σ H1 fun y H2 => R x y H2) {Q : Value → Shared → Prop} {f : Value → Value → Sem Value}
    (hf : ∀ v u s2 x y H2, Inv X pins σ H2 s2 → RelV x v → RelV y u → R x y H2 → wpAny (model X.prog X.w) X.A (f v u) Q X.xe s2) :
    wpAny (model X.prog X.w) X.A (eval a X.env) (fun v s₁ => wpAny (model X.prog X.w) X.A (eval b X.env) (fun u s₂ => wpAny (model X.prog X.w) X.A (f v u) Q X.xe s₂) X.xe s₁) X.xe s := by
  refine thn (ha pins s σ H _ I h) fun v s1 ⟨x, H1, I1, r1, q1⟩ => ?_
  refine thn (hb pins s1 σ H1 _ I1 q1) fun u s2 ⟨y, H2, I2, r2, q2⟩ => ?_
  exact hf v u s2 x y H2 I2 r1 r2 q2
theorem pe_op {op : Operator} {r : R2} (ho : OpR X (binaryOp op) r) (ha : PE X a ta) (hb : PE X b tb) : PE X (.BinOp a op b pos) (tOp r ta tb) := by
  intro pins s σ H Q I h
  exact wpAny_BinOp (binT ha hb I h fun v u s2 x y H2 I2 rx ry q => ho pins s2 σ H2 x y v u Q I2 rx ry q)
theorem opI {f : Value → Value → Sem Value} {C : Int → Int → Prop} {g : Int → Int → Int}
    (rule : ∀ (i j : Int) (t u : Tok) (s : Shared) (Q : Value → Shared → Prop) (E : Value → Shared → Prop), C i j → Q (.int (g i j) s.toks) { s with toks := s.toks + 1 } → wpAny (model X.prog X.w) X.A (f (.int i t) (.int j u)) Q E s) :
    OpR X f (rI C fun i j => .int (g i j)) := by
  intro pins s σ H x y v u Q I rx ry h
  obtain ⟨i, j, rfl, rfl, hc, q⟩ := h
  obtain ⟨t, rfl⟩ := rx
  obtain ⟨t', rfl⟩ := ry
  exact rule i j t t' s _ _ hc ⟨.int (g i j), H, I.tok _, ⟨_, rfl⟩, q⟩
theorem opI0 {f : Value → Value → Sem Value} {g : Int → Int → Int}
    (rule : ∀ (i j : Int) (t u : Tok) (s : Shared) (Q : Value → Shared → Prop) (E : Value → Shared → Prop), Q (.int (g i j) s.toks) { s with toks := s.toks + 1 } → wpAny (model X.prog X.w) X.A (f (.int i t) (.int j u)) Q E s) :
    OpR X f (rI0 fun i j => .int (g i j)) := by
  intro pins s σ H x y v u Q I rx ry h
  obtain ⟨i, j, rfl, rfl, q⟩ := h
  obtain ⟨t, rfl⟩ := rx
  obtain ⟨t', rfl⟩ := ry
  exact rule i j t t' s _ _ ⟨.int (g i j), H, I.tok _, ⟨_, rfl⟩, q⟩
theorem opB0 {f : Value → Value → Sem Value} {g : Int → Int → Bool}
    (rule : ∀ (i j : Int) (t u : Tok) (s : Shared) (Q : Value → Shared → Prop) (E : Value → Shared → Prop), Q (.bool (g i j)) s → wpAny (model X.prog X.w) X.A (f (.int i t) (.int j u)) Q E s) :
    OpR X f (rI0 fun i j => .bl (g i j)) := by
  intro pins s σ H x y v u Q I rx ry h
  obtain ⟨i, j, rfl, rfl, q⟩ := h
  obtain ⟨t, rfl⟩ := rx
  obtain ⟨t', rfl⟩ := ry
  exact rule i j t t' s _ _ ⟨.bl (g i j), H, I, rfl, q⟩
def CDiv (i j : Int) : Prop := 0 < j ∧ j < 1073741824
def CPow (i j : Int) : Prop := 0 ≤ j ∧ j ≤ 1000000 ∧ i.natAbs < 2 ^ 64
def CMul (i j : Int) : Prop := (-(2 ^ 64) < i ∧ i < 2 ^ 64) ∨ (-(2 ^ 64) < j ∧ j < 2 ^ 64)
theorem CMul.ok {i j : Int} (h : CMul i j) : IntMulOk i j := by
  rcases h with ⟨h1, h2⟩ | ⟨h1, h2⟩
  · exact .of_left (intBits_le_64 h1 h2)
  · exact .of_right (intBits_le_64 h1 h2)
theorem op_add : OpR X (binaryOp .Add) (rI0 fun i j => .int (i + j)) := opI0 fun _ _ _ _ _ _ _ q => add_int q
theorem op_sub : OpR X (binaryOp .Sub) (rI0 fun i j => .int (i - j)) := opI0 fun _ _ _ _ _ _ _ q => sub_int q
theorem op_mul : OpR X (binaryOp .Mult) (rI CMul fun i j => .int (i * j)) := opI fun _ _ _ _ _ _ _ hc q => mul_int q hc.ok
theorem op_fdiv : OpR X (binaryOp .FloorDiv) (rI CDiv fun i j => .int (i / j)) := opI fun i j _ _ _ _ _ hc q => by
  have h1 : (0 : Int) < j := hc.1
  have h2 : j < 1073741824 := hc.2
  exact floordiv_int (by omega) (by rw [Int.fdiv_eq_ediv_of_nonneg i (by omega)]; exact q) (.inl (PyProof.noPylong_small (by omega)))
theorem op_mod : OpR X (binaryOp .Mod) (rI (fun _ j => 0 < j) fun i j => .int (i % j)) := opI fun i j _ _ _ _ _ hc q => by
  have h1 : (0 : Int) < j := hc
  exact mod_int' (by omega) (by rw [Int.fmod_eq_emod_of_nonneg i (by omega)]; exact q)
theorem op_pow : OpR X (binaryOp .Pow) (rI CPow fun i j => .int (i ^ j.toNat)) := opI fun _ _ _ _ _ _ _ hc q => pow_int_small hc.1 hc.2.1 hc.2.2 q
end
def scal : V → V → Bool
  | .non, .non => true | .non, .int _ => true | .int _, .non => true | .non, .bl _ => true | .bl _, .non => true | .non, .str _ => true | .str _, .non => true
  | .int _, .int _ => true | .bl _, .bl _ => true | .str _, .str _ => true | .byt _, .byt _ => true
  | .int _, .str _ => true | .str _, .int _ => true | .bl _, .str _ => true | .str _, .bl _ => true
  | _, _ => false
def rEq : R2 := fun x y H Q => scal x y = true ∧ Q (.bl (decide (x = y))) H
def rNe : R2 := fun x y H Q => scal x y = true ∧ Q (.bl (!decide (x = y))) H
theorem dec_int {i j : Int} : decide (V.int i = V.int j) = (i == j) := by
  rw [Bool.eq_iff_iff]
  simp
theorem dec_bl {i j : Bool} : decide (V.bl i = V.bl j) = (i == j) := by
  rw [Bool.eq_iff_iff]
  simp
theorem dec_str {i j : Str} : decide (V.str i = V.str j) = (i == j) := by
  rw [Bool.eq_iff_iff]
  simp
theorem dec_byt {i j : Array UInt8} : decide (V.byt i = V.byt j) = (i.toList == j.toList) := by
  rw [Bool.eq_iff_iff]
  cases i
  cases j
  simp
section
variable {X : Cx} {a b c : Expr} {ta tb tc : TE} {pos : Pos}
theorem fin_bl {pins : List (Addr × Obj)} {σ : St} {H : Hp} {s : Shared} {Q : VK} {k k' : Bool} (I : Inv X pins σ H s) (q : Q (.bl k) H) (e : k = k') : EP X pins σ Q (.bool k') s := by
  subst e
  exact ⟨.bl k, H, I, rfl, q⟩
theorem op_eq : OpR X (compareOp .Eq) rEq := by
  intro pins s σ H x y v u Q I rx ry h
  obtain ⟨hs, q⟩ := h
  cases x with
  | non =>
    cases rx
    cases y with
    | non => cases ry; exact PySem.EqNone.eq_none_none (fin_bl I q (by simp))
    | bl j => cases ry; exact PySem.EqNone.eq_none_bool (fin_bl I q (by simp))
    | int j => obtain ⟨t', rfl⟩ := ry; exact PySem.EqNone.eq_none_int (fin_bl I q (by simp))
    | str j => obtain ⟨t', rfl⟩ := ry; exact PySem.EqNone.eq_none_str (fin_bl I q (by simp))
    | _ => exact absurd (show false = true from hs) Bool.false_ne_true
  | bl i =>
    cases rx
    cases y with
    | non => cases ry; exact PySem.EqNone.eq_bool_none (fin_bl I q (by simp))
    | bl j => cases ry; exact eq_bool (fin_bl I q dec_bl)
    | str j => obtain ⟨t', rfl⟩ := ry; exact PySem.EqMixed.eq_bool_str (fin_bl I q (by simp))
    | _ => exact absurd (show false = true from hs) Bool.false_ne_true
  | int i =>
    obtain ⟨t, rfl⟩ := rx
    cases y with
    | non => cases ry; exact PySem.EqNone.eq_int_none (fin_bl I q (by simp))
    | int j => obtain ⟨t', rfl⟩ := ry; exact eq_int (fin_bl I q dec_int)
    | str j => obtain ⟨t', rfl⟩ := ry; exact PySem.EqMixed.eq_int_str (fin_bl I q (by simp))
    | _ => exact absurd (show false = true from hs) Bool.false_ne_true
  | str i =>
    obtain ⟨t, rfl⟩ := rx
    cases y with
    | non => cases ry; exact PySem.EqNone.eq_str_none (fin_bl I q (by simp))
    | bl j => cases ry; exact PySem.EqMixed.eq_str_bool (fin_bl I q (by simp))
    | int j => obtain ⟨t', rfl⟩ := ry; exact PySem.EqMixed.eq_str_int (fin_bl I q (by simp))
    | str j => obtain ⟨t', rfl⟩ := ry; exact eq_str (fin_bl I q dec_str)
    | _ => exact absurd (show false = true from hs) Bool.false_ne_true
  | byt i =>
    obtain ⟨t, rfl⟩ := rx
    cases y with
    | byt j => obtain ⟨t', rfl⟩ := ry; exact PySem.W.eq_bytes (fin_bl I q dec_byt)
    | _ => exact absurd (show false = true from hs) Bool.false_ne_true
  | _ => cases y <;> exact absurd (show false = true from hs) Bool.false_ne_true
theorem op_ne : OpR X (compareOp .NotEq) rNe := by
  intro pins s σ H x y v u Q I rx ry h
  obtain ⟨hs, q⟩ := h
  cases x with
  | non =>
    cases rx
    cases y with
    | non => cases ry; exact PySem.EqNone.ne_none_none (fin_bl I q (by simp))
    | bl j => cases ry; exact PySem.EqNone.ne_none_bool (fin_bl I q (by simp))
    | int j => obtain ⟨t', rfl⟩ := ry; exact PySem.EqNone.ne_none_int (fin_bl I q (by simp))
    | str j => obtain ⟨t', rfl⟩ := ry; exact PySem.EqNone.ne_none_str (fin_bl I q (by simp))
    | _ => exact absurd (show false = true from hs) Bool.false_ne_true
  | bl i =>
    cases rx
    cases y with
    | non => cases ry; exact PySem.EqNone.ne_bool_none (fin_bl I q (by simp))
    | bl j => cases ry; exact ne_bool (fin_bl I q (congrArg not dec_bl))
    | str j => obtain ⟨t', rfl⟩ := ry; exact PySem.EqMixed.ne_bool_str (fin_bl I q (by simp))
    | _ => exact absurd (show false = true from hs) Bool.false_ne_true
  | int i =>
    obtain ⟨t, rfl⟩ := rx
    cases y with
    | non => cases ry; exact PySem.EqNone.ne_int_none (fin_bl I q (by simp))
    | int j => obtain ⟨t', rfl⟩ := ry; exact ne_int (fin_bl I q (congrArg not dec_int))
    | str j => obtain ⟨t', rfl⟩ := ry; exact PySem.EqMixed.ne_int_str (fin_bl I q (by simp))
    | _ => exact absurd (show false = true from hs) Bool.false_ne_true
  | str i =>
    obtain ⟨t, rfl⟩ := rx
    cases y with
    | non => cases ry; exact PySem.EqNone.ne_str_none (fin_bl I q (by simp))
    | bl j => cases ry; exact PySem.EqMixed.ne_str_bool (fin_bl I q (by simp))
    | int j => obtain ⟨t', rfl⟩ := ry; exact PySem.EqMixed.ne_str_int (fin_bl I q (by simp))
    | str j => obtain ⟨t', rfl⟩ := ry; exact ne_str (fin_bl I q (congrArg not dec_str))
    | _ => exact absurd (show false = true from hs) Bool.false_ne_true
  | byt i =>
    obtain ⟨t, rfl⟩ := rx
    cases y with
    | byt j => obtain ⟨t', rfl⟩ := ry; exact PySem.W.ne_bytes (fin_bl I q (congrArg not dec_byt))
    | _ => exact absurd (show false = true from hs) Bool.false_ne_true
  | _ => cases y <;> exact absurd (show false = true from hs) Bool.false_ne_true
theorem op_lt : OpR X (compareOp .Lt) (rI0 fun i j => .bl (decide (i < j))) := opB0 fun _ _ _ _ _ _ _ q => lt_int q
theorem op_le : OpR X (compareOp .LtE) (rI0 fun i j => .bl (decide (i ≤ j))) := opB0 fun _ _ _ _ _ _ _ q => le_int q
theorem op_gt : OpR X (compareOp .Gt) (rI0 fun i j => .bl (decide (j < i))) := opB0 fun _ _ _ _ _ _ _ q => gt_int q
theorem nomark (b : Expr) {op : CmpOp} (h : op ≠ .In := by decide) (h2 : op ≠ .NotIn := by decide) : behindInMarks op b = false := by
  have e1 : (op == CmpOp.In) = false := by cases op <;> first | rfl | exact absurd rfl h
  have e2 : (op == CmpOp.NotIn) = false := by cases op <;> first | rfl | exact absurd rfl h2
  cases b <;> simp [behindInMarks, e1, e2]
theorem pe_cmpR {op : CmpOp} {r : R2} (ho : OpR X (compareOp op) r) (ha : PE X a ta) (hb : PE X b tb) (hm : behindInMarks op b = false) : PE X (.Compare a [op] [b] pos) (tOp r ta tb) := by
  intro pins s σ H Q I h
  exact wpAny_Compare1 (binT ha hb I h fun v u s2 x y H2 I2 rx ry q => ho pins s2 σ H2 x y v u Q I2 rx ry q) hm
def tTest (t : TE) : TT := fun σ H Q => t σ H fun x H' => ∃ k, x = .bl k ∧ Q k H'
theorem pt_cmpR {op : CmpOp} {r : R2} (ho : OpR X (compareOp op) r) (ha : PE X a ta) (hb : PE X b tb) (hm : behindInMarks op b = false) : PT X (.Compare a [op] [b] pos) (tTest (tOp r ta tb)) := by
  intro pins s σ H Q I h
  refine wpAny_isTrue_Compare1 (thn (ha pins s σ H _ I h) fun v s1 ⟨x, H1, I1, r1, q1⟩ => thn (hb pins s1 σ H1 _ I1 q1) fun u s2 ⟨y, H2, I2, r2, q2⟩ =>
    thn (ho pins s2 σ H2 x y v u _ I2 r1 r2 q2) fun c s3 ⟨z, H3, I3, r3, k, e, q3⟩ => ?_) hm
  subst e
  cases r3
  exact wpAny_truthy_bool ⟨H3, I3, q3⟩
def tChain (r r' : R2) (ta tb tc : TE) : TE := fun σ H Q => ta σ H fun x H1 => tb σ H1 fun y H2 => r x y H2 fun z H3 => ∃ k, z = .bl k ∧
  (if k = true then tc σ H3 fun w' H4 => r' y w' H4 Q else Q (.bl false) H3)
theorem pe_chain {op op' : CmpOp} {r r' : R2} (ho : OpR X (compareOp op) r) (ho' : OpR X (compareOp op') r') (ha : PE X a ta) (hb : PE X b tb) (hc : PE X c tc)
    (hm : lastMarks [op, op'] [b, c] = false := by with_unfolding_all rfl) : PE X (.Compare a [op, op'] [b, c] pos) (tChain r r' ta tb tc) := by
  intro pins s σ H Q I h
  refine Compare_chain (thn (ha pins s σ H _ I h) fun v s1 ⟨x, H1, I1, r1, q1⟩ => chain_link (thn (hb pins s1 σ H1 _ I1 q1) fun u s2 ⟨y, H2, I2, r2, q2⟩ =>
    thn (ho pins s2 σ H2 x y v u _ I2 r1 r2 q2) fun d s3 ⟨z, H3, I3, r3, k, e, q3⟩ => ?_)) hm
  subst e
  cases r3
  refine wpAny_truthy_bool ?_
  cases k with
  | false => exact ite_ff ⟨.bl false, H3, I3, rfl, q3⟩
  | true => exact ite_tt (chain_last (thn (hc pins s3 σ H3 _ I3 q3) fun w' s4 ⟨z', H4, I4, r4, q4⟩ => ho' pins s4 σ H4 y z' u w' Q I4 r2 r4 q4))
theorem pt_chain {op op' : CmpOp} {r r' : R2} (ho : OpR X (compareOp op) r) (ho' : OpR X (compareOp op') r') (ha : PE X a ta) (hb : PE X b tb) (hc : PE X c tc)
    (hm : lastMarks [op, op'] [b, c] = false := by with_unfolding_all rfl) : PT X (.Compare a [op, op'] [b, c] pos) (tTest (tChain r r' ta tb tc)) := by
  intro pins s σ H Q I h
  refine isTrue_chain (thn (ha pins s σ H _ I h) fun v s1 ⟨x, H1, I1, r1, q1⟩ => test_link (thn (hb pins s1 σ H1 _ I1 q1) fun u s2 ⟨y, H2, I2, r2, q2⟩ =>
    thn (ho pins s2 σ H2 x y v u _ I2 r1 r2 q2) fun d s3 ⟨z, H3, I3, r3, k, e, q3⟩ => ?_)) hm
  subst e
  cases r3
  refine wpAny_truthy_bool ?_
  cases k with
  | false =>
    obtain ⟨k', e', q'⟩ := q3
    cases e'
    exact ite_ff ⟨H3, I3, q'⟩
  | true =>
    refine ite_tt (test_last (thn (hc pins s3 σ H3 _ I3 q3) fun w' s4 ⟨z', H4, I4, r4, q4⟩ => thn (ho' pins s4 σ H4 y z' u w' _ I4 r2 r4 q4) fun d' s5 ⟨z2, H5, I5, r5, k2, e2, q5⟩ => ?_))
    subst e2
    cases r5
    exact wpAny_truthy_bool ⟨H5, I5, q5⟩
theorem line63 : (sizeLine : Nat) < 2 ^ 63 := by rw [sizeLine_eq]; decide
theorem vals1 {x : V} {us : List Value} (r : Vals [x] us) : ∃ u, us = [u] ∧ RelV x u := by
  cases r with
  | cons r1 r2 => cases r2; exact ⟨_, rfl, r1⟩
theorem vals2 {x y : V} {us : List Value} (r : Vals [x, y] us) : ∃ u w', us = [u, w'] ∧ RelV x u ∧ RelV y w' := by
  cases r with
  | cons r1 r2 =>
    cases r2 with
    | cons r3 r4 => cases r4; exact ⟨_, _, rfl, r1, r3⟩
theorem call_abs : CallR X (.builtin "abs") (fun xs H Q => ∃ i, xs = [.int i] ∧ Q (.int (if i < 0 then -i else i)) H) := by
  intro pins s σ H xs us Q I r h
  obtain ⟨i, rfl, q⟩ := h
  obtain ⟨u, rfl, t, rfl⟩ := vals1 r
  exact call_abs_int fun u tk => ⟨.int (if i < 0 then -i else i), H, I.tok _, ⟨_, rfl⟩, q⟩
end
end L2
namespace L2
open PySem PySem.Spec PyProof.Rows
structure ObjM (h : Heap) (x dx C : Addr) (mA : Str → Option Value) : Prop where
  obj : h.get? x = some (PySem.W.instObj C dx)
  ns : h.Ns1 dx mA
  ne : dx ≠ x
theorem lookIn_ns {h : Heap} {dx : Addr} {mA : Str → Option Value} (n : h.Ns1 dx mA) : ∃ od, h.get? dx = some od ∧ ∀ name, PySem.W.lookIn name od = some (mA name) := by
  obtain ⟨o, es, ep, ho, hd, hk, _, hm⟩ := n
  refine ⟨o, ho, fun name => ?_⟩
  have e := hm name
  unfold nsFind findBy at e
  rw [← Array.find?_toList] at e
  unfold PySem.W.lookIn
  rw [hd]
  dsimp only
  split
  · rename_i y q
    rw [q] at e
    exact congrArg some e
  · rename_i q
    rw [q] at e
    have a : es.toList.any (·.refKey) = false := by
      rw [List.any_eq_false]
      intro y hy
      obtain ⟨z, t, hkey⟩ := hk y (Array.mem_toList_iff.mp hy)
      simp [DictEntry.refKey, hkey]
    have a' : ¬ es.toList.any (·.refKey) = true := by rw [a]; exact Bool.false_ne_true
    rw [if_neg a']
    exact congrArg some e
theorem ObjM.look {h : Heap} {x dx C : Addr} {mA : Str → Option Value} (I : ObjM h x dx C mA) : ∃ od, PySem.W.InstAt h x (PySem.W.instObj C dx) C (some od) ∧ ∀ name, PySem.W.lookIn name od = some (mA name) :=
  let ⟨od, ho, hl⟩ := lookIn_ns I.ns
  ⟨od, ⟨I.obj, rfl, rfl, ho⟩, hl⟩
section
variable {P : Program} {w : World} {H H' : Hp} {h h' : Heap} {a C dx : Addr} {fs fs' : List (Str × V)}
theorem ins_get (hok : HOk P w H h) (e : H a = some (.ins C dx fs)) : ∃ mA, ObjM h a dx C mA ∧ (∀ f, RelO (fs.lookup f) (mA f)) ∧ PySem.Within mA (fs.map (·.1)) ∧ fs.length ≤ 1000 ∧ H dx = some (.own a) := by
  obtain ⟨d, z, ne, ob, mA, n, r, q⟩ := (show ObjOk P w H h a (.ins C dx fs) from hok a _ e)
  exact ⟨mA, ⟨ob, n, ne⟩, r, q, z, d⟩
end
structure Cls (K : PySem.W.Frag) (C : Addr) : Prop where
  pg : PySem.W.plainGet K C Str.empty = true
  hd : PySem.W.hasDictIn K C = true
  po : PySem.W.plainOver K C = true
  sa : PySem.W.findIn K (.ref C) "__setattr__" = some (some (.builtin "object.__setattr__"))
theorem Cls.get {K : PySem.W.Frag} {C : Addr} (c : Cls K C) (f : Str) : PySem.W.plainGet K C f = true := c.pg
section
variable {X : Cx} {pins : List (Addr × Obj)} {σ : St} {H : Hp} {s : Shared} {A : Around} {E : Value → Shared → Prop} {Q : Value → Shared → Prop} {c : Value} {b : Bool}
inductive TyOf (K : PySem.W.Frag) (H : Hp) : V → Value → Prop where
  | non : TyOf K H .non (.type "NoneType")
  | bl (x : Bool) : TyOf K H (.bl x) (.type "bool")
  | int (i : Int) : TyOf K H (.int i) (.type "int")
  | str (x : Str) : TyOf K H (.str x) (.type "str")
  | flt (x : UInt64) : TyOf K H (.flt x) (.type "float")
  | lst {a : Addr} {xs : List V} (e : H a = some (.lst xs)) : TyOf K H (.ref a) (.type "list")
  | frz {a : Addr} {o : Obj} {xs : List V} (e : H a = some (.frz o (.lst xs))) : TyOf K H (.ref a) (.type "list")
  | tup {a : Addr} {xs : List V} (e : H a = some (.tup xs)) : TyOf K H (.ref a) (.type "tuple")
  | dK {a : Addr} {kvs : List (Key × V)} (e : H a = some (.dK kvs)) : TyOf K H (.ref a) (.type "dict")
  | dT {a : Addr} {kvs : List (List Key × V)} (e : H a = some (.dT kvs)) : TyOf K H (.ref a) (.type "dict")
  | ins {a C dx : Addr} {fs : List (Str × V)} (e : H a = some (.ins C dx fs)) (cl : Cls K C) (ha : PySem.W.findIn K (.ref C) "__class__" = some (some (.builtin "object.__class__")))
      (hn : PySem.W.specialIn K (.builtin "object.__class__") "__get__" = some (some (.builtin "getset_descriptor.__get__"))) (htk : PySem.W.takesIn K (.builtin "object.__class__") = some true)
      (hm : PySem.W.mroIn K C (.type "object") = some true) : TyOf K H (.ref a) (.ref C)
theorem isinst_ok {x : V} {u t : Value} (I : Inv X pins σ H s) (rx : RelV x u) (ty : TyOf X.K H x t) (e : PySem.W.kitOne X.K t c = some b) (h : ∀ tk, Q (.bool b) { s with toks := tk }) :
    wpAny (model X.prog X.w) A (call (.builtin "isinstance") [u, c]) Q E s := by
  cases ty with
  | non => cases (show u = Value.none from rx); exact PySem.W.kia_one PySem.W.kitx_none I.kIn True.intro e (fun z => nomatch z) h
  | bl y => cases (show u = Value.bool y from rx); exact PySem.W.kia_one PySem.W.kitx_bool I.kIn True.intro e (fun z => nomatch z) h
  | int i => obtain ⟨t, q⟩ := (show ∃ t, u = Value.int i t from rx); cases q; exact PySem.W.kia_one PySem.W.kitx_int I.kIn True.intro e (fun z => nomatch z) h
  | str y => obtain ⟨t, q⟩ := (show ∃ t, u = Value.str y t from rx); cases q; exact PySem.W.kia_one PySem.W.kitx_str I.kIn True.intro e (fun z => nomatch z) h
  | flt y => obtain ⟨t, q⟩ := (show ∃ t, u = Value.float y t from rx); cases q; exact PySem.W.kia_one PySem.W.kitx_float I.kIn True.intro e (fun z => nomatch z) h
  | @lst a xs ea =>
    cases (show u = Value.ref a from rx)
    obtain ⟨_, _, n, _, h1⟩ := (show ObjOk X.prog X.w H s.heap a (.lst xs) from I.hok a _ ea)
    exact PySem.W.kia_one PySem.W.kitx_list I.kIn ⟨_, h1, rfl⟩ e (fun z => nomatch z) h
  | @frz a ob xs ea =>
    cases (show u = Value.ref a from rx)
    obtain ⟨_, _, _, n, _, h1⟩ := (show ObjOk X.prog X.w H s.heap a (.frz ob (.lst xs)) from I.hok a _ ea)
    exact PySem.W.kia_one PySem.W.kitx_list I.kIn ⟨_, h1, rfl⟩ e (fun z => nomatch z) h
  | @tup a xs ea =>
    cases (show u = Value.ref a from rx)
    obtain ⟨_, _, _, p⟩ := (show ObjOk X.prog X.w H s.heap a (.tup xs) from I.hok a _ ea)
    obtain ⟨o, h1, h2, _⟩ := p
    exact PySem.W.kia_one PySem.W.kitx_tuple I.kIn ⟨o, h1, h2⟩ e (fun z => nomatch z) h
  | @dK a kvs ea =>
    cases (show u = Value.ref a from rx)
    obtain ⟨_, _, vs, _, p⟩ := (show ObjOk X.prog X.w H s.heap a (.dK kvs) from I.hok a _ ea)
    obtain ⟨o, es, ep, h1, h2, _⟩ := p
    exact PySem.W.kia_one PySem.W.kitx_dict I.kIn ⟨o, h1, h2.1⟩ e (fun z => nomatch z) h
  | @dT a kvs ea =>
    cases (show u = Value.ref a from rx)
    obtain ⟨_, _, xs, _, o, es, ep, h1, h2, _⟩ := (show ObjOk X.prog X.w H s.heap a (.dT kvs) from I.hok a _ ea)
    exact PySem.W.kia_one PySem.W.kitx_dict I.kIn ⟨o, h1, h2.1⟩ e (fun z => nomatch z) h
  | @ins a C dx fs ea cl ha hn htk hm =>
    cases (show u = Value.ref a from rx)
    obtain ⟨mA, O, _⟩ := ins_get I.hok ea
    obtain ⟨od, J, _⟩ := O.look
    exact PySem.W.kia_one (PySem.W.kitx_own (cl.get _) cl.hd ha hn htk hm) I.kIn J e (fun z => nomatch z) h
end
end L2
namespace L2
open PySem PySem.Spec PyProof.Rows
structure Room (k : Nat) (A : Around) : Prop where
  hd : A.handled = none
  dp : A.depth + 3 * k + 5 < recursionLimit
  un : A.units + 16 * k + 200 < cLine
def tNil : TA := fun _ H Q => Q [] H
def tCons (ta : TE) (tr : TA) : TA := fun σ H Q => ta σ H fun x H1 => tr σ H1 fun xs H2 => Q (x :: xs) H2
section
variable {X : Cx} {e : Expr} {es : List Expr} {te : TE} {t : TA} {pos : Pos}
theorem pa_nil : PA X [] tNil := fun _ _ _ _ H Q I h => Calls.spliced_nil ⟨[], H, I, .nil, h⟩
theorem pa_cons (ha : PE X e te) (hr : PA X es t) (hs : starEach (e :: es) X.env = (false, eval e X.env) :: starEach es X.env := by rfl) : PA X (e :: es) (tCons te t) := by
  intro pos pins s σ H Q I h
  rw [hs]
  show wpAny _ _ (spliced ((false, eval e X.env) :: backTo pos (starEach es X.env))) _ _ s
  refine Calls.spliced_cons (thn (ha pins s σ H _ I h) fun u s1 ⟨x, H1, I1, r1, q1⟩ => ?_)
  exact thn (hr pos pins s1 σ H1 _ I1 q1) fun us s2 ⟨xs, H2, I2, r2, q2⟩ => ⟨x :: xs, H2, I2, .cons r1 r2, q2⟩
def tTup (t : TA) : TE := fun σ H Q => t σ H fun xs H1 => xs.length ≤ sizeLine ∧ ∀ p, H1 p = none → Q (.ref p) (upd H1 p (.tup xs))
def tLst (t : TA) : TE := fun σ H Q => t σ H fun xs H1 => xs.length ≤ sizeLine ∧ ∀ p, H1 p = none → Q (.ref p) (upd H1 p (.lst xs))
theorem pe_tup {x1} (h : PA X es t) : PE X (.Tuple es x1 pos) (tTup t) := by
  intro pins s σ H Q I hq
  refine wpAny_Tuple_spliced (thn (h pos pins s σ H _ I hq) fun us s1 ⟨xs, H1, I1, r, z, q⟩ => ⟨by rw [← r.length]; exact z, ?_⟩)
  have hf : H1 s1.heap.objs.size = none := I1.hok.fresh (Nat.le_refl _)
  refine ⟨.ref s1.heap.objs.size, upd H1 s1.heap.objs.size (.tup xs), I1.laid (t' := s1.toks) (fun b u e => Heap.get?_push_of_some _ e) (Nat.le_refl _) ?_, rfl, q _ hf⟩
  exact ⟨z, us, r, ⟨_, Heap.get?_push_size _ rfl, rfl, _, rfl⟩⟩
theorem pe_lst (h : PA X es t) : PE X (.List es pos) (tLst t) := by
  intro pins s σ H Q I hq
  refine wpAny_List_spliced (thn (h pos pins s σ H _ I hq) fun us s1 ⟨xs, H1, I1, r, z, q⟩ => ⟨by rw [← r.length]; exact z, ?_⟩)
  have hf : H1 s1.heap.objs.size = none := I1.hok.fresh (Nat.le_refl _)
  refine ⟨.ref s1.heap.objs.size, upd H1 s1.heap.objs.size (.lst xs), I1.laid (t' := s1.toks) (fun b u e => Heap.get?_push_of_some _ e) (Nat.le_refl _) ?_, rfl, q _ hf⟩
  exact ⟨z, us, 0, r, Heap.get?_push_size _ rfl⟩
end
abbrev Sp := List V → Hp → VK → XK → Prop
abbrev CXT := List Env → Hp → Shared → XK → Value → Shared → Prop
structure Env0 (P : Program) (w : World) (K : PySem.W.Frag) (mg : Str → Option Value) (base : Heap) (A : Around) (outer : List Env) (s : Shared) (H : Hp) : Prop where
  frames : A.frames = some outer
  mod : Mod K mg base
  bs : ∀ b o, base.get? b = some o → s.heap.get? b = some o ∧ H b = none
  bsz : base.objs.size ≤ s.heap.objs.size
  funs : s.heap.FunFrames base outer
  frf : ∀ b ∈ frs outer, H b = none
  hok : HOk P w H s.heap
  bare : AllBare s.gens
def CE (outer : List Env) (P : Program) (w : World) (H : Hp) (s : Shared) (Q : VK) (u : Value) (s' : Shared) : Prop :=
  ∃ v H', s'.os = s.os ∧ AllBare s'.gens ∧ Un (frs outer) [] H H' s.heap s'.heap ∧ HOk P w H' s'.heap ∧ RelV v u ∧ Q v H'
def CR (CX : CXT) (outer : List Env) (P : Program) (w : World) (H : Hp) (s : Shared) (Q : VK) (E : XK) (r : Result) (s' : Shared) : Prop :=
  match r with
  | .ok (.ret u) => CE outer P w H s Q u s'
  | .ok _ => False
  | .error e => CX outer H s E e s'
structure FnOk (P : Program) (w : World) (K : PySem.W.Frag) (mg : Str → Option Value) (base : Heap) (CX : CXT) (k : Nat) (f : Addr) (fd : FuncData) (ps : List Str) (sp : Sp) : Prop where
  len : ∀ vs H Q E, sp vs H Q E → vs.length = ps.length
  run : ∀ (A : Around) (outer : List Env) (s : Shared) (H : Hp) (args : Args) (us : List Value) (vs : List V) (Q : VK) (E : XK), Room k A → Env0 P w K mg base A outer s H → BindsTo s fd args (ps.zip us) → Vals vs us → sp vs H Q E →
    codeAny (model P w) A (.call (.ref f) args) (CR CX outer P w H s Q E) s
section
variable {X : Cx} {pins : List (Addr × Obj)} {σ : St} {H : Hp} {s s' : Shared}
theorem Inv.env0 (I : Inv X pins σ H s) : Env0 X.prog X.w X.K X.mg X.base X.A X.stack s H :=
  ⟨I.ok.frames, I.ok.mod, I.bs, Nat.le_trans I.ok.bsz I.sz, I.stack, I.stkFree, I.hok, I.bare⟩
theorem Inv.after {Q : VK} {u : Value} (I : Inv X pins σ H s) (h : CE X.stack X.prog X.w H s Q u s') : EP X pins σ Q u s' := by
  obtain ⟨v, H', os, bare, un, hok, r, q⟩ := h
  obtain ⟨hh, g, d, t, os'⟩ := s'
  obtain rfl : os' = s.os := os
  exact ⟨v, H', I.call (h' := hh) (g' := g) (d' := d) (t' := t) (ch := []) un hok bare (fun b z => absurd z (by simp)), r, q⟩
end
def tCall (sp : Sp) (dvs : List V) (E : XK) (t : TA) : TE := fun σ H Q => t σ H fun vs H1 => sp (vs ++ dvs) H1 Q E
def Binds (K : PySem.W.Frag) (fd : FuncData) (ps : List Str) (ds : List Value) : Prop :=
  ∀ (s : Shared) (us : List Value), K.In s.heap → (us ++ ds).length = ps.length → BindsTo s fd ⟨us, []⟩ (ps.zip (us ++ ds))
theorem Binds.all {K : PySem.W.Frag} {fd : FuncData} {ps : List Str} (h : ∀ us : List Value, us.length = ps.length → bindArgs fd ⟨us, []⟩ = pure (ps.zip us)) : Binds K fd ps [] := fun s us _ hl => by
  rw [List.append_nil] at hl ⊢
  exact .of_eq (h us hl)
def Passes (CX : CXT) (X : Cx) (E : XK) : Prop := ∀ (pins : List (Addr × Obj)) (σ : St) (H : Hp) (s : Shared) (e : Value) (s' : Shared), Inv X pins σ H s → CX X.stack H s E e s' → X.xe e s'
structure FnScope (N P : List Str) (sc : Scope) : Prop where
  kind : sc.kind = .function
  co : sc.isCoroutine = false
  gen : sc.isGenerator = false
  nd : N.Nodup
  pre : N.take P.length = P
  par : ∀ x ∈ P, sc.names.lookup x = some .local ∨ sc.names.lookup x = some .cell
  nofree : ∀ y ∈ sc.names, y.2 ≠ .free
theorem bindL_out {kindOf : Str → Option NameKind} {x : Str} : ∀ {binds : List (Str × Value)} {m : Str → Option Value}, (∀ v, (x, v) ∉ binds) → bindL kindOf binds m x = m x
  | [], _, _ => rfl
  | (n, v) :: r, m, h => by
    unfold bindL
    rw [bindL_out fun w hw => h w (List.mem_cons_of_mem _ hw)]
    split
    · have : x ≠ n := by rintro rfl; exact h v List.mem_cons_self
      simp [this]
    · rfl
theorem bindC_out {kindOf : Str → Option NameKind} {x : Str} : ∀ {binds : List (Str × Value)} {m : Str → Option Value}, (∀ v, (x, v) ∉ binds) → bindC kindOf binds m x = m x
  | [], _, _ => rfl
  | (n, v) :: r, m, h => by
    unfold bindC
    rw [bindC_out fun w hw => h w (List.mem_cons_of_mem _ hw)]
    split
    · rfl
    · have : x ≠ n := by rintro rfl; exact h v List.mem_cons_self
      simp [this]
theorem bindL_get {kindOf : Str → Option NameKind} {x : Str} {v : Value} : ∀ {P : List Str} {vs : List Value} {i : Nat} {m : Str → Option Value}, P.Nodup → P[i]? = some x → vs[i]? = some v → kindOf x = some .local →
    bindL kindOf (P.zip vs) m x = some v
  | [], _, _, _, _, h, _, _ => by simp at h
  | _ :: _, [], _, _, _, _, h, _ => by simp at h
  | p :: P, w :: vs, 0, m, nd, h1, h2, hk => by
    simp at h1 h2; subst h1; subst h2
    show bindL kindOf ((p, w) :: P.zip vs) m p = _
    unfold bindL
    rw [bindL_out fun v hv => (List.nodup_cons.mp nd).1 (List.of_mem_zip hv).1, if_pos hk]
    simp
  | p :: P, w :: vs, i + 1, m, nd, h1, h2, hk => by
    show bindL kindOf ((p, w) :: P.zip vs) m x = _
    unfold bindL
    exact bindL_get (i := i) (List.nodup_cons.mp nd).2 (by simpa using h1) (by simpa using h2) hk
theorem bindC_get {kindOf : Str → Option NameKind} {x : Str} {v : Value} : ∀ {P : List Str} {vs : List Value} {i : Nat} {m : Str → Option Value}, P.Nodup → P[i]? = some x → vs[i]? = some v → kindOf x ≠ some .local →
    bindC kindOf (P.zip vs) m x = some v
  | [], _, _, _, _, h, _, _ => by simp at h
  | _ :: _, [], _, _, _, _, h, _ => by simp at h
  | p :: P, w :: vs, 0, m, nd, h1, h2, hk => by
    simp at h1 h2; subst h1; subst h2
    show bindC kindOf ((p, w) :: P.zip vs) m p = _
    unfold bindC
    rw [bindC_out fun v hv => (List.nodup_cons.mp nd).1 (List.of_mem_zip hv).1, if_neg hk]
    simp
  | p :: P, w :: vs, i + 1, m, nd, h1, h2, hk => by
    show bindC kindOf ((p, w) :: P.zip vs) m x = _
    unfold bindC
    exact bindC_get (i := i) (List.nodup_cons.mp nd).2 (by simpa using h1) (by simpa using h2) hk
def start (N : List Str) (vs : List V) : St := vs.map some ++ List.replicate (N.length - vs.length) none
def cxOf (CX : CXT) (P : Program) (w : World) (K : PySem.W.Frag) (mg : Str → Option Value) (base : Heap) (N : List Str) (qual : Str) (scope : Scope) (f : Addr) (cd : Value) (A : Around) (outer : List Env) (s : Shared) (H : Hp) (E : XK) : Cx where
  prog := P
  w := w
  K := K
  mg := mg
  base := base
  A := A.deeper (envOfC qual scope s.heap.objs.size f cd)
  N := N
  s₀ := s
  H₀ := H
  env := envOfC qual scope s.heap.objs.size f cd
  outer := outer
  stack := envOfC qual scope s.heap.objs.size f cd :: outer
  ex := []
  calm := true
  fn := fun _ => true
  pn := []
  xe := fun e s' => wpAny (model P w) (A.deeper (envOfC qual scope s.heap.objs.size f cd)) (leaving (envOfC qual scope s.heap.objs.size f cd) e) (fun _ s'' => CX outer H s E e s'') (fun e' s'' => CX outer H s E e' s'') s'
theorem cell_has {sc : Scope} {n : Nat} {x : Str} (h : sc.names.lookup x = some .cell) : ∃ c, (cellsFrom n sc.names []).lookup x = some c := by
  have q := PySem.W.cellsFrom_some sc.names n [] (.inl h)
  exact Option.isSome_iff_exists.mp q
end L2
namespace L2
open PySem PySem.Spec PyProof.Rows
section
variable {X : Cx} {x : Str} {p pos : Pos} {e : Expr} {es : List Expr} {t : TA} {id T : String} {r : List V → Hp → VK → Prop}
def tCB (r : List V → Hp → VK → Prop) (t : TA) : TE := fun σ H Q => t σ H fun vs H1 => r vs H1 Q
theorem pe_callB (hc : CallR X (.builtin id) r) (hg : Gl X x) (hm : X.mg x = none) (hv : bootBuiltins x = some (.builtin id)) (ha : PA X (e :: es) t) (hn : x ≠ "__name__" := by decide) (hdb : (x == ("__debug__" : Str)) = false := by decide)
    (he : starEach (e :: es) X.env = (false, eval e X.env) :: starEach es X.env := by rfl) (hpl : (backTo pos (starEach es X.env)).any (·.1) = false := by rfl) : PE X (.Call (.Name x p) (e :: es) [] pos) (tCB r t) := by
  intro pins s σ H Q I h
  refine wpAny_Call_Name_kw (ld_blt I hg hm hv ?_ hn hdb)
  exact PyProof.Rows.callWith_builtin1 (thn (ha pos pins s σ H _ I h) fun us s1 ⟨vs, H1, I1, r1, q1⟩ => hc pins s1 σ H1 vs us Q I1 r1 q1) he hpl
theorem pe_callTy (hc : CallR X (.type T) r) (hg : Gl X x) (hm : X.mg x = none) (hv : bootBuiltins x = some (.type T)) (ha : PA X (e :: es) t) (hn : x ≠ "__name__" := by decide) (hdb : (x == ("__debug__" : Str)) = false := by decide)
    (he : starEach (e :: es) X.env = (false, eval e X.env) :: starEach es X.env := by rfl) (hpl : (backTo pos (starEach es X.env)).any (·.1) = false := by rfl) : PE X (.Call (.Name x p) (e :: es) [] pos) (tCB r t) := by
  intro pins s σ H Q I h
  refine wpAny_Call_Name_kw (ld_blt I hg hm hv ?_ hn hdb)
  exact PyProof.Rows.callWith_type1 (thn (ha pos pins s σ H _ I h) fun us s1 ⟨vs, H1, I1, r1, q1⟩ => hc pins s1 σ H1 vs us Q I1 r1 q1) he hpl
end
end L2
namespace HT
open PySem PyProof.Rows
section
variable {prog : Program} {w : World} {A : Around} {E : Value → Shared → Prop} {s : Shared}
def sIx (n d : Nat) : Option Int → Nat
  | none => d
  | some v => if v < 0 then (v + (n : Int)).toNat else min v.toNat n
theorem sIx_none (n d : Nat) : sIx n d none = d := rfl
theorem sIx_nat (n d k : Nat) : sIx n d (some (k : Int)) = min k n := by
  show (if (k : Int) < 0 then ((k : Int) + (n : Int)).toNat else min (k : Int).toNat n) = min k n
  rw [if_neg (by omega), Int.toNat_natCast]
end
end HT
namespace L2
open PySem PySem.Spec PyProof.Rows
abbrev TO := St → Hp → (Option Int → Hp → Prop) → Prop
def PO (X : Cx) (e : Option Expr) (t : TO) : Prop :=
  ∀ (pins : List (Addr × Obj)) (s : Shared) (σ : St) (H : Hp) (Q : Option Int → Hp → Prop), Inv X pins σ H s → t σ H Q →
    wpAny (model X.prog X.w) X.A (evalPart e X.env) (fun u s' => ∃ o H', Inv X pins σ H' s' ∧ IsPart u o ∧ Q o H') X.xe s
def tNoPart : TO := fun _ H Q => Q none H
def tPart (t : TE) : TO := fun σ H Q => t σ H fun x H1 => ∃ i, x = .int i ∧ Q (some i) H1
section
variable {X : Cx} {e : Expr} {te : TE} {lo hi : Option Expr} {tl th : TO} {pos p2 : Pos}
theorem po_none : PO X none tNoPart := by
  intro pins s σ H Q I h
  rw [evalPart_none]
  exact wpAny_pure ⟨none, H, I, .none, h⟩
theorem po_some (h : PE X e te) : PO X (some e) (tPart te) := by
  intro pins s σ H Q I hw
  rw [evalPart_some]
  refine thn (h pins s σ H _ I hw) fun u s1 ⟨x, H1, I1, r1, q1⟩ => ?_
  obtain ⟨i, rfl, q⟩ := q1
  obtain ⟨t, rfl⟩ := r1
  exact ⟨some i, H1, I1, .int i t, q⟩
def SlR (X : Cx) (r : V → Option Int → Option Int → Hp → VK → Prop) : Prop :=
  ∀ (pins : List (Addr × Obj)) (s : Shared) (σ : St) (H : Hp) (x : V) (v vl vu : Value) (lo hi : Option Int) (sl : Addr) (Q : VK), Inv X pins σ H s → RelV x v → s.heap.IsSliceOf sl vl vu .none → IsPart vl lo → IsPart vu hi → r x lo hi H Q →
    ∃ T id, typeLookup (.type T) "__getitem__" = pure (some (.builtin id)) ∧ s.TypeIs v T ∧ wpAny (model X.prog X.w) X.A (getItem v (.ref sl)) (EP X pins σ Q) X.xe s
def tSl (r : V → Option Int → Option Int → Hp → VK → Prop) (te : TE) (tl th : TO) : TE := fun σ H Q => te σ H fun x H1 => tl σ H1 fun l H2 => th σ H2 fun u H3 => r x l u H3 Q
theorem pe_slice {r : V → Option Int → Option Int → Hp → VK → Prop} (hr : SlR X r) (he : PE X e te) (hl : PO X lo tl) (hu : PO X hi th) : PE X (.Subscript e (.Slice lo hi none p2) pos) (tSl r te tl th) := by
  intro pins s σ H Q I h
  refine Subscript_ (thn (he pins s σ H _ I h) fun v s1 ⟨x, H1, I1, r1, q1⟩ => ?_)
  refine wpAny_Slice (thn (hl pins s1 σ H1 _ I1 q1) fun vl s2 ⟨l, H2, I2, pl, q2⟩ => thn (hu pins s2 σ H2 _ I2 q2) fun vu s3 ⟨u, H3, I3, pu, q3⟩ => ?_)
  rw [evalPart_none]
  refine wpAny_pure ?_
  have I4 : Inv X pins σ H3 { s3 with heap := s3.heap.push { cls := .type "slice", data := .fields #[vl, vu, .none] } } := I3.kept (t' := s3.toks) fun b ob q => Heap.get?_push_of_some _ q
  obtain ⟨T, id, hT, ht, hg⟩ := hr pins { s3 with heap := s3.heap.push { cls := .type "slice", data := .fields #[vl, vu, .none] } } σ H3 x v vl vu l u s3.heap.objs.size Q I4 r1 (Heap.IsSliceOf.new ..) pl pu q3
  show wpAny (model X.prog X.w) X.A (subscriptTail e (.Slice lo hi none p2) v (.ref s3.heap.objs.size)) (EP X pins σ Q) X.xe { s3 with heap := s3.heap.push { cls := .type "slice", data := .fields #[vl, vu, .none] } }
  exact tail_any (ops := [.ref s3.heap.objs.size, v]) ht hT hg (by with_unfolding_all rfl)
def cutV (xs : List V) (lo hi : Option Int) : List V := (xs.drop (HT.sIx xs.length 0 lo)).take (HT.sIx xs.length xs.length hi - HT.sIx xs.length 0 lo)
theorem cutV_length (xs : List V) (lo hi : Option Int) : (cutV xs lo hi).length ≤ xs.length := by
  unfold cutV
  rw [List.length_take, List.length_drop]
  omega
end
end L2
namespace L2
open PySem PySem.Spec PyProof.Rows
def ixN (n : Nat) (i : Int) : Option Nat := if 0 ≤ i then (if i < n then some i.toNat else none) else if -(n : Int) ≤ i then some (i + n).toNat else none
def atI {α : Type} (xs : List α) (i : Int) : Option α := (ixN xs.length i).bind fun j => xs[j]?
theorem ixN_seq {n : Nat} {i : Int} {j : Nat} (h : ixN n i = some j) : seqIndex? i n = some j ∧ j < n ∧ -(n : Int) ≤ i ∧ i < n := by
  unfold ixN at h
  by_cases h0 : 0 ≤ i
  · rw [if_pos h0] at h
    by_cases h1 : i < n
    · rw [if_pos h1] at h
      have e : i.toNat = j := Option.some.inj h
      exact ⟨by rw [seqIndex_of h0 h1, e], by omega, by omega, h1⟩
    · rw [if_neg h1] at h; cases h
  · rw [if_neg h0] at h
    by_cases h1 : -(n : Int) ≤ i
    · rw [if_pos h1] at h
      have e : (i + n).toNat = j := Option.some.inj h
      exact ⟨by rw [seqIndex_neg (by omega) h1, e], by omega, h1, by omega⟩
    · rw [if_neg h1] at h; cases h
theorem atI_get {α : Type} {xs : List α} {i : Int} {v : α} (h : atI xs i = some v) : ∃ j, seqIndex? i xs.length = some j ∧ xs[j]? = some v ∧ j < xs.length ∧ -(xs.length : Int) ≤ i ∧ i < xs.length := by
  unfold atI at h
  cases e : ixN xs.length i with
  | none => rw [e] at h; cases h
  | some j =>
    rw [e] at h
    obtain ⟨h1, h2, h3, h4⟩ := ixN_seq e
    exact ⟨j, h1, h, h2, h3, h4⟩
theorem atI_nat {α : Type} {xs : List α} {j : Nat} {v : α} (h : xs[j]? = some v) : atI xs (j : Int) = some v := by
  have hj : j < xs.length := (List.getElem?_eq_some_iff.mp h).1
  have e : ixN xs.length (j : Int) = some j := by
    unfold ixN
    rw [if_pos (by omega), if_pos (by omega)]; simp
  unfold atI; rw [e]; exact h
theorem atI_last {α : Type} (xs : List α) (v : α) : atI (xs ++ [v]) (-1) = some v := by
  have hl : (xs ++ [v]).length = xs.length + 1 := by simp
  have e : ixN (xs ++ [v]).length (-1) = some xs.length := by
    unfold ixN
    rw [hl, if_neg (by decide), if_pos (by omega)]
    congr 1
    omega
  unfold atI
  rw [e]
  show (xs ++ [v])[xs.length]? = some v
  simp
def PlainIx (b : Expr) : Prop := ∀ o i, subscripted b false o i = operate [o, i] (getItem o i)
def IxR (X : Cx) (r : R2) : Prop :=
  ∀ (value slice : Expr) (pins : List (Addr × Obj)) (s : Shared) (σ : St) (H : Hp) (x y : V) (v u : Value) (Q : VK), Inv X pins σ H s → RelV x v → RelV y u → r x y H Q →
    subscripted slice false v u = operate [v, u] (getItem v u) → wpAny (model X.prog X.w) X.A (subscriptTail value slice v u) (EP X pins σ Q) X.xe s
section
variable {X : Cx} {a b : Expr} {ta tb : TE} {pos : Pos}
theorem pe_ix {r : R2} (hr : IxR X r) (ha : PE X a ta) (hb : PE X b tb) (hs : PlainIx b) : PE X (.Subscript a b pos) (tOp r ta tb) := by
  intro pins s σ H Q I h
  exact Subscript_ (binT ha hb I h fun v u s2 x y H2 I2 rx ry q => hr a b pins s2 σ H2 x y v u Q I2 rx ry q (hs _ _))
def rIxL (K : PySem.W.Frag) : R2 := fun x y H Q => ∃ p xs i v, x = .ref p ∧ y = .int i ∧ SqL K H p xs ∧ atI xs i = some v ∧ Q v H
def rIxT (K : PySem.W.Frag) : R2 := fun x y H Q => ∃ p xs i v, x = .ref p ∧ y = .int i ∧ SqT K H p xs ∧ atI xs i = some v ∧ Q v H
theorem ix_list : IxR X (rIxL X.K) := by
  intro value slice pins s σ H x y v u Q I rx ry h hs
  obtain ⟨p, xs, i, z, rfl, rfl, hq, he, q⟩ := h
  cases rx
  obtain ⟨t, rfl⟩ := ry
  obtain ⟨its, r, pl, hz⟩ := I.list hq
  obtain ⟨j, h1, h2, h3, h4, h5⟩ := atI_get he
  obtain ⟨w, ew, rw'⟩ := r.get h2
  have hl := r.length
  have hn := line63
  have fin : EP X pins σ Q w s := ⟨z, H, I, rw', q⟩
  by_cases h0 : 0 ≤ i
  · have hj : i.toNat = j := by
      rw [seqIndex_of h0 h5] at h1
      exact Option.some.inj h1
    exact item_listR pl.isList h0 (by omega) (by rw [hj]; simpa using ew) fin hs
  · have hj : (i + (its.toArray.size : Int)).toNat = j := by
      rw [seqIndex_neg (by omega) h4] at h1
      rw [List.size_toArray, ← hl]
      exact Option.some.inj h1
    exact subscriptTail_builtinR (x := w) pl.isList.typeIs slot_list_getitem.lookup
      (wpAny_getItem_list_neg (Q := fun r s' => r = w ∧ EP X pins σ Q r s') pl.isList (by omega) (by rw [List.size_toArray] <;> omega) (by omega) (by rw [hj]; simpa using ew) ⟨rfl, fin⟩) hs
theorem ix_tup : IxR X (rIxT X.K) := by
  intro value slice pins s σ H x y v u Q I rx ry h hs
  obtain ⟨p, xs, i, z, rfl, rfl, hq, he, q⟩ := h
  cases rx
  obtain ⟨t, rfl⟩ := ry
  obtain ⟨its, r, pl, hz⟩ := I.tuple hq
  obtain ⟨j, h1, h2, h3, h4, h5⟩ := atI_get he
  obtain ⟨w, ew, rw'⟩ := r.get h2
  have hl := r.length
  have hn := line63
  have fin : EP X pins σ Q w s := ⟨z, H, I, rw', q⟩
  exact subscriptTail_builtinR (x := w) pl.typeIs slot_tuple_getitem.lookup
    (getItem_tuple (j := j) (Q := fun r s' => r = w ∧ EP X pins σ Q r s') pl (by omega) (by omega) (by rw [List.size_toArray, ← hl]; exact h1) (by simpa using ew) ⟨rfl, fin⟩) hs
theorem slice_bounds (lo hi : Option Int) (n : Nat) : (sliceBounds lo hi none n).1 = ((HT.sIx n 0 lo : Nat) : Int) ∧ (sliceBounds lo hi none n).2.1 = ((HT.sIx n n hi : Nat) : Int) ∧ (sliceBounds lo hi none n).2.2 = 1 := by
  refine ⟨?_, ?_, rfl⟩
  · cases lo with
    | none => simp [sliceBounds, HT.sIx]
    | some i =>
      simp only [sliceBounds, HT.sIx, Option.getD_none, show (1 : Int) > 0 by decide, if_true]
      by_cases h : i < 0
      · simp only [h, if_true] <;> omega
      · simp only [h, if_false] <;> omega
  · cases hi with
    | none => simp [sliceBounds, HT.sIx]
    | some i =>
      simp only [sliceBounds, HT.sIx, Option.getD_none, show (1 : Int) > 0 by decide, if_true]
      by_cases h : i < 0
      · simp only [h, if_true] <;> omega
      · simp only [h, if_false] <;> omega
theorem slicePick_cut (its : List Value) (lo hi : Option Int) : slicePick its.toArray lo hi none = ((its.drop (HT.sIx its.length 0 lo)).take (HT.sIx its.length its.length hi - HT.sIx its.length 0 lo)).toArray := by
  obtain ⟨h1, h2, h3⟩ := slice_bounds lo hi its.toArray.size
  unfold slicePick
  rw [h1, h2, h3]
  simp only [sliceRange_one, pick_run, List.size_toArray] <;> rfl
def rSlL (K : PySem.W.Frag) : V → Option Int → Option Int → Hp → VK → Prop := fun x lo hi H Q => ∃ a xs, x = .ref a ∧ SqL K H a xs ∧ ∀ p, H p = none → Q (.ref p) (upd H p (.lst (cutV xs lo hi)))
theorem sl_list : SlR X (rSlL X.K) := by
  intro pins s σ H x v vl vu lo hi sl Q I rx hs pl pu h
  obtain ⟨a, xs, rfl, hx, q⟩ := h
  cases rx
  obtain ⟨its, r, ht, hz⟩ := I.list hx
  have hlen := r.length
  refine ⟨"list", _, slot_list_getitem.lookup, ht.isList.typeIs, ?_⟩
  refine wpAny_getItem_list_slice ht.isList hs pl pu .none (by simp) ?_ (by rw [List.size_toArray] <;> omega)
  rw [slicePick_cut, ← hlen]
  refine ⟨.ref s.heap.objs.size, _, I.laid (t' := s.toks) (o := .lst (cutV xs lo hi)) (fun b ob q => Heap.get?_push_of_some _ q) (Nat.le_refl _) ?_, rfl, q _ (I.hok.fresh (Nat.le_refl _))⟩
  exact ⟨Nat.le_trans (cutV_length xs lo hi) hz, _, 0, (r.drop (HT.sIx xs.length 0 lo)).take (HT.sIx xs.length xs.length hi - HT.sIx xs.length 0 lo), Heap.get?_push_size _ rfl⟩
theorem call_len_seq : CallR X (.builtin "len") (fun xs H Q => ∃ p ys, xs = [.ref p] ∧ (SqL X.K H p ys ∨ SqT X.K H p ys) ∧ Q (.int ys.length) H) := by
  intro pins s σ H xs us Q I r h
  obtain ⟨p, ys, rfl, hq, q⟩ := h
  obtain ⟨u, rfl, rx⟩ := vals1 r
  cases rx
  have hn := line63
  rcases hq with hq | hq
  · obtain ⟨its, r', pl, hz⟩ := I.list hq
    have hlen := r'.length
    exact Calls.call_len_list pl.isList (by simp only [List.size_toArray] <;> omega) ⟨.int ys.length, H, I.tok _, ⟨s.toks + 1, by rw [List.size_toArray, hlen]⟩, q⟩
  · obtain ⟨its, r', pl, hz⟩ := I.tuple hq
    have hlen := r'.length
    exact len_tuple pl (by simp only [List.size_toArray] <;> omega) ⟨.int ys.length, H, I.tok _, ⟨s.toks + 1, by rw [List.size_toArray, hlen]⟩, q⟩
theorem call_list_of : CallR X (.type "list") (fun xs H Q => ∃ p ys, xs = [.ref p] ∧ (SqL X.K H p ys ∨ SqT X.K H p ys) ∧ ∀ l, H l = none → Q (.ref l) (upd H l (.lst ys))) := by
  intro pins s σ H xs us Q I r h
  obtain ⟨p, ys, rfl, hq, q⟩ := h
  obtain ⟨u, rfl, rx⟩ := vals1 r
  cases rx
  have fin : ∀ (its : List Value), Vals ys its → ys.length ≤ sizeLine → ∀ (h' : Heap) (c' : Nat), (∀ b o', s.heap.get? b = some o' → h'.get? b = some o') →
      h'.get? s.heap.objs.size = some { cls := .type "list", dict := none, data := .seq its.toArray c', slots := #[] } → EP X pins σ Q (.ref s.heap.objs.size) { s with heap := h' } := fun its r' hz h' c' kp e =>
    ⟨.ref s.heap.objs.size, _, I.laid (t' := s.toks) kp (Nat.le_refl _) (show ObjOk X.prog X.w _ h' _ (.lst ys) from ⟨hz, its, c', r', e⟩), rfl, q _ (I.hok.fresh (Nat.le_refl _))⟩
  rcases hq with hq | hq
  · obtain ⟨its, r', pl, hz⟩ := I.list hq
    have hlen := r'.length
    obtain ⟨o, ho, hc, n, hd⟩ := pl.isList
    exact call_list_seq p (.inl rfl) ho hc hd (fun h' c' kp e => fin its r' hz h' c' kp e) (by simp only [List.size_toArray] <;> omega)
  · obtain ⟨its, r', pl, hz⟩ := I.tuple hq
    have hlen := r'.length
    obtain ⟨o, ho, hc, n, hd⟩ := pl
    exact call_list_seq p (.inr rfl) ho hc hd (fun h' c' kp e => fin its r' hz h' c' kp e) (by simp only [List.size_toArray] <;> omega)
variable {o e : Expr} {es : List Expr} {to : TE} {t : TA} {name : Str} {apos cpos : Pos} {T id : String} {r : V → List V → Hp → VK → Prop}
end
end L2
namespace L2
open PySem PySem.Spec PyProof.Rows
section
variable {X : Cx} {pins : List (Addr × Obj)} {σ : St} {H : Hp} {s : Shared} {l b : Addr} {xs ys zs : List V}
theorem Inv.lnew {its : List Value} {t' : Nat} (I : Inv X pins σ H s) (hv : Vals ys its) (hz : ys.length ≤ sizeLine) :
    Inv X pins σ (upd H s.heap.objs.size (.lst ys)) { s with heap := s.heap.push { cls := .type "list", data := .seq its.toArray }, toks := t' } :=
  I.laid (fun _ _ q => Heap.get?_push_of_some _ q) (Nat.le_refl _) ⟨hz, its, 0, hv, Heap.get?_push_size _ rfl⟩
theorem Inv.fresh (I : Inv X pins σ H s) : H s.heap.objs.size = none := I.hok.fresh (Nat.le_refl _)
theorem Inv.lstM (I : Inv X pins σ H s) (hH : H l = some (.lst xs)) : xs.length ≤ sizeLine ∧ ∃ (its : List Value) (n : Nat), Vals xs its ∧ xs.length = its.length ∧ s.heap.get? l = some { cls := .type "list", data := .seq its.toArray n } := by
  obtain ⟨z, its, n, r, e⟩ := I.hok l _ hH
  exact ⟨z, its, n, r, r.length, e⟩
end
section
variable {X : Cx}
def rCat : R2 := fun x y H Q => ∃ l b xs zs, x = .ref l ∧ y = .ref b ∧ H l = some (.lst xs) ∧ H b = some (.lst zs) ∧ xs.length + zs.length ≤ sizeLine ∧ ∀ p, H p = none → Q (.ref p) (upd H p (.lst (xs ++ zs)))
theorem op_cat : OpR X (binaryOp .Add) rCat := by
  intro pins s σ H x y v u Q I rx ry h
  obtain ⟨l, b, xs, zs, rfl, rfl, hH, hB, hz, q⟩ := h
  cases rx
  cases ry
  obtain ⟨z, its, n, r, hl, e⟩ := I.lstM hH
  obtain ⟨z2, its2, n2, r2, hl2, e2⟩ := I.lstM hB
  refine PySem.P.add_list e e2 ?_ (by rw [List.size_toArray, List.size_toArray]; omega)
  have ea : its.toArray ++ its2.toArray = (its ++ its2).toArray := by simp
  rw [ea]
  exact ⟨.ref _, _, I.lnew (t' := s.toks) (r.append r2) (by rw [List.length_append]; omega), rfl, q _ I.fresh⟩
end
end L2
namespace Att
open PySem PySem.W PySem.Calls PyProof.Rows
theorem ints_of_wellAll {P : Params} {h : Heap} : ∀ (ns : List Int) (vs : List Value), WellAll P h vs (ns.map WData.int) → IntsAre vs ns := by
  intro ns
  induction ns with
  | nil =>
    intro vs w
    rw [List.map_nil] at w
    cases w
    exact .nil
  | cons n ns ih =>
    intro vs w
    rw [List.map_cons] at w
    cases w with
    | cons a b =>
      cases a
      exact .cons _ _ (ih _ b)
theorem script_of {l : OpenLaw} {n : Nat} (hn : l.most = some n) {P : Params} {h : Heap} {args : List WData} {vals : List Value}
    (hpre : l.row.toRowW.claim.pre args = true) (hwl : WellAll P h vals args) :
    ∃ a vs ns, vals = [Value.ref a] ∧ args = [WData.list (ns.map WData.int)] ∧ h.get? a = some { cls := .type "list", data := .seq vs.toArray } ∧ IntsAre vs ns ∧ ns.length ≤ n := by
  have hsh : WShape.hasAll [] args [.list .int] = true := (pre_splitW hpre).1
  have hc : l.pre.holds [] { args := args } = true := (pre_splitW hpre).2
  obtain ⟨d, r, rfl, h1, h2⟩ := hasAllW_cons hsh
  obtain rfl := hasAllW_nil h2
  obtain ⟨xs, rfl, h3⟩ := hasW_list h1
  obtain ⟨ns, rfl⟩ := items_int h3
  have hlen : ns.length ≤ n := by
    unfold OpenLaw.pre at hc
    have h4 : (WTm.not (.lt (.lit (.int (n : Int))) (.len (.arg 0)))).holds [] { args := [.list (ns.map .int)] } = true := by
      have h4 := (holds_andW hc).1
      rw [hn] at h4
      exact h4
    have h5 := condW_of h4 (w_not (w_lt w_lit (w_len_list (w_arg rfl))))
    rw [List.length_map] at h5
    refine Nat.le_of_not_lt fun q => ?_
    have q' : (n : Int) < ((ns.length : Nat) : Int) := by omega
    first
      | (rw [decide_eq_true q'] at h5; exact absurd h5 (by decide))
      | (simp at h5; omega)
  cases hwl with
  | cons w1 w2 =>
    cases w2
    cases w1 with
    | list ho hall => exact ⟨_, _, ns, rfl, rfl, ho, ints_of_wellAll ns _ hall, hlen⟩
theorem post_true (l : OpenLaw) (args : List WData) : l.row.toRowW.claim.post args (.bool true) args = true :=
  postW_of (r := l.row.toRowW) (X := (true == true))
    (show WShape.has [] (.bool true) .bool = true by first | rfl | decide | simp [WShape.has, WShape.arms, WShape.armsAll])
    (show (WTm.eq .res (.lit (.bool true))).value [] { args := args, res := some (.bool true), after := args } = some (.bool (true == true)) from w_eq_bool (w_res rfl) w_lit) rfl
theorem attach_call {l : OpenLaw} {n : Nat} {q : Program} {loose : List Str} {XP : (Str → Option Value) → Heap → Prop} {YP : World → Heap → Prop} {d : DefRec}
    (hn : l.most = some n) (hdf : d.params.defaults = [])
    (call : ∀ (w : World) (s₀ s₁ : Shared) (mg mb : Str → Option Value) (fa : Addr) (o : Obj) (pm cd doc : Value) (a : Addr) (vs : List Value) (ns : List Int),
      Ground q loose [] XP w s₀ mg mb s₁.heap → YP w s₁.heap →
      s₁.heap.get? fa = some o → o.data = .func (docDef d.name d.params d.body d.scope pm cd doc) → s₁.heap.CodeRec cd d.name → mg d.name = some (.ref fa) →
      s₁.heap.get? a = some { cls := .type "list", data := .seq vs.toArray } → IntsAre vs ns → ns.length ≤ n → s₁.gens = #[] →
      codeAny (model l.prog w) callerA (.call (.ref fa) ⟨[.ref a], []⟩) (fun r s' => r = .ok (.ret (.bool true)) ∧ OldK s₁.heap s'.heap ∧ s'.os = s₁.os ∧ AllBare s'.gens) s₁) :
    WalkO q loose XP YP l.row.toRowW d [] (fun f vs => PySem.call f vs) := by
  intro w s₀ s₁ mg mb G Y fa o pm cd doc dV kV ho hd hcd hD hmg hg args vals as hpre hlay hrd hwl hlo
  obtain rfl : dV = .none := Dflts.none hD hdf
  obtain rfl : kV = .none := Dflts.noKw hD
  obtain ⟨a, vs, ns, rfl, rfl, hobj, hints, hlen⟩ := script_of hn hpre hwl
  refine enter_call (codeAny_mono (call w s₀ s₁ mg mb fa o pm cd doc a vs ns G Y ho (fd_plain hd) hcd hmg hobj hints hlen hg) fun r s' hq => ?_)
  obtain ⟨rfl, h2, h3, h4⟩ := hq
  exact ⟨.inl ⟨.bool true, .bool true, [], rfl, fun _ => rfl, .bool true, post_true l _, fun _ => ⟨List.Pairwise.nil, fun _ hm => (nomatch hm)⟩⟩, h2, h3, h4⟩
end Att
namespace L2
open PySem PySem.Spec PyProof.Rows
theorem vals_ints : ∀ {vs : List Value} {ns : List Int}, IntsAre vs ns → Vals (ns.map V.int) vs
  | _, _, .nil => .nil
  | _, _, .cons n t h => .cons ⟨t, rfl⟩ (vals_ints h)
def Only (H : Hp) : Prop := ∀ b, H b = none ∨ ∃ o xs, H b = some (.frz o (.lst xs))
theorem law_call {P : Program} {w : World} {K : PySem.W.Frag} {mg mb : Str → Option Value} {CX : CXT} {k : Nat} {fa a : Addr} {fd : FuncData} {x : Str} {sp : Sp} {s₁ : Shared} {vs : List Value} {ns : List Int}
    (KX : K.In s₁.heap) (hns : s₁.heap.Ns mainGlobals mg) (hb : s₁.heap.Ns builtinsNs mb) (hbb : ∀ x : Str, x ≠ "__name__" → mb x = bootBuiltins x) (hlim : s₁.heap.NoLimit) (hg : s₁.gens = #[])
    (ha : s₁.heap.get? a = some { cls := .type "list", data := .seq vs.toArray }) (hi : IntsAre vs ns) (hl : ns.length ≤ sizeLine) (hr : Room k callerA)
    (F : ∀ base : Heap, K.In base → base.Ns mainGlobals mg → FnOk P w K mg base CX k fa fd [x] sp) (hbind : ∀ (s : Shared) (u : Value), BindsTo s fd ⟨[u], []⟩ [(x, u)])
    (hsp : ∀ H : Hp, Only H → SqL K H a (ns.map V.int) → sp [.ref a] H (fun v _ => v = .bl true) fun _ _ _ => False)
    (hCX : ∀ H e s', CX [] H s₁ (fun _ _ _ => False) e s' → False) :
    codeAny (model P w) callerA (.call (.ref fa) ⟨[.ref a], []⟩) (fun r s' => r = .ok (.ret (.bool true)) ∧ OldK s₁.heap s'.heap ∧ s'.os = s₁.os ∧ AllBare s'.gens) s₁ := by
  have rv := vals_ints hi
  have lenV := hi.length
  -- from an abstract heap in which nothing but the script may be tracked
  have core : ∀ H : Hp, Only H → SqL K H a (ns.map V.int) → HOk P w H s₁.heap → (∀ b, H b ≠ none → b = a) → (H a ≠ none → K.lookup a = none) →
      codeAny (model P w) callerA (.call (.ref fa) ⟨[.ref a], []⟩) (fun r s' => r = .ok (.ret (.bool true)) ∧ OldK s₁.heap s'.heap ∧ s'.os = s₁.os ∧ AllBare s'.gens) s₁ := by
    intro H hO hS hok hA hK
    have base_of : ∀ {b : Addr} {o : Obj}, s₁.heap.get? b = some o → H b = none → (hidT s₁.heap H).get? b = some o := fun e n => hidT_get e n
    have noA : ∀ {b : Addr} {o : Obj} {es : Array DictEntry} {ep : Nat}, s₁.heap.get? b = some o → o.data = .dict es ep → H b = none := fun {b o es ep} e d => by
      cases q : H b with
      | none => rfl
      | some u =>
        have e' : b = a := hA b (by rw [q]; simp)
        subst e'
        rw [ha] at e; cases e
        have d' : Data.seq vs.toArray _ = Data.dict es ep := d
        cases d'
    have nsK : ∀ {b : Addr} {m : Str → Option Value}, s₁.heap.Ns b m → (hidT s₁.heap H).Ns b m := fun {b m} ⟨o, es, ep, e, d, r⟩ => ⟨o, es, ep, base_of e (noA e d), d, r⟩
    have hKb : K.In (hidT s₁.heap H) := fun b o e => base_of (KX b o e) (by
      cases q : H b with
      | none => rfl
      | some u =>
        have e' : b = a := hA b (by rw [q]; simp)
        subst e'
        rw [hK (by rw [q]; simp)] at e; cases e)
    have hM : Mod K mg (hidT s₁.heap H) := ⟨hKb, nsK hns, ⟨mb, nsK hb, hbb⟩, let ⟨mc, h1, h2⟩ := hlim; ⟨mc, nsK h1, h2⟩⟩
    have e0 : Env0 P w K mg (hidT s₁.heap H) callerA [] s₁ H := ⟨rfl, hM, fun b o e => of_hidT e, Nat.le_of_eq (hidT_size _ _), trivial, fun b hb => absurd (show b ∈ ([] : List Addr) from hb) (by simp), hok, .of_eq hg⟩
    refine codeAny_mono ((F _ hKb (nsK hns)).run callerA [] s₁ H ⟨[.ref a], []⟩ [.ref a] [.ref a] _ _ hr e0 (hbind s₁ (.ref a)) (.cons rfl .nil) (hsp H hO hS)) fun r s' h => ?_
    cases r with
    | error e => exact (hCX H e s' h).elim
    | ok fl =>
      cases fl with
      | next => exact False.elim h
      | brk => exact False.elim h
      | cont => exact False.elim h
      | ret u =>
        obtain ⟨v, H', os, bare, un, hok', r', q⟩ := h
        have q' : v = .bl true := q
        subst q'
        obtain rfl : u = Value.bool true := r'
        refine ⟨rfl, OldK.of_keep fun b o e => ?_, os, bare⟩
        cases q : H b with
        | none => exact un.keep b o e q (by intro z; exact absurd (show b ∈ ([] : List Addr) from z) (by simp)) (by simp)
        | some u =>
          rcases hO b with z | ⟨ob, xs, z⟩
          · rw [q] at z; cases z
          · have z2 := un.frzs b ob _ z
            obtain ⟨e1, _⟩ := hok b _ z
            obtain ⟨e2, _⟩ := hok' b _ z2
            rw [e] at e1; cases e1
            exact e2
  cases hk : K.lookup a with
  | some o =>
    -- the script is one of the module's own objects
    have e := KX a o hk
    rw [ha] at e
    cases e
    refine core (fun _ => none) (fun _ => .inl rfl) (.inr ⟨_, vs.toArray, _, hk, rfl, rfl, rfl, by rw [List.size_toArray, lenV]; exact hl, by simpa using rv⟩) (fun b u z => by have z' : (none : Option HO) = some u := z; cases z') (fun b z => absurd rfl z) fun z => absurd rfl z
  | none =>
    refine core (fun b => if b = a then some (.frz { cls := .type "list", data := .seq vs.toArray } (.lst (ns.map V.int))) else none) (fun b => ?_) (.inl (.inr ⟨{ cls := .type "list", data := .seq vs.toArray }, if_pos rfl⟩)) (fun b u z => ?_) (fun b z => ?_) fun _ => hk
    · by_cases hb : b = a
      · exact .inr ⟨_, _, if_pos hb⟩
      · exact .inl (if_neg hb)
    · by_cases hb : b = a
      · have z' := (if_pos hb).symm.trans z
        cases z'
        subst hb
        exact ⟨ha, by rw [List.length_map]; exact hl, vs, _, rv, ha⟩
      · have z' := (if_neg hb).symm.trans z
        cases z'
    · by_cases hb : b = a
      · exact hb
      · exact absurd (if_neg hb) z
end L2
namespace L2
open PySem PySem.Spec PyProof.Rows
abbrev KOf {K : PySem.W.Frag} {h : Heap} (_ : K.In h) : PySem.W.Frag := K
theorem walk_of {l : PySem.W.OpenLaw} {n k : Nat} {q : Program} {loose : List Str} {XP : (Str → Option Value) → Heap → Prop} {YP : World → Heap → Prop} {d : DefRec} {K : Params → PySem.W.Frag} {CX : World → CXT} {sp : World → Sp} {x : Str}
    (hn : l.most = some n) (hn2 : n ≤ sizeLine) (hdf : d.params.defaults = []) (hr : Room k callerA)
    (hY : ∀ (w : World) (h : Heap), YP w h → (K w.params).In h)
    (F : ∀ (w : World) (mg : Str → Option Value) (fa : Addr) (h : Heap), (K w.params).In h → h.Ns mainGlobals mg → mg d.name = some (.ref fa) →
      ∃ fd : FuncData, (∀ (s : Shared) (u : Value), BindsTo s fd ⟨[u], []⟩ [(x, u)]) ∧
        ∀ base : Heap, (K w.params).In base → base.Ns mainGlobals mg → FnOk l.prog w (K w.params) mg base (CX w) k fa fd [x] (sp w))
    (hsp : ∀ (w : World) (H : Hp) (a : Addr) (ns : List Int), ns.length ≤ n → Only H → SqL (K w.params) H a (ns.map V.int) → sp w [.ref a] H (fun v _ => v = .bl true) fun _ _ _ => False)
    (hCX : ∀ (w : World) (H : Hp) (s : Shared) (e : Value) (s' : Shared), CX w [] H s (fun _ _ _ => False) e s' → False) :
    PySem.W.WalkO q loose XP YP l.row.toRowW d [] (fun f vs => PySem.call f vs) := by
  refine Att.attach_call hn hdf fun w s₀ s₁ mg mb fa o pm cd doc a vs ns G Y ho hd hcd hmg hobj hints hlen hg => ?_
  have KX := hY w _ Y
  obtain ⟨fd, hb, hF⟩ := F w mg fa _ KX G.T.g hmg
  exact law_call KX G.T.g G.T.b G.T.builtins G.T.nolimit hg hobj hints (Nat.le_trans hlen hn2) hr hF hb (fun H hO hS => hsp w H a ns hlen hO hS) fun H e s' => hCX w H s₁ e s'
end L2
namespace L2
open PySem PySem.Spec PyProof.Rows
def defArgs (s : Stmt) : Arguments := match s with
  | .FunctionDef _ a _ _ _ _ _ _ _ _ => a
  | _ => { posonlyargs := [], args := [], vararg := none, kwonlyargs := [], kw_defaults := [], kwarg := none, defaults := [] }
def defBody (s : Stmt) : List Stmt := match s with
  | .FunctionDef _ _ b _ _ _ _ _ _ _ => b
  | _ => []
def defScope (s : Stmt) : Scope := match s with
  | .FunctionDef _ _ _ _ _ _ sc _ _ _ => sc
  | _ => { kind := .function, names := [], isGenerator := false, isCoroutine := false }
abbrev E0 : XK := fun _ _ _ => False
structure Fun (K : PySem.W.Frag) (x qual : Str) (st : Stmt) (f : Addr) (fd : FuncData) : Prop where
  ex : ∃ (oc : Value) (od : Option Addr) (kV doc pm : Value) (an : Option Addr) (cdv ct : Value) (osl : Array (Option Value)),
    fd = PySem.W.fnOf x qual (defArgs st) (defBody st) (defScope st) .none kV doc pm an cdv ct ∧ K.lookup f = some ⟨oc, od, .func fd, osl⟩ ∧ PySem.W.codeIn K cdv qual = true
  kp : PySem.W.keepIn K (.ref f) = true
section
variable {P : Program} {w : World} {K : PySem.W.Frag} {mg : Str → Option Value} {base : Heap}
theorem Fun.binds {x qual : Str} {st : Stmt} {f : Addr} {fd : FuncData} {ps : List Str} (F : Fun K x qual st f fd)
    (h : ∀ (kV doc pm : Value) (an : Option Addr) (cdv ct : Value) (us : List Value), us.length = ps.length → bindArgs (PySem.W.fnOf x qual (defArgs st) (defBody st) (defScope st) .none kV doc pm an cdv ct) ⟨us, []⟩ = pure (ps.zip us)) : Binds K fd ps [] := by
  obtain ⟨oc, od, kV, doc, pm, an, cdv, ct, osl, rfl, lk, hcd⟩ := F.ex
  exact .all (h kV doc pm an cdv ct)
theorem fun_mk {x qual : Str} {st : Stmt} {f : Addr} {oc : Value} {od an : Option Addr} {osl : Array (Option Value)} {kV doc pm cdv ct : Value} (l : K.lookup f = some ⟨oc, od, .func (PySem.W.fnOf x qual (defArgs st) (defBody st) (defScope st) .none kV doc pm an cdv ct), osl⟩)
    (c : PySem.W.codeIn K cdv qual = true) (k : PySem.W.keepIn K (.ref f) = true) : Fun K x qual st f (PySem.W.fnOf x qual (defArgs st) (defBody st) (defScope st) .none kV doc pm an cdv ct) := ⟨⟨oc, od, kV, doc, pm, an, cdv, ct, osl, rfl, l, c⟩, k⟩
end
theorem small1000 {n : Nat} (h : n ≤ 1000) : n < sizeLine := Nat.lt_of_le_of_lt h (by decide)
section
variable {X : Cx}
theorem pv (i : Nat) {x : Str} {pos : Pos} (hN : X.N[i]? = some x := by rfl) (hv : Vis X.env.scope x := by first | exact Or.inl rfl | exact Or.inr (Or.inl rfl) | exact Or.inr (Or.inr rfl)) (hd : (x == ("__debug__" : Str)) = false := by decide)
    (hcd : (x == ("__classdict__" : Str)) = false := by decide) : PE X (.Name x pos) (tVar i) := pe_var hN hv hd hcd
end
theorem iteF {A B : Prop} (h : B) : if false = true then A else B := by
  rw [if_neg Bool.false_ne_true]
  exact h
theorem iteT {A B : Prop} (h : A) : if true = true then A else B := by
  rw [if_pos rfl]
  exact h
theorem ite2 {c A B : Prop} [Decidable c] (h1 : c → A) (h2 : ¬ c → B) : if c then A else B := by
  by_cases h : c
  · rw [if_pos h]
    exact h1 h
  · rw [if_neg h]
    exact h2 h
def Same (H H' : Hp) : Prop := ∀ b o, H b = some o → H' b = some o
theorem Same.refl (H : Hp) : Same H H := fun _ _ h => h
theorem Same.trans {H H1 H2 : Hp} (a : Same H H1) (b : Same H1 H2) : Same H H2 := fun c o h => b c o (a c o h)
theorem Same.seq {K : PySem.W.Frag} {H H' : Hp} {a : Addr} {xs : List V} (e : Same H H') (h : SqL K H a xs) : SqL K H' a xs := by
  rcases h with (h | ⟨o, h⟩) | h
  · exact .inl (.inl (e _ _ h))
  · exact .inl (.inr ⟨o, e _ _ h⟩)
  · exact .inr h
end L2
namespace L2
open PySem PySem.Spec PyProof.Rows
section
variable {X : Cx}
def CDivW (_ j : Int) : Prop := j ≠ 0 ∧ j.natAbs.log2 < 9000
theorem op_fdivW : OpR X (binaryOp .FloorDiv) (rI CDivW fun i j => .int (i.fdiv j)) := opI fun _ _ _ _ _ _ _ hc q => floordiv_int hc.1 q (.inl (PyProof.noPylong_of_log2 hc.2))
theorem bits_le {i : Int} {k : Nat} (h : i.natAbs < 2 ^ k) : Builtin.Int.intBits i ≤ k := by
  unfold Builtin.Int.intBits
  split
  · exact Nat.zero_le _
  · rename_i z
    have z' : i.natAbs ≠ 0 := fun e => z (beq_iff_eq.mpr (Int.natAbs_eq_zero.mp e))
    exact (Nat.log2_lt z').mpr h
def CMulW (i j : Int) : Prop := i.natAbs < 2 ^ 10000 ∧ j.natAbs < 2 ^ 10000
theorem CMulW.ok {i j : Int} (h : CMulW i j) : IntMulOk i j := .of_bits (Nat.le_trans (bits_le h.1) (by decide)) (Nat.le_trans (bits_le h.2) (by decide))
theorem op_mulW : OpR X (binaryOp .Mult) (rI CMulW fun i j => .int (i * j)) := opI fun _ _ _ _ _ _ _ hc q => mul_int q hc.ok
end
mutual
inductive DV (K : PySem.W.Frag) (H : Hp) : V → PyData → Prop
  | non : DV K H .non .none
  | bl (b : Bool) : DV K H (.bl b) (.bool b)
  | int (i : Int) : DV K H (.int i) (.int i)
  | str (x : Str) : DV K H (.str x) (.str x)
  | lst {a : Addr} {xs : List V} {ds : List PyData} : SqL K H a xs → DVs K H xs ds → DV K H (.ref a) (.list ds)
  | tup {a : Addr} {xs : List V} {ds : List PyData} : SqT K H a xs → DVs K H xs ds → DV K H (.ref a) (.tuple ds)
  | dct {a : Addr} {kvs : List (Key × V)} : H a = some (.dK kvs) → DV K H (.ref a) (.dict [])
inductive DVs (K : PySem.W.Frag) (H : Hp) : List V → List PyData → Prop
  | nil : DVs K H [] []
  | cons {v : V} {vs : List V} {d : PyData} {ds : List PyData} : DV K H v d → DVs K H vs ds → DVs K H (v :: vs) (d :: ds)
end
section
variable {X : Cx} {pins : List (Addr × Obj)} {σ : St} {H : Hp} {s : Shared}
mutual
theorem DV.reads (I : Inv X pins σ H s) : ∀ {v : V} {d : PyData}, DV X.K H v d → d.canLay0 = true → ∀ {u : Value}, RelV v u → ∃ as, Reads s.heap u d as
  | _, _, .non, _, _, r => by cases r; exact ⟨_, .none⟩
  | _, _, .bl b, _, _, r => by cases r; exact ⟨_, .bool b⟩
  | _, _, .int i, _, _, r => by obtain ⟨t, rfl⟩ := r; exact ⟨_, .int i t⟩
  | _, _, .str x, _, _, r => by obtain ⟨t, rfl⟩ := r; exact ⟨_, .str x t⟩
  | _, _, .lst h q, c, _, r => by
    cases r
    obtain ⟨its, rv, pl, _⟩ := I.list h
    obtain ⟨as, ra⟩ := DVs.reads I q c rv
    obtain ⟨o, ho, hc, n, hd⟩ := id pl.isList
    exact ⟨_, .list ho hc hd ra⟩
  | _, _, .tup h q, c, _, r => by
    cases r
    obtain ⟨its, rv, pl, _⟩ := I.tuple h
    obtain ⟨as, ra⟩ := DVs.reads I q c rv
    obtain ⟨o, ho, hc, n, hd⟩ := id pl
    exact ⟨_, .tuple ho hc hd ra⟩
  | _, _, .dct h, c, _, r => nomatch c
theorem DVs.reads (I : Inv X pins σ H s) : ∀ {vs : List V} {ds : List PyData}, DVs X.K H vs ds → PyData.canLayAll0 ds = true → ∀ {us : List Value}, Vals vs us → ∃ as, ReadsAll s.heap us ds as
  | _, _, .nil, _, _, r => by cases r; exact ⟨_, .nil⟩
  | _, _, .cons h q, c, _, r => by
    rw [PyData.canLayAll0] at c
    cases r with
    | cons r1 r2 =>
      obtain ⟨a1, z1⟩ := DV.reads I h (Bool.and_eq_true_iff.mp c).1 r1
      obtain ⟨a2, z2⟩ := DVs.reads I q (Bool.and_eq_true_iff.mp c).2 r2
      exact ⟨_, .cons z1 z2⟩
end
end
section
variable {X : Cx}
def rNeD (K : PySem.W.Frag) : R2 := fun x y H Q => ∃ d e, DV K H x d ∧ DV K H y e ∧ SeqAt.shaped d = true ∧ SeqAt.shaped e = true ∧ Q (.bl (!PyData.eqv d e)) H
theorem op_neD (hu : X.A.units + 64 < cLine) : OpR X (compareOp .NotEq) (rNeD X.K) := by
  intro pins s σ H x y v u Q I rx ry h
  obtain ⟨d, e, hd, he, sd, se, q⟩ := h
  obtain ⟨a1, r1⟩ := hd.reads I (SeqAt.canLay_of_shaped sd) rx
  obtain ⟨a2, r2⟩ := he.reads I (SeqAt.canLay_of_shaped se) ry
  exact ne_dataH r1 r2 sd se hu ⟨.bl _, H, I, rfl, q⟩
end
structure TopFn (K : PySem.W.Frag) (mg : Str → Option Value) (x : Str) (st : Stmt) : Prop where
  ex : ∃ (f : Addr) (fd : FuncData), Fun K x x st f fd ∧ mg x = some (.ref f)
theorem same_new {H : Hp} {p : Addr} (h : H p = none) (o : HO) : Same H (upd H p o) := fun b u q => by rw [upd_ne (ne_of_none q h)]; exact q
end L2
namespace L2
open PySem PySem.Spec PyProof.Rows
theorem bt_int : bootBuiltins "int" = some (.type "int") := by decide +kernel
theorem bt_bool : bootBuiltins "bool" = some (.type "bool") := by decide +kernel
theorem bt_list : bootBuiltins "list" = some (.type "list") := by decide +kernel
theorem bt_len : bootBuiltins "len" = some (.builtin "len") := by decide +kernel
theorem bt_abs : bootBuiltins "abs" = some (.builtin "abs") := by decide +kernel
theorem bt_isinstance : bootBuiltins "isinstance" = some (.builtin "isinstance") := by decide +kernel
def bsub (t T : String) : Option Bool := if (Value.type t == Value.type T) = true then some true else if PySem.W.kitMeta T = true then (fastBuiltinMro t).map (·.contains (Value.type T)) else none
theorem kit_b {K : PySem.W.Frag} {t T : String} {b : Bool} (h : bsub t T = some b) : PySem.W.kitOne K (.type t) (.type T) = some b := h
theorem topFn_mk {K : PySem.W.Frag} {h : Heap} {mg : Str → Option Value} {x : Str} {st : Stmt} {f : Addr} {oc : Value} {od an : Option Addr} {sl : Array (Option Value)} {kV dc pm cd ct : Value} (X : K.In h) (G : h.Ns mainGlobals mg)
    (a : PySem.W.nsIn K mainGlobals x = some (some (.ref f))) (l : K.lookup f = some ⟨oc, od, .func (PySem.W.fnOf x x (defArgs st) (defBody st) (defScope st) .none kV dc pm an cd ct), sl⟩) (c : PySem.W.codeIn K cd x = true) (k : PySem.W.keepIn K (.ref f) = true) : TopFn K mg x st :=
  ⟨f, _, fun_mk l c k, PySem.W.mg_of X G a⟩
section
variable {X : Cx} {es : List Expr} {te : TE} {t : TA}
theorem pa_const {c : Const} {j : Nat} {p : Pos} (ha : PE X (.Constant c j p) te) (hr : PA X es t) : PA X (.Constant c j p :: es) (tCons te t) := pa_cons ha hr (by rfl)
theorem pa_name {x : Str} {p : Pos} (ha : PE X (.Name x p) te) (hr : PA X es t) : PA X (.Name x p :: es) (tCons te t) := pa_cons ha hr (by rfl)
theorem pa_tuple {xs : List Expr} {k : Nat} {p : Pos} (ha : PE X (.Tuple xs k p) te) (hr : PA X es t) : PA X (.Tuple xs k p :: es) (tCons te t) := pa_cons ha hr (by rfl)
theorem pa_call {f : Expr} {as : List Expr} {kw : List Keyword} {p : Pos} (ha : PE X (.Call f as kw p) te) (hr : PA X es t) : PA X (.Call f as kw p :: es) (tCons te t) := pa_cons ha hr (by rfl)
theorem pa_bin {a : Expr} {o : Operator} {b : Expr} {p : Pos} (ha : PE X (.BinOp a o b p) te) (hr : PA X es t) : PA X (.BinOp a o b p :: es) (tCons te t) := pa_cons ha hr (by rfl)
theorem pa_sub {a b : Expr} {p : Pos} (ha : PE X (.Subscript a b p) te) (hr : PA X es t) : PA X (.Subscript a b p :: es) (tCons te t) := pa_cons ha hr (by rfl)
end
end L2
namespace L2
open PySem PySem.Spec PyProof.Rows
def Trc (base : Heap) (e : Addr) (c : Value) (d : Option Addr) (fl : Value) (h : Heap) : Prop :=
  ∃ (o oT : Obj) (vs ts : Array Value) (T : Addr), h.get? e = some o ∧ o.cls = c ∧ o.dict = d ∧ o.data = .fields vs ∧ vs[1]? = some (.ref T) ∧ base.get? T = none ∧ T ≠ e ∧ h.get? T = some oT ∧ oT.data = .fields ts ∧ ts[3]? = some fl
def FlyD (base : Heap) (l : List Env) (e : Addr) (c : Value) (d : Option Addr) (fl : Value) (h : Heap) : Prop :=
  base.StaysIn h ∧ base.get? e = none ∧ h.FunFrames base l ∧ Trc base e c d fl h
end L2
namespace L2
open PySem PySem.Spec PyProof.Rows
def CX1 (P : Program) (w : World) : CXT := fun outer H s E e s' => ∃ (a C : Addr) (d : Option Addr) (H' : Hp) (B : Heap), e = .ref a ∧ s'.os = s.os ∧ AllBare s'.gens ∧
  (∀ h'' : Heap, B.StaysIn h'' → s'.heap.UpToSlots h'' → Un (frs outer) [] H H' s.heap h'' ∧ HOk P w H' h'') ∧ FlyD B outer a (.ref C) d .none s'.heap ∧ H' a = none ∧ s.heap.get? a = none ∧ E (.ref C) d H'
end L2
namespace L2
open PySem PySem.Spec PyProof.Rows
structure RoomB (c : Bool) (k : Nat) (A : Around) : Prop where
  hd : c = true → A.handled = none
  dp : A.depth + 3 * k + 5 < recursionLimit
  un : A.units + 16 * k + 200 < cLine
theorem RoomB.mono {c : Bool} {j k : Nat} {A : Around} (r : RoomB c k A) (h : j ≤ k) : RoomB c j A := ⟨r.hd, by have := r.dp; omega, by have := r.un; omega⟩
theorem RoomB.deeper {c : Bool} {k : Nat} {A : Around} (r : RoomB c (k + 1) A) (env : Env) : RoomB c k (A.deeper env) :=
  ⟨r.hd, by have := r.dp; show A.depth + 1 + 3 * k + 5 < _; omega, by have := r.un; show A.units + 3 + 16 * k + 200 < _; omega⟩
theorem RoomB.depth {c : Bool} {k : Nat} {A : Around} (r : RoomB c k A) : A.depth < recursionLimit := by have := r.dp; omega
theorem RoomB.units {c : Bool} {k : Nat} {A : Around} (r : RoomB c k A) : A.units + 64 < cLine := by have := r.un; omega
theorem Room.b {k : Nat} {A : Around} (r : Room k A) : RoomB true k A := ⟨fun _ => r.hd, r.dp, r.un⟩
structure FnB (P : Program) (w : World) (K : PySem.W.Frag) (mg : Str → Option Value) (base : Heap) (c : Bool) (k : Nat) (f : Addr) (fd : FuncData) (ps : List Str) (sp : Sp) : Prop where
  len : ∀ vs H Q E, sp vs H Q E → vs.length = ps.length
  run : ∀ (A : Around) (outer : List Env) (s : Shared) (H : Hp) (args : Args) (us : List Value) (vs : List V) (Q : VK) (E : XK), RoomB c k A → Env0 P w K mg base A outer s H → BindsTo s fd args (ps.zip us) → Vals vs us → sp vs H Q E →
    codeAny (model P w) A (.call (.ref f) args) (CR (CX1 P w) outer P w H s Q E) s
theorem FnB.ok {P : Program} {w : World} {K : PySem.W.Frag} {mg : Str → Option Value} {base : Heap} {k : Nat} {f : Addr} {fd : FuncData} {ps : List Str} {sp : Sp} (F : FnB P w K mg base true k f fd ps sp) : FnOk P w K mg base (CX1 P w) k f fd ps sp :=
  ⟨F.len, fun A outer s H args us vs Q E hr => F.run A outer s H args us vs Q E hr.b⟩
def cxB (c : Bool) (P : Program) (w : World) (K : PySem.W.Frag) (mg : Str → Option Value) (base : Heap) (N : List Str) (qual : Str) (scope : Scope) (f : Addr) (cd : Value) (A : Around) (outer : List Env) (s : Shared) (H : Hp) (E : XK) : Cx :=
  { cxOf (CX1 P w) P w K mg base N qual scope f cd A outer s H E with calm := c }
theorem inv_startB {c : Bool} {P : Program} {w : World} {K : PySem.W.Frag} {mg : Str → Option Value} {base : Heap} {N ps : List Str} {qual : Str} {scope : Scope} {f : Addr} {cd : Value} {A : Around} {outer : List Env} {s s1 : Shared} {H : Hp} {E : XK} {us : List Value} {vs : List V}
    (S : FnScope N ps scope) (hd : c = true → A.handled = none) (e0 : Env0 P w K mg base A outer s H) (hl : vs.length = ps.length) (r : Vals vs us)
    (x : InCallC s s.heap.objs.size (bindL (envOfC qual scope s.heap.objs.size f cd).kindOf (ps.zip us) fun _ => none) (cellsFrom (s.heap.objs.size + 1) scope.names []) (bindC (envOfC qual scope s.heap.objs.size f cd).kindOf (ps.zip us) fun _ => none) s1) :
    Inv (cxB c P w K mg base N qual scope f cd A outer s H E) [] (start N vs) H s1 := by
  have hpl : ps.length ≤ N.length := by have := congrArg List.length S.pre; rw [List.length_take] at this; omega
  obtain ⟨h1, tk, rfl, hk⟩ := x.done
  have noA : ∀ b : Addr, b ∉ (cxB c P w K mg base N qual scope f cd A outer s H E).ex := fun b z => absurd (show b ∈ ([] : List Addr) from z) (by simp)
  refine ⟨⟨e0.mod, S.kind, rfl, rfl, Nat.le_refl _, fun y z c h1 h2 => ?_, fun y hy => ?_, fun y c _ h => ?_, fun z => hd z, Around.frames_deeper e0.frames, .inr ⟨rfl, rfl⟩, fun b z => absurd z (noA b), e0.bs, e0.bsz, fun b _ _ => noA b, fun b z => absurd z (noA b), e0.funs, e0.frf⟩,
    rfl, e0.bare, Un.kept hk, ⟨_, x.toInCall.ns, fun i y v h1 h2 h3 => ?_⟩, fun y c h => ⟨_, x.cell y c h⟩, e0.hok.fresh (Nat.le_refl _), fun y c h => ?_, fun p hp => absurd (show p ∈ ([] : List (Addr × Obj)) from hp) (by simp), e0.hok.kept hk, ?_⟩
  · exact name_of_addr x.apart (PySem.mem_of_lookup h1) (PySem.mem_of_lookup h2)
  · have hy : scope.names.lookup y = some .cell ∨ scope.names.lookup y = some .free := hy
    rcases hy with hy | hy
    · exact cell_has hy
    · exact absurd rfl (S.nofree _ (PySem.mem_of_lookup hy))
  · exact Nat.le_of_lt (x.above y c (PySem.mem_of_lookup h))
  · have hi : i < vs.length := by
      unfold start at h2
      by_cases hi : i < vs.length
      · exact hi
      · rw [List.getElem?_append_right (by simpa using hi)] at h2
        rw [List.getElem?_replicate] at h2
        split at h2 <;> cases h2
    have ha : vs[i]? = some v := by
      unfold start at h2
      rw [List.getElem?_append_left (by simpa using hi), List.getElem?_map] at h2
      cases e : vs[i]? with
      | none => rw [e] at h2; cases h2
      | some a => rw [e] at h2; cases h2; rfl
    obtain ⟨u, hu, rv⟩ := r.get ha
    have hp : ps[i]? = some y := by
      rw [← S.pre, List.getElem?_take_of_lt (by omega)]; exact h1
    have ndP : ps.Nodup := by rw [← S.pre]; exact S.nd.sublist (List.take_sublist _ _)
    refine ⟨u, rv, ?_⟩
    rcases S.par y (List.mem_of_getElem? hp) with k | k
    · exact .inl ⟨k, bindL_get ndP hp hu k⟩
    · obtain ⟨c, e⟩ := cell_has (n := s.heap.objs.size + 1) k
      refine .inr ⟨.inl k, c, e, ?_⟩
      have q := x.cell y c e
      rw [bindC_get ndP hp hu (by show scope.names.lookup y ≠ _; rw [k]; decide)] at q
      exact q
  · exact e0.hok.fresh (Nat.le_of_lt (x.above y c (PySem.mem_of_lookup h)))
  · unfold start
    show _ = N.length
    rw [List.length_append, List.length_map, List.length_replicate]
    omega
theorem fnB_of {c : Bool} {P : Program} {w : World} {K : PySem.W.Frag} {mg : Str → Option Value} {base : Heap} {k : Nat} {f : Addr} {name qual : Str} {params : Arguments} {body : List Stmt} {scope : Scope} {dV kV doc pm cdv ct oc : Value} {an od : Option Addr}
    {osl : Array (Option Value)} {N ps : List Str} {sp : Sp} (lk : K.lookup f = some ⟨oc, od, .func (PySem.W.fnOf name qual params body scope dV kV doc pm an cdv ct), osl⟩) (hcd : PySem.W.codeIn K cdv qual = true) (S : FnScope N ps scope)
    (len : ∀ vs H Q E, sp vs H Q E → vs.length = ps.length)
    (hbody : ∀ (A : Around) (outer : List Env) (s : Shared) (H : Hp) (vs : List V) (Q : VK) (E : XK), RoomB c k (A.deeper (envOfC qual scope s.heap.objs.size f cdv)) → sp vs H Q E →
      ∃ t, PSs (cxB c P w K mg base N qual scope f cdv A outer s H E) body t ∧ t { nx := fun _ H' => Q .non H', rt := Q } (start N vs) H) :
    FnB P w K mg base c (k + 1) f (PySem.W.fnOf name qual params body scope dV kV doc pm an cdv ct) ps sp := by
  refine ⟨len, fun A outer s H args us vs Q E hr e0 hb r hsp => ?_⟩
  have hl := len _ _ _ _ hsp
  have KX : K.In s.heap := e0.mod.kin.keeps fun b o e => (e0.bs b o e).1
  have lim : s.heap.NoLimit := e0.mod.nolimit.keeps fun b o e => (e0.bs b o e).1
  have hkind : ∀ y ∈ ps.zip us, scope.names.lookup y.1 = some .local ∨ (scope.names.lookup y.1 = some .cell ∧ ((cellsFrom (s.heap.objs.size + 1) scope.names []).lookup y.1).isSome = true) := fun ⟨n, v⟩ hy => by
    rcases S.par n (List.of_mem_zip hy).1 with q | q
    · exact .inl q
    · exact .inr ⟨q, PySem.W.cellsFrom_some _ _ _ (.inl q)⟩
  refine codeAny_call_function hr.depth (KX _ _ lk) rfl S.co S.gen rfl (PySem.W.codeRec_of KX hcd) (hb _ _ _ _ ?_)
  refine wpAny_newFunctionEnv_cells S.kind hkind fun env he s1 x => ?_
  subst he
  refine ⟨lim.keeps x.toInCall.keep, codeAny_func ?_⟩
  obtain ⟨t, ht, hq⟩ := hbody A outer s H vs Q E (hr.deeper _) hsp
  have I : Inv (cxB c P w K mg base N qual scope f cdv A outer s H E) [] (start N vs) H s1 := inv_startB S hr.hd e0 hl r x
  refine wpAny_mono (ht [] s1 (start N vs) H _ I hq) (fun fl s' hs => ?_) fun e s' hs => hs
  have fin : ∀ {σ' : St} {H' : Hp} {v : V} {u : Value}, Inv (cxB c P w K mg base N qual scope f cdv A outer s H E) [] σ' H' s' → RelV v u → Q v H' → CE outer P w H s Q u s' :=
    fun {σ' H' v u} J rv q => ⟨v, H', J.os, J.bare, J.base, J.hok, rv, q⟩
  cases fl with
  | ret u =>
    obtain ⟨v, σ', H', J, rv, q⟩ := hs
    exact fin J rv q
  | next =>
    obtain ⟨σ', H', J, q⟩ := hs
    exact fin (v := V.non) (u := Value.none) J rfl q
  | brk =>
    obtain ⟨_, _, _, q⟩ := hs
    exact False.elim q
  | cont =>
    obtain ⟨_, _, _, q⟩ := hs
    exact False.elim q
structure CalB (P : Program) (w : World) (K : PySem.W.Frag) (mg : Str → Option Value) (base : Heap) (c : Bool) (k : Nat) (x : Str) (ps : List Str) (sp : Sp) : Prop where
  ex : ∃ (f : Addr) (fd : FuncData), FnB P w K mg base c k f fd ps sp ∧ mg x = some (.ref f) ∧ PySem.W.keepIn K (.ref f) = true ∧ Binds K fd ps []
theorem TopFn.calB {c : Bool} {P : Program} {w : World} {K : PySem.W.Frag} {mg : Str → Option Value} {base : Heap} {x : Str} {st : Stmt} {N ps : List Str} {k : Nat} {sp : Sp} (T : TopFn K mg x st) (S : FnScope N ps (defScope st))
    (hb : ∀ (kV doc pm : Value) (an : Option Addr) (cdv ct : Value) (us : List Value), us.length = ps.length → bindArgs (PySem.W.fnOf x x (defArgs st) (defBody st) (defScope st) .none kV doc pm an cdv ct) ⟨us, []⟩ = pure (ps.zip us))
    (len : ∀ vs H Q E, sp vs H Q E → vs.length = ps.length)
    (hbody : ∀ (f : Addr) (cdv : Value) (A : Around) (outer : List Env) (s : Shared) (H : Hp) (vs : List V) (Q : VK) (E : XK), RoomB c k (A.deeper (envOfC x (defScope st) s.heap.objs.size f cdv)) → sp vs H Q E →
      ∃ t, PSs (cxB c P w K mg base N x (defScope st) f cdv A outer s H E) (defBody st) t ∧ t { nx := fun _ H' => Q .non H', rt := Q } (start N vs) H) : CalB P w K mg base c (k + 1) x ps sp := by
  obtain ⟨f, fd, F, hm⟩ := T.ex
  obtain ⟨oc, od, kV, doc, pm, an, cdv, ct, osl, rfl, l, cd⟩ := id F.ex
  exact ⟨f, _, fnB_of l cd S len (hbody f cdv), hm, F.kp, F.binds hb⟩
theorem pass01 {P : Program} {w : World} {X : Cx} : Passes (CX1 P w) X E0 := fun _ _ _ _ _ _ _ h => by
  obtain ⟨_, _, _, _, _, _, _, _, _, _, _, _, q⟩ := h
  exact q.elim
section
variable {X : Cx} {c : Bool} {k : Nat} {ps : List Str} {sp : Sp} {x : Str} {p pos : Pos} {e : Expr} {es : List Expr} {t : TA} {E : XK}
theorem run_fnB {pins : List (Addr × Obj)} {σ : St} {H : Hp} {s : Shared} {Q : VK} {us : List Value} {vs : List V} {f : Addr} {fd : FuncData} {E' : Value → Shared → Prop} (F : FnB X.prog X.w X.K X.mg X.base c k f fd ps sp) (hr : RoomB c k X.A) (hb : Binds X.K fd ps [])
    (I : Inv X pins σ H s) (r : Vals vs us) (h : sp (vs ++ []) H Q E) (hx : ∀ e s', CX1 X.prog X.w X.stack H s E e s' → E' e s') : wpAny (model X.prog X.w) X.A (call (.ref f) us) (EP X pins σ Q) E' s := by
  have r2 : Vals (vs ++ []) (us ++ []) := r.append .nil
  have hl : (us ++ []).length = ps.length := by rw [← r2.length]; exact F.len _ _ _ _ h
  refine wpAny_call (codeAny_mono (F.run X.A X.stack s H ⟨us, []⟩ (us ++ []) (vs ++ []) Q E hr I.env0 (hb s us I.kIn hl) r2 h) fun r s' hq => ?_)
  cases r with
  | error e => exact hx e s' hq
  | ok fl =>
    cases fl with
    | ret u => exact I.after hq
    | next => exact False.elim hq
    | brk => exact False.elim hq
    | cont => exact False.elim hq
theorem pe_cB (C : CalB X.prog X.w X.K X.mg X.base c k x ps sp) (hr : RoomB c k X.A) (hx : Passes (CX1 X.prog X.w) X E) (ha : PA X (e :: es) t) (hg : Gl X x := by rfl) (hdb : (x == ("__debug__" : Str)) = false := by decide)
    (he : starEach (e :: es) X.env = (false, eval e X.env) :: starEach es X.env := by rfl) (hpl : (backTo pos (starEach es X.env)).any (·.1) = false := by rfl) :
    PE X (.Call (.Name x p) (e :: es) [] pos) (tCall sp [] E t) := by
  obtain ⟨f, fd, F, hm, hk, hb⟩ := C.ex
  intro pins s σ H Q I h
  refine wpAny_Call_Name_kw (ld_glob I hg hm ?_ hdb)
  refine PySem.W.callWith_K (h₀ := X.base) I.ok.mod.kin hk (thn (ha pos pins s σ H _ I h) fun us s1 ⟨vs, H1, I1, r, q⟩ => ⟨I1.kIn, ?_⟩) he hpl
  exact run_fnB F hr hb I1 r q fun e s' h => hx pins σ H1 s1 e s' I1 h
end
end L2
namespace L2
open PySem PySem.Spec PyProof.Rows
end L2
namespace L2
open PySem PySem.Spec PySem.Calls PyProof.Rows PySem.W Builtin Builtin.ObjectAttr Builtin.Getset_descriptor
end L2
namespace Fr
theorem absE (i : Int) : (if i < 0 then -i else i) = (i.natAbs : Int) := by omega
theorem gcd_turn (m n : Nat) : Nat.gcd n (m % n) = Nat.gcd m n := by
  rw [Nat.gcd_comm n (m % n), ← Nat.gcd_rec n m, Nat.gcd_comm]
def gcd (a b : Int) : Int := ((Nat.gcd a.natAbs b.natAbs : Nat) : Int)
theorem gcd_nn (a b : Int) : 0 ≤ gcd a b := Int.natCast_nonneg _
theorem gcd_pos {a b : Int} (h : b ≠ 0) : 0 < gcd a b := by
  unfold gcd
  have : 0 < Nat.gcd a.natAbs b.natAbs := Nat.gcd_pos_of_pos_right _ (by omega)
  omega
theorem gcd_le {a b : Int} (h : b ≠ 0) : gcd a b ≤ (b.natAbs : Int) := by
  unfold gcd
  have : Nat.gcd a.natAbs b.natAbs ≤ b.natAbs := Nat.gcd_le_right _ (by omega)
  omega
theorem gcd_dvd_l (a b : Int) : gcd a b ∣ a := by
  unfold gcd
  exact Int.ofNat_dvd_left.mpr (Nat.gcd_dvd_left _ _)
theorem gcd_dvd_r (a b : Int) : gcd a b ∣ b := by
  unfold gcd
  exact Int.ofNat_dvd_left.mpr (Nat.gcd_dvd_right _ _)
def sg (t b : Int) : Int := if b < 0 then 0 - gcd t b else gcd t b
def lt (t b : Int) : Int := t.fdiv (sg t b)
def lb (t b : Int) : Int := b.fdiv (sg t b)
theorem sg_ne {t b : Int} (h : b ≠ 0) : sg t b ≠ 0 := by
  unfold sg
  have := gcd_pos (a := t) h
  split <;> omega
theorem sg_abs {t b : Int} : (sg t b).natAbs = (gcd t b).natAbs := by
  unfold sg
  split <;> omega
theorem sg_dvd_t (t b : Int) : sg t b ∣ t := by
  unfold sg
  split
  · rw [Int.zero_sub]; exact Int.neg_dvd.mpr (gcd_dvd_l t b)
  · exact gcd_dvd_l t b
theorem sg_dvd_b (t b : Int) : sg t b ∣ b := by
  unfold sg
  split
  · rw [Int.zero_sub]; exact Int.neg_dvd.mpr (gcd_dvd_r t b)
  · exact gcd_dvd_r t b
theorem fdiv_mul {a g : Int} (h : g ∣ a) : a.fdiv g * g = a := by
  rw [Int.fdiv_eq_ediv_of_dvd h]
  exact Int.ediv_mul_cancel h
theorem lt_mul (t b : Int) : lt t b * sg t b = t := fdiv_mul (sg_dvd_t t b)
theorem lb_mul (t b : Int) : lb t b * sg t b = b := fdiv_mul (sg_dvd_b t b)
theorem lb_pos {t b : Int} (h : b ≠ 0) : 0 < lb t b := by
  have e := lb_mul t b
  have g := gcd_pos (a := t) h
  have hs : sg t b = if b < 0 then 0 - gcd t b else gcd t b := rfl
  rcases Int.lt_trichotomy (lb t b) 0 with z | z | z
  · exfalso
    by_cases hb : b < 0
    · rw [if_pos hb] at hs
      have : 0 < lb t b * sg t b := by
        rw [hs]
        exact Int.mul_pos_of_neg_of_neg z (by omega)
      omega
    · rw [if_neg hb] at hs
      have : lb t b * sg t b < 0 := by
        rw [hs]
        exact Int.mul_neg_of_neg_of_pos z g
      omega
  · rw [z] at e; omega
  · exact z
theorem log2_small {n k : Nat} (h : n < 2 ^ k) (hk : 0 < k) : n.log2 < k := by
  by_cases z : n = 0
  · subst z; simpa using hk
  · exact (Nat.log2_lt z).mpr h
theorem lb_abs {t b : Int} (h : b ≠ 0) : (lb t b).natAbs ≤ b.natAbs := by
  have e := lb_mul t b
  have g := sg_ne (t := t) h
  have h1 : (lb t b).natAbs * (sg t b).natAbs = b.natAbs := by rw [← Int.natAbs_mul, e]
  have h2 : 1 ≤ (sg t b).natAbs := by omega
  calc (lb t b).natAbs = (lb t b).natAbs * 1 := (Nat.mul_one _).symm
    _ ≤ (lb t b).natAbs * (sg t b).natAbs := Nat.mul_le_mul_left _ h2
    _ = b.natAbs := h1
end Fr
namespace Fr
theorem gcd_comm' (t b : Int) : ((b.gcd t : Nat) : Int) = gcd t b := by
  unfold gcd Int.gcd
  rw [Nat.gcd_comm]
theorem lt_num {t b : Int} (h : b ≠ 0) : lt t b = (Rat.divInt t b).num := by
  have g0 := gcd_pos (a := t) h
  rw [Rat.num_divInt, gcd_comm']
  have e := lt_mul t b
  have d : gcd t b ∣ b.sign * t := Int.dvd_mul_of_dvd_right (gcd_dvd_l t b)
  refine (Int.ediv_eq_of_eq_mul_left (by omega) ?_).symm
  have hs : sg t b = b.sign * gcd t b := by
    unfold sg
    rcases Int.lt_trichotomy b 0 with z | z | z
    · rw [if_pos z, Int.sign_eq_neg_one_of_neg z]; omega
    · exact absurd z h
    · rw [if_neg (by omega), Int.sign_eq_one_of_pos z]; omega
  have h2 : b.sign * b.sign = 1 := by
    rcases Int.lt_trichotomy b 0 with z | z | z
    · rw [Int.sign_eq_neg_one_of_neg z]; rfl
    · exact absurd z h
    · rw [Int.sign_eq_one_of_pos z]; rfl
  calc b.sign * t = b.sign * (lt t b * sg t b) := by rw [e]
    _ = (b.sign * b.sign) * (lt t b * gcd t b) := by rw [hs]; grind
    _ = lt t b * gcd t b := by rw [h2]; omega
theorem lb_den {t b : Int} (h : b ≠ 0) : lb t b = ((Rat.divInt t b).den : Int) := by
  have e1 := lt_mul t b
  have e2 := lb_mul t b
  have s0 := sg_ne (t := t) h
  have n := lt_num (t := t) h
  have c : (Rat.divInt t b).num * b = t * ((Rat.divInt t b).den : Int) := by
    have z : Rat.divInt (Rat.divInt t b).num ((Rat.divInt t b).den : Int) = Rat.divInt t b := Rat.num_divInt_den _
    have d0 : (((Rat.divInt t b).den : Nat) : Int) ≠ 0 := by
      have := (Rat.divInt t b).den_nz
      omega
    exact (Rat.divInt_eq_divInt_iff d0 h).mp z
  by_cases t0 : t = 0
  · subst t0
    have : Rat.divInt 0 b = 0 := Rat.zero_divInt b
    rw [this]
    have g : gcd 0 b = (b.natAbs : Int) := by unfold gcd; simp
    have bp := lb_pos (t := 0) h
    have a1 : (lb 0 b).natAbs * (sg 0 b).natAbs = b.natAbs := by rw [← Int.natAbs_mul, e2]
    rw [sg_abs, g] at a1
    have b0 : 0 < b.natAbs := by omega
    have a2 : (lb 0 b).natAbs = 1 := by
      have : (lb 0 b).natAbs * b.natAbs = 1 * b.natAbs := by simpa using a1
      exact Nat.eq_of_mul_eq_mul_right b0 this
    show lb 0 b = 1
    omega
  · rw [← n] at c
    have h1 : t * lb t b = t * ((Rat.divInt t b).den : Int) := by
      rw [← c]
      calc t * lb t b = (lt t b * sg t b) * lb t b := by rw [e1]
        _ = lt t b * (lb t b * sg t b) := by grind
        _ = lt t b * b := by rw [e2]
    exact Int.eq_of_mul_eq_mul_left t0 h1
theorem den_pos (q : Rat) : 0 < (q.den : Int) := by
  have := q.den_pos
  omega
theorem divInt_rat (q : Rat) : Rat.divInt q.num (q.den : Int) = q := Rat.num_divInt_den q
theorem den_ne (q : Rat) : (q.den : Int) ≠ 0 := by have := den_pos q; omega
theorem sum_rat (p q : Rat) : Rat.divInt (p.num * q.den + q.num * p.den) (p.den * q.den) = p + q := by
  rw [← Rat.divInt_add_divInt _ _ (den_ne p) (den_ne q), divInt_rat, divInt_rat]
theorem less_rat (p q : Rat) : Rat.divInt (p.num * q.den - q.num * p.den) (p.den * q.den) = p - q := by
  rw [← Rat.divInt_sub_divInt _ _ (den_ne p) (den_ne q), divInt_rat, divInt_rat]
theorem prod_rat (p q : Rat) : Rat.divInt (p.num * q.num) (p.den * q.den) = p * q := by
  rw [← Rat.divInt_mul_divInt, divInt_rat, divInt_rat]
theorem quot_rat (p q : Rat) : Rat.divInt (p.num * q.den) (p.den * q.num) = p / q := by
  rw [Rat.div_def, ← Rat.divInt_mul_divInt, divInt_rat]
  congr 1
  have := Rat.inv_divInt q.num q.den
  rw [divInt_rat] at this
  exact this.symm
theorem lt_rat (p q : Rat) : p.num * q.den < q.num * p.den ↔ p < q := (Rat.lt_iff p q).symm
theorem num_zero (q : Rat) : q.num = 0 ↔ q = 0 := Rat.num_eq_zero
end Fr
namespace Fr
theorem lt_abs (t b : Int) (h : b ≠ 0) : (lt t b).natAbs ≤ t.natAbs := by
  have e := lt_mul t b
  have g := sg_ne (t := t) h
  have h1 : (lt t b).natAbs * (sg t b).natAbs = t.natAbs := by rw [← Int.natAbs_mul, e]
  have h2 : 1 ≤ (sg t b).natAbs := by omega
  calc (lt t b).natAbs = (lt t b).natAbs * 1 := (Nat.mul_one _).symm
    _ ≤ (lt t b).natAbs * (sg t b).natAbs := Nat.mul_le_mul_left _ h2
    _ = t.natAbs := h1
end Fr
namespace L2
open PySem PySem.Spec PyProof.Rows
theorem TopFn.calN {c : Bool} {P : Program} {w : World} {K : PySem.W.Frag} {mg : Str → Option Value} {base : Heap} {x : Str} {st : Stmt} {N ps : List Str} {k : Nat} {sp : Sp} (T : TopFn K mg x st) (S : FnScope N ps (defScope st))
    (hb : ∀ (kV doc pm : Value) (an : Option Addr) (cdv ct : Value) (us : List Value), us.length = ps.length → bindArgs (PySem.W.fnOf x x (defArgs st) (defBody st) (defScope st) .none kV doc pm an cdv ct) ⟨us, []⟩ = pure (ps.zip us))
    (len : ∀ vs H Q E, sp vs H Q E → vs.length = ps.length)
    (hbody : ∀ (f : Addr) (cdv : Value) (A : Around) (outer : List Env) (s : Shared) (H : Hp) (vs : List V) (Q : VK) (E : XK), RoomB c k (A.deeper (envOfC x (defScope st) s.heap.objs.size f cdv)) → sp vs H Q E →
      ∃ t, PSs (cxB c P w K mg base N x (defScope st) f cdv A outer s H E).nox (defBody st) t ∧ t { nx := fun _ H' => Q .non H', rt := Q } (start N vs) H) : CalB P w K mg base c (k + 1) x ps sp :=
  T.calB S hb len fun f cdv A outer s H vs Q E hr h => by
    obtain ⟨t, h1, h2⟩ := hbody f cdv A outer s H vs Q E hr h
    exact ⟨t, h1.nox, h2⟩
theorem Fun.okB {c : Bool} {P : Program} {w : World} {K : PySem.W.Frag} {mg : Str → Option Value} {base : Heap} {x : Str} {st : Stmt} {f : Addr} {fd : FuncData} {N ps : List Str} {k : Nat} {sp : Sp} (F : Fun K x x st f fd) (S : FnScope N ps (defScope st))
    (len : ∀ vs H Q E, sp vs H Q E → vs.length = ps.length)
    (hbody : ∀ (cdv : Value) (A : Around) (outer : List Env) (s : Shared) (H : Hp) (vs : List V) (Q : VK) (E : XK), RoomB c k (A.deeper (envOfC x (defScope st) s.heap.objs.size f cdv)) → sp vs H Q E →
      ∃ t, PSs (cxB c P w K mg base N x (defScope st) f cdv A outer s H E).nox (defBody st) t ∧ t { nx := fun _ H' => Q .non H', rt := Q } (start N vs) H) : FnB P w K mg base c (k + 1) f fd ps sp := by
  obtain ⟨oc, od, kV, doc, pm, an, cdv, ct, osl, rfl, l, cd⟩ := id F.ex
  exact fnB_of l cd S len fun A outer s H vs Q E hr h => by
    obtain ⟨t, h1, h2⟩ := hbody cdv A outer s H vs Q E hr h
    exact ⟨t, h1.nox, h2⟩
end L2
namespace Lib
open PySem L2
def lim : Nat := 2 ^ 9000
theorem lim_log {n : Nat} (h : n < lim) : n.log2 < 9000 := Fr.log2_small h (by decide)
theorem lim_mul {n : Nat} (h : n < lim) : n < 2 ^ 10000 := Nat.lt_trans h (by unfold lim; decide +kernel)
def spDiv : Sp := fun vs H Q _ => ∃ a b : Int, vs = [.int a, .int b] ∧ Q (.int (Fr.gcd a b)) H
def spLaw (K : PySem.W.Frag) : Sp := fun vs H Q _ => ∃ (a : Addr) (ns : List Int), vs = [.ref a] ∧ SqL K H a (ns.map V.int) ∧ ns.length ≤ 63 ∧ ∀ H', Q (.bl true) H'
theorem decI (i j : Int) : decide (V.int i = V.int j) = decide (i = j) := by
  by_cases h : i = j
  · subst h; simp
  · have : ¬ V.int i = V.int j := fun z => h (V.int.inj z)
    rw [decide_eq_false h, decide_eq_false this]
theorem atI_in {xs : List V} {r : Int} (h0 : 0 ≤ r) (h1 : r < (xs.length : Int)) : ∃ v, atI xs r = some v ∧ v ∈ xs := by
  have hj : r.toNat < xs.length := by omega
  have e : ((r.toNat : Nat) : Int) = r := by omega
  have q : atI xs ((r.toNat : Nat) : Int) = some xs[r.toNat] := atI_nat (List.getElem?_eq_getElem hj)
  rw [e] at q
  exact ⟨_, q, List.getElem_mem hj⟩
theorem cut_ints (ns : List Int) (lo hi : Option Int) : ∀ x ∈ cutV (ns.map V.int) lo hi, ∃ z : Int, x = .int z := fun x hx => by
  unfold cutV at hx
  have h1 := List.mem_of_mem_drop (List.mem_of_mem_take hx)
  obtain ⟨z, _, rfl⟩ := List.mem_map.mp h1
  exact ⟨z, rfl⟩
def forBody (s : Stmt) : List Stmt := match s with
  | .For _ _ b _ _ => b
  | _ => []
theorem eqv_pair (a b c d : Int) : PyData.eqv (.tuple [.int a, .int b]) (.tuple [.int c, .int d]) = (decide (a = c) && decide (b = d)) := by
  simp only [PyData.eqv, PyData.eqvAll, Bool.and_true]
  by_cases h1 : a = c <;> by_cases h2 : b = d <;> simp [h1, h2]
end Lib
namespace Lib
open PySem L2
abbrev frO (q : Rat) : HO := .tup [.int q.num, .int (q.den : Int)]
def lim2 : Nat := 2 ^ 4000
theorem lim2_lim : lim2 < lim := by unfold lim lim2; decide +kernel
theorem lim2_sq : lim2 * lim2 + lim2 * lim2 < lim := by unfold lim lim2; decide +kernel
structure Sm (q : Rat) : Prop where
  n : q.num.natAbs < lim2
  d : q.den < lim2
theorem nat_mul_lt {a b : Nat} (ha : a < lim2) (hb : b < lim2) : a * b < lim2 * lim2 := Nat.mul_lt_mul'' ha hb
theorem mul_lim {x y : Int} (hx : x.natAbs < lim2) (hy : y.natAbs < lim2) : (x * y).natAbs < lim := by
  rw [Int.natAbs_mul]
  have := nat_mul_lt hx hy
  have := lim2_sq
  omega
theorem mulW {x y : Int} (hx : x.natAbs < lim2) (hy : y.natAbs < lim2) : CMulW x y := ⟨lim_mul (Nat.lt_trans hx lim2_lim), lim_mul (Nat.lt_trans hy lim2_lim)⟩
theorem Sm.dn {q : Rat} (h : Sm q) : ((q.den : Int)).natAbs < lim2 := by rw [Int.natAbs_natCast]; exact h.d
theorem den0 (q : Rat) : ((q.den : Nat) : Int) ≠ 0 := by have := q.den_nz; omega
theorem den_mul0 (p q : Rat) : ((p.den : Int)) * (q.den : Int) ≠ 0 := Int.mul_ne_zero (den0 p) (den0 q)
theorem frO_of {t b : Int} (h : b ≠ 0) : (HO.tup [.int (Fr.lt t b), .int (Fr.lb t b)]) = frO (Rat.divInt t b) := by
  rw [Fr.lt_num h, Fr.lb_den h]
theorem eqv_fr (p q : Rat) : PyData.eqv (.tuple [.int p.num, .int (p.den : Int)]) (.tuple [.int q.num, .int (q.den : Int)]) = decide (p = q) := by
  rw [eqv_pair]
  by_cases h : p = q
  · subst h; simp
  · rw [decide_eq_false h]
    by_cases h1 : p.num = q.num
    · have h2 : ¬ ((p.den : Int) = (q.den : Int)) := fun z => h (Rat.ext h1 (Int.ofNat.inj z))
      simp [h2]
    · simp [h1]
end Lib
namespace Lib
open PySem L2
end Lib
namespace L2
open PySem PySem.Spec PyProof.Rows PySem.Builtin PySem.Builtin.Str
end L2
namespace L2
open PySem PySem.Spec PyProof.Rows PySem.Builtin PySem.Builtin.Str
end L2
namespace Tx
open PySem PySem.Builtin PySem.Builtin.Str PySem.NumText PyProof.Rows
end Tx
namespace Tx
open PySem PySem.Builtin PySem.Builtin.Str PySem.NumText PyProof.Rows
end Tx
namespace Lib
open PySem L2 Tx PySem.NumText
end Lib
namespace Lib
open PySem L2 Tx PySem.NumText
end Lib
namespace Tx
end Tx
namespace Lib
open PySem L2 Tx PySem.NumText
end Lib
namespace Lib
open PySem L2 Tx
def spOfG : Sp := fun vs H Q _ => ∃ t b : Int, vs = [.int t, .int b] ∧ b ≠ 0 ∧ b.natAbs < lim ∧ ∀ p, H p = none → Q (.ref p) (upd H p (.tup [.int (Fr.lt t b), .int (Fr.lb t b)]))
end Lib
namespace L2
open PySem PySem.Spec PyProof.Rows
section
variable {prog : Program} {w : World} {A : Around} {R : Result → Shared → Prop} {s : Shared}
theorem compLoop_own {elt target iter : Expr} {ifs : List Expr} {scope : Scope} {pos : Pos} {it acc : Value} {env : Env} (I : Nat → Shared → Prop)
    (turn : ∀ n s, I n s → wpAny (model prog w) A (pyNext it) (fun r s₁ => match r with
      | none => R (.ok .next) s₁
      | some v => wpAny (model prog w) A (letOwnedTupleGo target it v) (fun _ s₁' => wpAny (model prog w) A (assign target env v) (fun _ s₂ =>
          wpAny (model prog w) A (forIn ifs true fun c r => if r = true then do let ok ← isTrue c env (eval c env); pure (ForInStep.yield ok) else pure (ForInStep.yield r)) (fun ok s₃ =>
            if ok = true then wpAny (model prog w) A (eval elt env) (fun x s₄ =>
              wpAny (model prog w) A (call (.builtin "list.append") [acc, x]) (fun _ s₅ => ∃ m, m < n ∧ I m s₅) (fun _ _ => False) s₄) (fun _ _ => False) s₃
            else ∃ m, m < n ∧ I m s₃) (fun _ _ => False) s₂) (fun _ _ => False) s₁') (fun _ _ => False) s₁) (fun _ _ => False) s)
    (n : Nat) (h : I n s) :
    codeAny (model prog w) A (.compLoop (.ListComp elt [⟨target, iter, ifs, 0⟩] scope pos) 0 it acc env) R s := by
  refine codeAny_loop rfl I (fun n s hI => ?_) n h
  show wpAny _ A ((compTurn (.ListComp elt [⟨target, iter, ifs, 0⟩] scope pos) 0 it acc env).onRaise (fun x => do noteFrame x env; theTreesLotGoes x)) _ _ s
  refine wpAny_noted ?_
  rw [compTurn_list]
  refine wpAny_bind (wpAny_standAt (wpAny_bind (wpAny_mono (turn n s hI) (fun r s₁ h₁ => ?_) fun _ _ z => z.elim)))
  cases r with
  | none => exact wpAny_pure h₁
  | some v =>
    refine wpAny_bind (wpAny_mono h₁ (fun _ s₁' h₁' => ?_) fun _ _ z => z.elim)
    refine wpAny_bind (wpAny_mono h₁' (fun _ s₂ h₂ => wpAny_bind (wpAny_mono h₂ (fun ok s₃ h₃ => ?_) fun _ _ z => z.elim)) fun _ _ z => z.elim)
    cases ok with
    | false => exact wpAny_pure ⟨rfl, h₃⟩
    | true =>
      exact wpAny_bind (wpAny_bind (wpAny_mono h₃ (fun x s₄ h₄ => wpAny_bind (wpAny_mono h₄ (fun _ s₅ h₅ => wpAny_pure (wpAny_pure ⟨rfl, h₅⟩)) fun _ _ z => z.elim)) fun _ _ z => z.elim))
end
def cxC (X : Cx) (scope : Scope) (cl : List (Str × Addr)) (N' : List Str) (C : Addr) (fp : List Addr) (pins : List (Addr × Obj)) (s2 : Shared) (H2 : Hp) : Cx :=
  { X with N := N', s₀ := s2, H₀ := H2, env := compEnvC scope cl C X.env, outer := X.stack, ex := fp, fn := fun _ => false, pn := X.pn ++ pins, xe := fun _ _ => False }
structure CapOk (X : Cx) (scope : Scope) (cl : List (Str × Addr)) : Prop where
  clos : closureFor scope X.env = pure cl
  sub : ∀ y c, cl.lookup y = some c → X.env.cells.lookup y = some c
  has : ∀ y, ((relabel scope X.env).names.lookup y = some .cell ∨ (relabel scope X.env).names.lookup y = some .free) → ∃ c, cl.lookup y = some c
def capSt (caps : List (Option Nat)) (σ : St) : St := caps.map fun o => o.bind fun j => (σ[j]?).join
section
variable {X : Cx} {pins : List (Addr × Obj)} {σ : St} {H2 : Hp} {s2 : Shared} {scope : Scope} {cl : List (Str × Addr)} {N' : List Str} {C : Addr} {fp : List Addr} {caps : List (Option Nat)}
theorem notStk (I : Inv X pins σ H2 s2) {b : Addr} (h1 : b ≠ X.env.locals) (h2 : b ∉ X.fs) : b ∉ frs X.stack := fun z => (List.mem_cons.mp (I.stkSub b z)).elim h1 h2
theorem inv_comp (I : Inv X pins σ H2 s2) (hf : ∀ b ∈ fp, FpOk X pins H2 b) (hl : ∀ b ∈ fp, b < s2.heap.objs.size) (hk : scope.kind = .function) (cap : CapOk X scope cl) (hC : s2.heap.objs.size ≤ C) {s4 : Shared} (os : s4.os = s2.os) (bare : AllBare s4.gens)
    (k : ∀ b o, s2.heap.get? b = some o → s4.heap.get? b = some o) (ns : s4.heap.Ns C fun _ => none) (hN : caps.length = N'.length)
    (hcap : ∀ (i j : Nat), caps[i]? = some (some j) → ∃ y : Str, N'[i]? = some y ∧ X.N[j]? = some y ∧ (relabel scope X.env).names.lookup y = some .cell ∧ X.env.scope.names.lookup y = some .cell) :
    Inv (cxC X scope cl N' C fp pins s2 H2) [] (capSt caps σ) H2 s4 := by
  have neC : ∀ b : Addr, b < s2.heap.objs.size → b ≠ C := fun b h => Nat.ne_of_lt (Nat.lt_of_lt_of_le h hC)
  refine ⟨⟨I.ok.mod, ?_, I.ok.glob, I.ok.blt, hC, fun y z c h1 h2 => I.ok.inj y z c (cap.sub y c h1) (cap.sub z c h2), fun y h => cap.has y h, (fun y c z => nomatch z), I.ok.hd, I.ok.frames, .inl rfl, fun b hb => ⟨neC b (hl b hb), fun y c e => (hf b hb).2.2.2.2.1 y c (cap.sub y c e)⟩,
    fun b o e => I.bs b o e, Nat.le_trans I.ok.bsz I.sz, fun b o e hb => ?_, fun b hb => notStk I (hf b hb).2.1 (hf b hb).2.2.1, I.stack, I.stkFree⟩,
    os, bare, Un.kept k, ⟨_, ns, fun i y v h1 h2 h3 => ?_⟩, fun y c e => ?_, I.hok.fresh hC, fun y c e => I.freeC y c (cap.sub y c e), fun p hp => ?_, I.hok.kept k, ?_⟩
  · show (relabel scope X.env).kind = .function
    exact hk
  · rcases (hf b hb).2.2.2.1 with z | z
    · exact I.ok.noex b o e z
    · exact absurd (Nat.lt_of_lt_of_le (Heap.lt_size e) (Nat.le_trans I.ok.bsz z)) (Nat.lt_irrefl _)
  · have h1 : N'[i]? = some y := h1
    unfold capSt at h2
    rw [List.getElem?_map] at h2
    cases hc : caps[i]? with
    | none => rw [hc] at h2; cases h2
    | some o =>
      rw [hc] at h2
      cases o with
      | none => cases h2
      | some j =>
        obtain ⟨y', e1, e2, e3, e4⟩ := hcap i j hc
        rw [h1] at e1
        cases e1
        have hj : σ[j]? = some (some v) := by
          have z : (σ[j]?).join = some v := by simpa using h2
          cases q : σ[j]? with
          | none => rw [q] at z; cases z
          | some w' => rw [q] at z; exact congrArg some z
        obtain ⟨m, hn, hm⟩ := I.loc
        obtain ⟨u, ru, lk⟩ := hm j y v e2 hj (.inr (.inl e4))
        refine ⟨u, ru, .inr ⟨.inl e3, ?_⟩⟩
        rcases lk with ⟨z, _⟩ | ⟨_, c, ec, o', ho', hd'⟩
        · rw [show X.env.kindOf y = X.env.scope.names.lookup y from rfl, e4] at z; cases z
        · obtain ⟨c', ec'⟩ := cap.has y (.inl e3)
          have := cap.sub y c' ec'
          rw [ec] at this
          cases this
          exact ⟨c, ec', o', k _ _ ho', hd'⟩
  · obtain ⟨v, o, ho, hd⟩ := I.cell y c (cap.sub y c e)
    exact ⟨v, o, k _ _ ho, hd⟩
  · have hp : p ∈ (X.pn ++ pins) ++ [] := hp
    rw [List.append_nil] at hp
    obtain ⟨e, n, ne, nf, d⟩ := I.pin p hp
    exact ⟨k _ _ e, n, neC _ (Heap.lt_size e), notStk I ne nf, d⟩
  · show (capSt caps σ).length = N'.length
    unfold capSt
    rw [List.length_map]
    exact hN
theorem comp_end {pl : List (Addr × Obj)} {σ' : St} {H' : Hp} {s' : Shared} {D : Addr} {items : Array Value} {ys : List V} {h'' : Heap} (I : Inv X pins σ H2 s2) (hf : ∀ b ∈ fp, FpOk X pins H2 b) (I' : Inv (cxC X scope cl N' C fp pins s2 H2) pl σ' H' s')
    (hpl : s'.heap.PlainList D items) (nD : H' D = none) (newD : s2.heap.get? D = none) (hDC : D ≠ C) (rv : Vals ys items.toList) (hz : ys.length ≤ sizeLine) (sb : Heap.SameBut C s'.heap h'') : Inv X pins σ (upd H' D (.lst ys)) { s' with heap := h'' } := by
  have hC : s2.heap.objs.size ≤ C := I'.ok.above
  have neC : ∀ b o, s2.heap.get? b = some o → b ≠ C := fun b o e => Nat.ne_of_lt (Nat.lt_of_lt_of_le (Heap.lt_size e) hC)
  have nC : H' C = none := I'.free
  obtain ⟨n0, ho⟩ := hpl
  refine I.call' (s' := { s' with heap := h'' }) (ch := fp) I'.os ⟨fun b o e n hb hx => sb.extBut b o (neC b o e) (I'.base.keep b o e n hb hx), fun b o e n hb hx => ?_, fun b o e n hx => ?_, fun b o e hx => ?_, fun b xs e => ?_, fun b o u e => ?_, fun b ps e => ?_⟩ (fun b o e => ?_) I'.bare fun b hb => ?_
  · obtain ⟨sl, q⟩ := I'.base.slot b o e n hb hx
    exact ⟨sl, sb.extBut b _ (neC b o e) q⟩
  · have : b ≠ D := fun z => by rw [z, newD] at e; cases e
    rw [upd_ne this]
    exact I'.base.free b o e n hx
  · obtain ⟨o', q⟩ := I'.base.there b o e hx
    exact ⟨o', sb.extBut b _ (neC b o e) q⟩
  · have q := I'.base.tups b xs e
    rw [upd_ne (ne_of_none q nD)]; exact q
  · have q := I'.base.frzs b o u e
    rw [upd_ne (ne_of_none q nD)]; exact q
  · obtain ⟨m, q⟩ := I'.base.tbls b ps e
    exact ⟨m, by rw [upd_ne (ne_of_none q nD)]; exact q⟩
  · by_cases hb : b = D
    · subst hb
      rw [upd_same] at e
      cases e
      exact ⟨hz, items.toList, n0, rv, sb.extBut _ _ hDC ho⟩
    · rw [upd_ne hb] at e
      refine (I'.hok b o e).stay (fun c v hc q => sb.extBut c v ?_ q) (fun c q => by rw [upd_ne (ne_of_none q nD)]; exact q) fun c xs q => by rw [upd_ne (ne_of_none q nD)]; exact q
      intro z
      subst z
      rcases hc with z | z
      · rw [← z, nC] at e; cases e
      · rw [nC] at z; cases z
  · obtain ⟨f0, f1, f2, f3, f4, f5⟩ := hf b hb
    exact ⟨f3, f1, f4, f5⟩
end
def PIfs (X : Cx) (ifs : List Expr) (t : TT) : Prop :=
  ∀ (pins : List (Addr × Obj)) (s : Shared) (σ : St) (H : Hp) (Q : Bool → Hp → Prop), Inv X pins σ H s → t σ H Q →
    wpAny (model X.prog X.w) X.A (forIn ifs true fun c r => if r = true then do let ok ← isTrue c X.env (eval c X.env); pure (ForInStep.yield ok) else pure (ForInStep.yield r)) (TP X pins σ Q) X.xe s
def tYes : TT := fun _ H Q => Q true H
theorem pifs_nil {X : Cx} : PIfs X [] tYes := fun pins s σ H Q I h => by
  simp only [List.forIn_nil]
  exact wpAny_pure ⟨H, I, h⟩
def tCompB (g : TG) (tt : TT) (te : TE) (J : It) (σ : St) (H1 : Hp) (Q : VK) : Prop := ∃ W : Nat → Nat → St → List V → Hp → Prop, (∃ m, W 0 m σ [] H1) ∧ ∀ i m σ' ys H, W i m σ' ys H → ys.length ≤ sizeLine ∧
  ((J.stop i H ∧ ∀ p, H p = none → Q (.ref p) (upd H p (.lst ys))) ∨
   (J.go i H ∧ ∀ x H', J.yld i H x H' → g x σ' H' fun σ2 H2 => tt σ2 H2 fun b H3 => if b = true then te σ2 H3 fun y H4 => ∃ m', m' < m ∧ W (i + 1) m' σ2 (ys ++ [y]) H4 else ∃ m', m' < m ∧ W (i + 1) m' σ2 ys H3))
def tComp (wi : TI) (g : TG) (tt : TT) (te : TE) (caps : List (Option Nat)) : TE := fun σ H Q => wi σ H fun J H1 => tCompB g tt te J (capSt caps σ) H1 Q
theorem comp_run {X : Cx} {tg elt iter : Expr} {ifs : List Expr} {scope : Scope} {pos : Pos} {wi : TI} {g : TG} {tt : TT} {te : TE} {cl : List (Str × Addr)} (N' : List Str) (caps : List (Option Nat)) (hc : X.calm = true) (hi : PI X tg iter wi)
    (hg : ∀ C fp pins s2 H2, PG (cxC X scope cl N' C fp pins s2 H2) tg g) (ht : ∀ C fp pins s2 H2, PIfs (cxC X scope cl N' C fp pins s2 H2) ifs tt) (he : ∀ C fp pins s2 H2, PE (cxC X scope cl N' C fp pins s2 H2) elt te)
    (cap : CapOk X scope cl) (hcell : ∀ y ∈ scope.names, y.2 ≠ .cell) (hkind : scope.kind = .function) (hnames : ∀ y ∈ scope.names, y.2 = .local → scope.names.lookup y.1 = some .local) (hN : caps.length = N'.length)
    (hcap : ∀ (i j : Nat), caps[i]? = some (some j) → ∃ y : Str, N'[i]? = some y ∧ X.N[j]? = some y ∧ (relabel scope X.env).names.lookup y = some .cell ∧ X.env.scope.names.lookup y = some .cell)
    (hs : ∀ x, foldedSetIterable iter X.env x = pure x) {pins : List (Addr × Obj)} {s : Shared} {σ : St} {H : Hp} {Q : VK} {use : Option (Value → Sem Unit)} {QQ : Value → Shared → Prop}
    (fin : ∀ (C D : Addr) (fp : List Addr) (s2 s4 : Shared) (H2 H4 : Hp) (pl : List (Addr × Obj)) (σ' : St) (items : Array Value) (ys : List V), Inv X pins σ H2 s2 → (∀ b ∈ fp, FpOk X pins H2 b) → Inv (cxC X scope cl N' C fp pins s2 H2) pl σ' H4 s4 → s4.heap.PlainList D items → H4 D = none → s2.heap.get? D = none → D ≠ C →
      Vals ys items.toList → ys.length ≤ sizeLine → (∀ p, H4 p = none → Q (.ref p) (upd H4 p (.lst ys))) → compPost (model X.prog X.w) X.A X.xe use QQ (.ref D) C (.ok .next) s4)
    (I : Inv X pins σ H s) (h : tComp wi g tt te caps σ H Q) : wpAny (model X.prog X.w) X.A (comprehension (.ListComp elt [⟨tg, iter, ifs, 0⟩] scope pos) scope X.env (firstIterPos [⟨tg, iter, ifs, 0⟩] pos) (newList []) false (eval iter X.env) use) QQ X.xe s := by
  refine wpAny_comprehension_free (use := use) rfl hs cap.clos hkind hnames (thn (hi pins s σ H _ I h) fun xv s₁ h₁ => thn h₁ fun itv s₂ h₂ => ?_)
  obtain ⟨it, fp, tn, J, H2, rfl, I2, T, st2, f2, W, ⟨m0, w0⟩, turn⟩ := h₂
  have hfp : ∀ b ∈ fp, b < s₂.heap.objs.size := fun b hb => by obtain ⟨o, e, _⟩ := T.obj _ _ st2 b hb; exact Heap.lt_size e
  refine wpAny_newObj_type (wpAny_newFunctionEnv hcell (by intro y hy; simp at hy) (fun h₁ hns₁ hsb₁ => ?_) hkind)
  dsimp only at hns₁ hsb₁ ⊢
  generalize hH2 : s₂.heap.push { cls := .type "list", dict := none, data := .seq ([] : List Value).toArray } = H2' at hns₁ hsb₁ ⊢
  have hC : H2'.objs.size = s₂.heap.objs.size + 1 := by rw [← hH2, Heap.size_push]
  have hDC : s₂.heap.objs.size ≠ H2'.objs.size := by rw [hC]; exact Nat.ne_of_lt (Nat.lt_succ_self _)
  have hCle : s₂.heap.objs.size ≤ H2'.objs.size := by rw [hC]; exact Nat.le_succ _
  have below : ∀ b, b < s₂.heap.objs.size → b ≠ H2'.objs.size := fun b hb => by rw [hC]; exact Nat.ne_of_lt (Nat.lt_succ_of_lt hb)
  have old : ∀ b o, s₂.heap.get? b = some o → h₁.get? b = some o := fun b o e => hsb₁.extBut b o (below b (Heap.lt_size e)) (Heap.get?_push_of_some _ (hH2 ▸ Heap.get?_push_of_some _ e))
  have hacc : h₁.PlainList s₂.heap.objs.size #[] := ⟨_, hsb₁.extBut _ _ hDC (Heap.get?_push_of_some _ (hH2 ▸ Heap.get?_push_size _ rfl))⟩
  have newD : s₂.heap.get? s₂.heap.objs.size = none := Heap.get?_none_of_le (Nat.le_refl _)
  have nD2 : H2 s₂.heap.objs.size = none := I2.hok.fresh (Nat.le_refl _)
  generalize hDD : s₂.heap.objs.size = D at *
  generalize hCC : H2'.objs.size = C at *
  have fpD : ∀ b ∈ fp, b ≠ D := fun b hb => Nat.ne_of_lt (hfp b hb)
  have statX : ∀ {H' : Hp} {pl : List (Addr × Obj)}, (∀ p ∈ pl, p.1 = D) → (∀ b ∈ fp, H' b = none) → ∀ b ∈ fp, FpOk (cxC X scope cl N' C fp pins s₂ H2) pl H' b := fun {H' pl} hpl hn b hb => by
    obtain ⟨f0, f1, f2', f3, f4, f5⟩ := f2 b hb
    refine ⟨hn b hb, below b (hfp b hb), notStk I2 f1 f2', .inl hb, fun y c e => f4 y c (cap.sub y c e), fun p hp => ?_⟩
    rcases List.mem_append.mp hp with hp | hp
    · exact f5 p hp
    · rw [hpl p hp]; exact (fpD b hb).symm
  have ht' : ∀ n s', (∃ i σ' ys, ∃ (items : Array Value), ∃ H', Inv (cxC X scope cl N' C fp pins s₂ H2) [] σ' H' s' ∧ tn i s'.heap ∧ (∀ b ∈ fp, H' b = none) ∧ s'.heap.PlainList D items ∧ Vals ys items.toList ∧ H' D = none ∧ W i n σ' ys H') →
      wpAny (model X.prog X.w) X.A (pyNext (.ref it)) (fun r s₁ => match r with
      | none => compPost (model X.prog X.w) X.A X.xe use QQ (.ref D) C (.ok .next) s₁
      | some v => wpAny (model X.prog X.w) X.A (letOwnedTupleGo tg (.ref it) v) (fun _ s₁' => wpAny (model X.prog X.w) X.A (assign tg (compEnvC scope cl C X.env) v) (fun _ s₂' =>
          wpAny (model X.prog X.w) X.A (forIn ifs true fun c r => if r = true then do let ok ← isTrue c (compEnvC scope cl C X.env) (eval c (compEnvC scope cl C X.env)); pure (ForInStep.yield ok) else pure (ForInStep.yield r)) (fun ok s₃ =>
            if ok = true then wpAny (model X.prog X.w) X.A (eval elt (compEnvC scope cl C X.env)) (fun x s₄ =>
              wpAny (model X.prog X.w) X.A (call (.builtin "list.append") [.ref D, x]) (fun _ s₅ => ∃ m, m < n ∧ ∃ i σ' ys, ∃ (items : Array Value), ∃ H', Inv (cxC X scope cl N' C fp pins s₂ H2) [] σ' H' s₅ ∧ tn i s₅.heap ∧ (∀ b ∈ fp, H' b = none) ∧ s₅.heap.PlainList D items ∧ Vals ys items.toList ∧ H' D = none ∧ W i m σ' ys H') (fun _ _ => False) s₄) (fun _ _ => False) s₃
            else ∃ m, m < n ∧ ∃ i σ' ys, ∃ (items : Array Value), ∃ H', Inv (cxC X scope cl N' C fp pins s₂ H2) [] σ' H' s₃ ∧ tn i s₃.heap ∧ (∀ b ∈ fp, H' b = none) ∧ s₃.heap.PlainList D items ∧ Vals ys items.toList ∧ H' D = none ∧ W i m σ' ys H') (fun _ _ => False) s₂') (fun _ _ => False) s₁') (fun _ _ => False) s₁) (fun _ _ => False) s' := by
    rintro n s3 ⟨i, σ3, ys, items, H3, I3, st3, fr3, pl3, rv3, nD3, w3⟩
    obtain ⟨hz, hw⟩ := turn i n σ3 ys H3 w3
    obtain ⟨n0, ho⟩ := id pl3
    have nfsD : D ∉ frs X.stack := fun z => by
      obtain ⟨_, o, e, _⟩ := I2.stack.mem z
      rw [newD] at e; cases e
    have I3p : Inv (cxC X scope cl N' C fp pins s₂ H2) [(D, { cls := .type "list", data := .seq items n0 })] σ3 H3 s3 := I3.pins_of fun p hp => by
      have e : p = (D, { cls := .type "list", data := .seq items n0 }) := by simpa using hp
      subst e
      exact ⟨ho, nD3, hDC, nfsD, fun v z => by cases z⟩
    have one : ∀ p ∈ [(D, ({ cls := .type "list", data := .seq items n0 } : Obj))], p.1 = D := fun p hp => by
      have e : p = (D, { cls := .type "list", data := .seq items n0 }) := by simpa using hp
      subst e; rfl
    rcases hw with ⟨stop, qn⟩ | ⟨go, step⟩
    · refine thn (T.done (cxC X scope cl N' C fp pins s₂ H2) rfl rfl rfl hc i _ s3 σ3 H3 (fun _ _ => False) I3p (statX one fr3) st3 stop) fun r s4 ⟨hr, I4⟩ => ?_
      subst hr
      obtain ⟨e4, nD4, _⟩ := I4.pin _ (List.mem_append_right _ (List.mem_singleton.mpr rfl))
      exact fin C D fp s₂ s4 H2 H3 _ σ3 items ys I2 f2 I4 ⟨n0, e4⟩ nD4 (hDD ▸ newD) hDC rv3 hz qn
    · refine thn (T.item (cxC X scope cl N' C fp pins s₂ H2) rfl rfl rfl hc i _ s3 σ3 H3 (fun _ _ => False) I3p (statX one fr3) st3 go) fun r s4 ⟨u, hr, h4⟩ => ?_
      subst hr
      refine thn h4 fun _ s5 ⟨x, H5, I5, r5, y5, st5, fr5⟩ => ?_
      have I5' := I5.pinned (statX one fr5) (T.obj _ _ st5)
      refine thn (hg C fp pins s₂ H2 _ s5 σ3 H5 x u _ I5' r5 (step x H5 y5)) fun _ s6 ⟨σ6, H6, I6, q6⟩ => ?_
      refine thn (ht C fp pins s₂ H2 _ s6 σ6 H6 _ I6 q6) fun b s7 ⟨H7, I7, q7⟩ => ?_
      have back : ∀ {H8 : Hp} {s8 : Shared}, Inv (cxC X scope cl N' C fp pins s₂ H2) ([(D, ({ cls := .type "list", data := .seq items n0 } : Obj))] ++ pinsAt fp s5.heap) σ6 H8 s8 →
          Inv (cxC X scope cl N' C fp pins s₂ H2) [] σ6 H8 s8 ∧ tn (i + 1) s8.heap ∧ (∀ b ∈ fp, H8 b = none) ∧ s8.heap.PlainList D items ∧ H8 D = none := fun {H8 s8} I8 => by
        refine ⟨I8.pins_of (fun p hp => nomatch hp), T.keep _ _ _ st5 fun b hb o e => (I8.pin (b, o) (List.mem_append_right _ (List.mem_append_right _ (mem_pinsAt hb e)))).1, fun b hb => ?_, ?_, ?_⟩
        · obtain ⟨o, e, d⟩ := T.obj _ _ st5 b hb
          exact (I8.pin (b, o) (List.mem_append_right _ (List.mem_append_right _ (mem_pinsAt hb e)))).2.1
        · exact ⟨n0, (I8.pin _ (List.mem_append_right _ (List.mem_append_left _ (List.mem_singleton.mpr rfl)))).1⟩
        · exact (I8.pin _ (List.mem_append_right _ (List.mem_append_left _ (List.mem_singleton.mpr rfl)))).2.1
      cases b with
      | false =>
        rw [if_neg Bool.false_ne_true] at q7
        obtain ⟨m', hm, w7⟩ := q7
        obtain ⟨J1, J2, J3, J4, J5⟩ := back I7
        rw [if_neg Bool.false_ne_true]
        exact ⟨m', hm, i + 1, σ6, ys, items, H7, J1, J2, J3, J4, rv3, J5, w7⟩
      | true =>
        rw [if_pos rfl] at q7
        rw [if_pos rfl]
        refine thn (he C fp pins s₂ H2 _ s7 σ6 H7 _ I7 q7) fun v s8 ⟨y, H8, I8, r8, m', hm, w8⟩ => ?_
        obtain ⟨J1, J2, J3, J4, J5⟩ := back I8
        have hit : items.size ≤ sizeLine := by
          have e : ys.length = items.size := by simpa using rv3.length
          omega
        refine wpAny_list_append_plain (hsz := hit) J4 fun h9 hl9 hs9 => ?_
        have nc : ∀ y c, cl.lookup y = some c → c ≠ D := fun y c e z => by
          obtain ⟨v, o, ho, _⟩ := I2.cell y c (cap.sub y c e)
          rw [z, newD] at ho; cases ho
        have np : ∀ p ∈ (X.pn ++ pins) ++ [], p.1 ≠ D := fun p hp z => by
          rw [List.append_nil] at hp
          have e := (I2.pin p hp).1
          rw [z, newD] at e; cases e
        have J9 : Inv (cxC X scope cl N' C fp pins s₂ H2) [] σ6 H8 { s8 with heap := h9 } := J1.turned (it := D) (t' := s8.toks) (fun b o hb e => hs9.extBut b o hb e) J5 hDC (.inr (Nat.le_of_eq hDD)) nc np
        refine ⟨m', hm, i + 1, σ6, ys ++ [y], items.push v, H8, J9, T.keep _ _ _ J2 fun b hb o e => hs9.extBut b o (fpD b hb) e, J3, hl9, ?_, J5, w8⟩
        rw [Array.toList_push]
        exact rv3.append (.cons r8 .nil)
  have I0 : Inv (cxC X scope cl N' C fp pins s₂ H2) [] (capSt caps σ) H2 { s₂ with heap := h₁, toks := s₂.toks + ([] : List (Str × Value)).length } :=
    inv_comp I2 f2 (fun b hb => hDD ▸ hfp b hb) hkind cap (by rw [hDD]; exact hCle) rfl I2.bare old hns₁ hN hcap
  have st0 : tn 0 h₁ := T.keep _ _ _ st2 fun b _ o e => old b o e
  have loop : ∀ s₃ : Shared, s₃ = { s₂ with heap := h₁, toks := s₂.toks + ([] : List (Str × Value)).length } →
      codeAny (model X.prog X.w) X.A (.compLoop (.ListComp elt [⟨tg, iter, ifs, 0⟩] scope pos) 0 (.ref it) (.ref D) (compEnvC scope cl C X.env)) (compPost (model X.prog X.w) X.A X.xe use QQ (.ref D) C) s₃ := by
    rintro s₃ rfl
    exact compLoop_own _ ht' m0 ⟨0, _, [], #[], H2, I0, st0, fun b hb => (f2 b hb).1, hacc, .nil, nD2, w0⟩
  exact codeAny_compStart_list (loop _ rfl) (T.self X.A 0 _ _ _ st0 (loop _ rfl))
def tSetC (i : Nat) (t : TE) : TS := fun D σ H => t σ H fun v H1 => D.nx (σ.set i (some v)) H1
theorem ps_comp {X : Cx} {tg elt iter : Expr} {ifs : List Expr} {scope : Scope} {pos spos py : Pos} {wi : TI} {g : TG} {tt : TT} {te : TE} {cl : List (Str × Addr)} {y : Str} {i : Nat} (hND : X.N.Nodup) (hiy : X.N[i]? = some y) (hy : Loc X.env.scope y) (N' : List Str) (caps : List (Option Nat)) (hc : X.calm = true) (hi : PI X tg iter wi)
    (hg : ∀ C fp pins s2 H2, PG (cxC X scope cl N' C fp pins s2 H2) tg g) (ht : ∀ C fp pins s2 H2, PIfs (cxC X scope cl N' C fp pins s2 H2) ifs tt) (he : ∀ C fp pins s2 H2, PE (cxC X scope cl N' C fp pins s2 H2) elt te)
    (cap : CapOk X scope cl) (hcell : ∀ y ∈ scope.names, y.2 ≠ .cell) (hkind : scope.kind = .function) (hnames : ∀ y ∈ scope.names, y.2 = .local → scope.names.lookup y.1 = some .local) (hN : caps.length = N'.length)
    (hcap : ∀ (i j : Nat), caps[i]? = some (some j) → ∃ y : Str, N'[i]? = some y ∧ X.N[j]? = some y ∧ (relabel scope X.env).names.lookup y = some .cell ∧ X.env.scope.names.lookup y = some .cell)
    (hs : ∀ x, foldedSetIterable iter X.env x = pure x := by intro _; rfl) (hsw : swapsWith (.ListComp elt [⟨tg, iter, ifs, 0⟩] scope pos) (some (.Name y py)) spos.line X.env = pure true := by rfl)
    (hfn : X.fn y = true ∨ X.env.scope.names.lookup y = some .local := by first | exact .inl rfl | exact .inr rfl | assumption) :
    PS X (.Assign [.Name y py] (.ListComp elt [⟨tg, iter, ifs, 0⟩] scope pos) spos) (tSetC i (tComp wi g tt te caps)) := by
  intro pins s σ H D I h
  rw [exec_Assign_Name_used _ _ _ _ hsw]
  refine wpAny_bind (wpAny_standAt (wpAny_bind ?_))
  show wpAny _ X.A (do let _ ← comprehension (.ListComp elt [⟨tg, iter, ifs, 0⟩] scope pos) scope X.env _ (newList []) false (eval iter X.env) (some (assign (.Name y py) X.env))) _ _ s
  refine wpAny_bind (wpAny_mono (comp_run (use := some (assign (.Name y py) X.env)) (QQ := fun _ s' => SP X pins D .next s') N' caps hc hi hg ht he cap hcell hkind hnames hN hcap hs
    (fun C Dl fp s2 s4 H2 H4 pl σ' items ys I2 f2 I4 hpl nD newD hDC rv hz qn => ?_) I h) (fun _ s' hq => wpAny_pure (wpAny_pure hq)) fun _ _ e => e)
  have hC : s2.heap.objs.size ≤ C := I4.ok.above
  obtain ⟨m, hn, _⟩ := I4.loc
  obtain ⟨oC, es, ep, hoC, hdC, hrest⟩ := id hn
  have J : Inv X pins σ (upd H4 Dl (.lst ys)) s4 := comp_end I2 f2 I4 hpl nD newD hDC rv hz (Heap.SameBut.refl ..)
  have nC : upd H4 Dl (.lst ys) C = none := by rw [upd_ne (Ne.symm hDC)]; exact I4.free
  have c1 : C ≠ X.env.locals := Nat.ne_of_gt (Nat.lt_of_lt_of_le I2.lt hC)
  have c2 : C ∉ X.fs := I2.nofs hC
  have J1 : Inv X (pins ++ [(C, oC)]) σ (upd H4 Dl (.lst ys)) s4 := J.pins_of fun p hp => by
    rcases List.mem_append.mp hp with hp | hp
    · exact J.pin p (List.mem_append_right _ hp)
    · have e : p = (C, oC) := by simpa using hp
      subst e
      exact ⟨hoC, nC, c1, c2, fun v z => by rw [hdC] at z; cases z⟩
  show wpAny _ X.A (assign (.Name y py) X.env (.ref Dl)) _ _ s4
  refine wpAny_assign_Name (store_ok J1 hND hiy hy (show RelV (.ref Dl) (Value.ref Dl) from rfl) (fun s5 J5 => ?_) hfn)
  obtain ⟨e5, _⟩ := J5.pin (C, oC) (List.mem_append_right _ (List.mem_append_right _ (List.mem_singleton.mpr rfl)))
  refine ⟨m, ⟨oC, es, ep, e5, hdC, hrest⟩, fun h' sb => ?_⟩
  have J6 : Inv X pins (σ.set i (some (.ref Dl))) (upd H4 Dl (.lst ys)) s5 := J5.unpinned
  refine ⟨_, _, J6.turned (it := C) (t' := s5.toks) (fun b o hb e => sb.extBut b o hb e) nC c1 (.inr (Nat.le_trans I2.sz hC)) (fun x c e z => ?_) (fun p hp z => ?_), qn Dl nD⟩
  · obtain ⟨v, o, ho, _⟩ := I2.cell x c e
    exact absurd (Heap.lt_size ho) (by rw [z]; exact Nat.not_lt.mpr hC)
  · have e := (I2.pin p hp).1
    exact absurd (Heap.lt_size e) (by rw [z]; exact Nat.not_lt.mpr hC)
end L2
namespace L2
open PySem PySem.Spec PyProof.Rows
theorem SqT.keep {K : PySem.W.Frag} {H H' : Hp} {a : Addr} {xs : List V} (s : Same H H') (h : SqT K H a xs) : SqT K H' a xs := by
  rcases h with (h | ⟨o, h⟩) | h
  · exact .inl (.inl (s _ _ h))
  · exact .inl (.inr ⟨o, s _ _ h⟩)
  · exact .inr h
theorem SqL.keep {K : PySem.W.Frag} {H H' : Hp} {a : Addr} {xs : List V} (s : Same H H') (h : SqL K H a xs) : SqL K H' a xs := s.seq h
mutual
theorem DV.keep {K : PySem.W.Frag} {H H' : Hp} (s : Same H H') : ∀ {v : V} {d : PyData}, DV K H v d → DV K H' v d
  | _, _, .non => .non
  | _, _, .bl b => .bl b
  | _, _, .int i => .int i
  | _, _, .str x => .str x
  | _, _, .lst h q => .lst (h.keep s) (DVs.keep s q)
  | _, _, .tup h q => .tup (h.keep s) (DVs.keep s q)
  | _, _, .dct h => .dct (s _ _ h)
theorem DVs.keep {K : PySem.W.Frag} {H H' : Hp} (s : Same H H') : ∀ {vs : List V} {ds : List PyData}, DVs K H vs ds → DVs K H' vs ds
  | _, _, .nil => .nil
  | _, _, .cons h q => .cons (DV.keep s h) (DVs.keep s q)
end
section
variable {K : PySem.W.Frag} {H : Hp} {v : V} {vs : List V} {d d1 d2 d3 d4 : PyData} {ds : List PyData}
theorem DVs.len : ∀ {vs : List V} {ds : List PyData}, DVs K H vs ds → vs.length = ds.length
  | _, _, .nil => rfl
  | _, _, .cons _ q => by rw [List.length_cons, List.length_cons, DVs.len q]
theorem DV.tup_of (h : DV K H v (.tuple ds)) : ∃ a xs, v = .ref a ∧ SqT K H a xs ∧ DVs K H xs ds := by
  cases h with
  | tup h q => exact ⟨_, _, rfl, h, q⟩
theorem DV.lst_of (h : DV K H v (.list ds)) : ∃ a xs, v = .ref a ∧ SqL K H a xs ∧ DVs K H xs ds := by
  cases h with
  | lst h q => exact ⟨_, _, rfl, h, q⟩
theorem DVs.one (h : DVs K H vs [d1]) : ∃ x, vs = [x] ∧ DV K H x d1 := by
  cases h with
  | cons h q => cases q; exact ⟨_, rfl, h⟩
theorem DVs.two (h : DVs K H vs [d1, d2]) : ∃ x y, vs = [x, y] ∧ DV K H x d1 ∧ DV K H y d2 := by
  cases h with
  | cons h q =>
    obtain ⟨y, rfl, hy⟩ := q.one
    exact ⟨_, _, rfl, h, hy⟩
theorem DVs.three (h : DVs K H vs [d1, d2, d3]) : ∃ x y z, vs = [x, y, z] ∧ DV K H x d1 ∧ DV K H y d2 ∧ DV K H z d3 := by
  cases h with
  | cons h q =>
    obtain ⟨y, z, rfl, hy, hz⟩ := q.two
    exact ⟨_, _, _, rfl, h, hy, hz⟩
theorem DV.t2 (h : DV K H v (.tuple [d1, d2])) : ∃ a x y, v = .ref a ∧ SqT K H a [x, y] ∧ DV K H x d1 ∧ DV K H y d2 := by
  obtain ⟨a, xs, rfl, ha, q⟩ := h.tup_of
  obtain ⟨x, y, rfl, hx, hy⟩ := q.two
  exact ⟨a, x, y, rfl, ha, hx, hy⟩
theorem DV.int_of {i : Int} (h : DV K H v (.int i)) : v = .int i := by cases h; rfl
theorem DV.bl_of {b : Bool} (h : DV K H v (.bool b)) : v = .bl b := by cases h; rfl
theorem DVs.get : ∀ {vs : List V} {ds : List PyData} {i : Nat} {v : V}, DVs K H vs ds → vs[i]? = some v → ∃ d, ds[i]? = some d ∧ DV K H v d
  | _, _, _, _, .nil, e => by simp at e
  | _, _, 0, _, .cons h _, e => by simp at e; subst e; exact ⟨_, rfl, h⟩
  | _, _, i + 1, v, .cons _ q, e => by
    obtain ⟨d, h1, h2⟩ := DVs.get (i := i) (v := v) q (by simpa using e)
    exact ⟨d, by simpa using h1, h2⟩
theorem DVs.append : ∀ {vs ws : List V} {ds es : List PyData}, DVs K H vs ds → DVs K H ws es → DVs K H (vs ++ ws) (ds ++ es)
  | _, _, _, _, .nil, q => q
  | _, _, _, _, .cons h t, q => .cons h (DVs.append t q)
end
def tyD : PyData → String
  | .none => "NoneType"
  | .bool _ => "bool"
  | .int _ => "int"
  | .str _ => "str"
  | .list _ => "list"
  | .tuple _ => "tuple"
  | .dict _ => "dict"
section
variable {X : Cx}
theorem call_isiD : CallR X (.builtin "isinstance") (fun xs H Q => ∃ x d c b, xs = [x, .ty c] ∧ DV X.K H x d ∧ bsub (tyD d) c = some b ∧ Q (.bl b) H) := by
  intro pins s σ H xs us Q I r h
  obtain ⟨x, d, c, b, rfl, hd, e, q⟩ := h
  obtain ⟨u, v, rfl, ru, rv⟩ := vals2 r
  cases (show v = Value.type c from rv)
  have e' := kit_b (K := X.K) e
  have fin : ∀ tk, EP X pins σ Q (.bool b) { s with toks := tk } := fun tk => ⟨.bl b, H, I.tok _, rfl, q⟩
  cases hd with
  | non => exact isinst_ok I ru .non e' fin
  | bl b => exact isinst_ok I ru (.bl b) e' fin
  | int i => exact isinst_ok I ru (.int i) e' fin
  | str x => exact isinst_ok I ru (.str x) e' fin
  | lst h _ =>
    cases ru
    obtain ⟨its, rv, ⟨o, n, e1, e2, _⟩, _⟩ := I.list h
    exact PySem.W.kia_one PySem.W.kitx_list I.kIn ⟨o, e1, e2⟩ e' (fun z => nomatch z) fin
  | tup h _ =>
    cases ru
    obtain ⟨its, rv, ⟨o, e1, e2, _⟩, _⟩ := I.tuple h
    exact PySem.W.kia_one PySem.W.kitx_tuple I.kIn ⟨o, e1, e2⟩ e' (fun z => nomatch z) fin
  | dct h => exact isinst_ok I ru (.dK h) e' fin
end
def Ite (K : PySem.W.Frag) (a : Addr) : It :=
  ⟨fun i H => ∃ xs x, SqL K H a xs ∧ xs[i]? = some x, fun i H x H' => ∃ p v, H p = none ∧ x = .ref p ∧ (∀ xs, SqL K H a xs → xs[i]? = some v) ∧ H' = upd H p (.tup [.int i, v]), fun i H => ∃ xs, SqL K H a xs ∧ xs.length ≤ i⟩
theorem turn_enum {P : Program} {w : World} {K : PySem.W.Frag} {elts : List Expr} {x1} {tpos : Pos} (a e it : Addr) (hne : e ≠ it) : Turn P w K (.Tuple elts x1 tpos) (Ite K a) [e, it] e (fun i h => (∃ old, IsEnum h e it (i : Int) old) ∧ h.IsListIter it a i) where
  mem := by simp
  obj := fun i h ⟨⟨old, st⟩, o', e', c', d'⟩ b hb => by
    rcases List.mem_cons.mp hb with z | z
    · subst z
      exact ⟨_, st, fun v q => by cases q⟩
    · have z : b = it := by simpa using z
      subst z
      exact ⟨o', e', fun v q => by rw [d'] at q; cases q⟩
  keep := fun i h h' ⟨⟨old, st⟩, st'⟩ k => ⟨⟨old, k e (by simp) _ st⟩, st'.at fun o q => k it (by simp) o q⟩
  item := by
    intro X hP hw hK hc i pins s σ H E I hf ⟨⟨old, st⟩, st'⟩ hg
    subst hP hw hK
    obtain ⟨xs, x, hq, hx⟩ := hg
    obtain ⟨its, rv, p, hz⟩ := I.list hq
    obtain ⟨u, hu, ru⟩ := rv.get hx
    obtain ⟨f0, f1, f2, f3, f4, f5⟩ := hf e (by simp)
    obtain ⟨g0, g1, g2, g3, g4, g5⟩ := hf it (by simp)
    refine wpAny_pyNext_enum_item st st' p.isList (x := u) (by simpa using hu) hne fun h1 heo hit1 ht1 hz1 hk1 => ?_
    refine ⟨_, rfl, ?_⟩
    refine wpAny_letOwnedTupleGo_enum heo fun h2 he2 hs2 => ?_
    have nep : ∀ b o, s.heap.get? b = some o → b ≠ s.heap.objs.size := fun b o q => Nat.ne_of_lt (Heap.lt_size q)
    have k2 : ∀ b o, b ≠ e → b ≠ it → s.heap.get? b = some o → h2.get? b = some o := fun b o h1' h2' q => hs2.extBut b o h1' (hk1 b o h1' h2' q)
    have nt : ∀ b o, H b = some o → b ≠ e ∧ b ≠ it := fun b o q => ⟨(fun z => by rw [z, f0] at q; cases q), fun z => by rw [z, g0] at q; cases q⟩
    have hp0 : H s.heap.objs.size = none := I.hok.fresh (Nat.le_refl _)
    have htp : h2.get? s.heap.objs.size = some { cls := .type "tuple", data := .seq #[.int i s.toks, u] } := hs2.extBut _ _ (Nat.ne_of_gt (Heap.lt_size st)) ht1
    have J : Inv X pins σ (upd H s.heap.objs.size (.tup [.int i, x])) { s with heap := h2, toks := s.toks + 1 } := by
      refine I.step (g' := s.gens) (d' := s.drawn) (ch := [e, it]) (fun b hb => ?_) (fun b o _ _ hc' q n => k2 b o (fun z => hc' (by simp [z])) (fun z => hc' (by simp [z])) q) (fun b o _ _ hc' q n => ⟨o.slots, k2 b o (fun z => hc' (by simp [z])) (fun z => hc' (by simp [z])) q⟩)
        (fun b o _ q n => by rw [upd_ne (nep b o q)]; exact n) (fun b o hc' q => ⟨o, k2 b o (fun z => hc' (by simp [z])) (fun z => hc' (by simp [z])) q⟩)
        (fun b ys q => by rw [upd_ne (ne_of_none q hp0)]; exact q) (fun b o y q => by rw [upd_ne (ne_of_none q hp0)]; exact q) (fun b ps q => ⟨#[], by rw [upd_ne (ne_of_none q hp0), q]; simp⟩) (fun m hm => ?_) (fun b o q => ?_) I.bare
      · rcases List.mem_cons.mp hb with z | z
        · subst z; exact ⟨f3, f1, f4, f5⟩
        · have z : b = it := by simpa using z
          subst z; exact ⟨g3, g1, g4, g5⟩
      · obtain ⟨o, es, ep, ho, r⟩ := hm
        exact ⟨o, es, ep, k2 _ o (Ne.symm f1) (Ne.symm g1) ho, r⟩
      · by_cases hb : b = s.heap.objs.size
        · subst hb
          rw [upd_same] at q
          cases q
          exact ⟨by show 2 ≤ sizeLine; decide, [.int i s.toks, u], .cons ⟨_, rfl⟩ (.cons ru .nil), _, htp, rfl, _, rfl⟩
        · rw [upd_ne hb] at q
          refine (I.hok b o q).stay (fun c v hc' z => k2 c v ?_ ?_ z) (fun c z => by rw [upd_ne (ne_of_none z hp0)]; exact z) fun c ys z => by rw [upd_ne (ne_of_none z hp0)]; exact z
          · rcases hc' with z | z
            · rw [z]; exact (nt b o q).1
            · exact (nt c _ z).1
          · rcases hc' with z | z
            · rw [z]; exact (nt b o q).2
            · exact (nt c _ z).2
    refine ⟨.ref s.heap.objs.size, _, J, rfl, ⟨s.heap.objs.size, x, hp0, rfl, (fun ys hy => by rw [I.list_inj hy hq]; exact hx), rfl⟩, ⟨⟨u, ?_⟩, ?_⟩, fun b hb => ?_⟩
    · have z : ((i + 1 : Nat) : Int) = (i : Int) + 1 := by push_cast; rfl
      rw [z]; exact he2
    · exact hit1.extBut hs2.extBut (Ne.symm hne)
    · rcases List.mem_cons.mp hb with z | z
      · subst z
        rw [upd_ne (nep _ _ st)]; exact f0
      · have z : b = it := by simpa using z
        subst z
        obtain ⟨o, q, _⟩ := st'
        rw [upd_ne (nep _ _ q)]; exact g0
  done := by
    intro X hP hw hK hc i pins s σ H E I hf ⟨⟨old, st⟩, st'⟩ hg
    subst hP hw hK
    obtain ⟨xs, hq, hx⟩ := hg
    obtain ⟨its, rv, p, hz⟩ := I.list hq
    obtain ⟨g0, g1, g2, g3, g4, g5⟩ := hf it (by simp)
    have hl := rv.length
    exact wpAny_pyNext_enum_end (I.ok.hd hc) st st' p.isList (by simp; omega) fun h' eb => ⟨rfl, I.turned (t' := s.toks) (fun b o hb e => eb b o hb e) g0 g1 g3 g4 g5⟩
  self := fun _ _ _ _ _ ⟨⟨old, st⟩, _⟩ h => wpAny_pyIter_enum st h
section
variable {X : Cx} {elts : List Expr} {x1 : Nat} {tpos : Pos}
def iEnum (K : PySem.W.Frag) (ta : TA) : TI := fun σ H R => ta σ H fun vs H1 => ∃ a, vs = [.ref a] ∧ (∃ xs, SqL K H1 a xs) ∧ R (Ite K a) H1
theorem pi_enum {a : Expr} {ta : TA} {p pos : Pos} (hg : Gl X "enumerate") (hm : X.mg "enumerate" = none) (ha : PA X [a] ta) (hs : starEach [a] X.env = [(false, eval a X.env)] := by rfl) : PI X (.Tuple elts x1 tpos) (.Call (.Name "enumerate" p) [a] [] pos) (iEnum X.K ta) := by
  intro pins s σ H R I h
  refine Call_ (ld_blt I hg hm boot_enumerate (PyProof.Rows.callWith_type1 (thn (ha pos pins s σ H _ I h) fun us s1 ⟨vs, H1, I1, r1, q1⟩ => ?_) hs rfl))
  obtain ⟨a, e, ⟨xs, hq⟩, q⟩ := q1
  subst e
  obtain ⟨u, rfl, r⟩ := vals1 r1
  cases r
  obtain ⟨its, rv, p, hz⟩ := I1.list hq
  refine call_enumerate_list p.isList fun h' he hi hsz hk => ?_
  have I2 : Inv X pins σ H1 { s1 with heap := h' } := I1.kept (t' := s1.toks) hk
  refine wpAny_pyIter_enum he ⟨s1.heap.objs.size + 1, [s1.heap.objs.size + 1, s1.heap.objs.size], _, _, H1, rfl, I2, turn_enum a _ _ (Nat.succ_ne_self _), ⟨⟨_, he⟩, hi⟩, fun b hb => ?_, q⟩
  rcases List.mem_cons.mp hb with z | z
  · subst z
    exact I1.fpOk (Nat.le_succ _) (I1.hok.fresh (Nat.le_succ _))
  · have z : b = s1.heap.objs.size := by simpa using z
    subst z
    exact I1.fpOk (Nat.le_refl _) (I1.hok.fresh (Nat.le_refl _))
end
theorem for_enum {K : PySem.W.Frag} {a : Addr} {xs : List V} {g : TG} {tb : TS} {D : Ends} {σ : St} {H : Hp} (Pv : Nat → St → Hp → Prop) (h0 : Pv 0 σ H) (hl : ∀ i σ H, i ≤ xs.length → Pv i σ H → SqL K H a xs)
    (hs : ∀ i x σ H p, xs[i]? = some x → Pv i σ H → H p = none → g (.ref p) σ (upd H p (.tup [.int i, x])) fun σ2 H2 => tb { D with nx := Pv (i + 1), ct := Pv (i + 1), bk := D.nx } σ2 H2) (hd : ∀ σ H, Pv xs.length σ H → D.nx σ H) :
    ∃ W : Nat → Nat → St → Hp → Prop, (∃ m, W 0 m σ H) ∧ ∀ i m σ H, W i m σ H →
      ((Ite K a).stop i H ∧ D.nx σ H) ∨ ((Ite K a).go i H ∧ ∃ N : St → Hp → Prop, (∀ σ' H', N σ' H' → ∃ m', m' < m ∧ W (i + 1) m' σ' H') ∧ ∀ x H', (Ite K a).yld i H x H' → g x σ H' fun σ2 H2 => tb { D with nx := N, ct := N, bk := D.nx } σ2 H2) := by
  refine ⟨fun i m σ H => m = xs.length - i ∧ i ≤ xs.length ∧ Pv i σ H, ⟨xs.length, by simp, Nat.zero_le _, h0⟩, ?_⟩
  rintro i m σ H ⟨rfl, hi, p⟩
  have q := hl i σ H hi p
  by_cases hlt : i < xs.length
  · refine .inr ⟨⟨xs, xs[i], q, by simp [hlt]⟩, Pv (i + 1), fun σ' H' p' => ⟨xs.length - (i + 1), by omega, rfl, hlt, p'⟩, fun x H' y => ?_⟩
    obtain ⟨r, v, n, rfl, y, rfl⟩ := y
    exact hs i v σ H r (y xs q) p n
  · have e : i = xs.length := by omega
    subst e
    exact .inl ⟨⟨xs, q, Nat.le_refl _⟩, hd σ H p⟩
def Nx (n : Nat) (Pv : Nat → St → List V → Hp → Prop) (i : Nat) (σ : St) (ys : List V) (H : Hp) : Prop := ∃ m', m' < n - i ∧ (m' = n - (i + 1) ∧ i + 1 ≤ n ∧ Pv (i + 1) σ ys H)
theorem nx {n : Nat} {Pv : Nat → St → List V → Hp → Prop} {i : Nat} {σ : St} {ys : List V} {H : Hp} (hi : i < n) (h : Pv (i + 1) σ ys H) : Nx n Pv i σ ys H := ⟨n - (i + 1), by omega, rfl, hi, h⟩
theorem lt_of_get {α : Type} {xs : List α} {i : Nat} {x : α} (h : xs[i]? = some x) : i < xs.length := (List.getElem?_eq_some_iff.mp h).1
theorem comp_range {lo : Int} {n : Nat} {g : TG} {tt : TT} {te : TE} {Q : VK} {σ : St} {H : Hp} (Pv : Nat → St → List V → Hp → Prop) (h0 : Pv 0 σ [] H) (hz : ∀ i σ ys H, i ≤ n → Pv i σ ys H → ys.length ≤ sizeLine)
    (hs : ∀ i σ ys H, i < n → Pv i σ ys H → g (.int (lo + i)) σ H fun σ2 H2 => tt σ2 H2 fun b H3 => if b = true then te σ2 H3 fun y H4 => Nx n Pv i σ2 (ys ++ [y]) H4 else Nx n Pv i σ2 ys H3)
    (hd : ∀ σ ys H p, Pv n σ ys H → H p = none → Q (.ref p) (upd H p (.lst ys))) :
    tCompB g tt te (Itr lo n) σ H Q := by
  refine ⟨fun i m σ ys H => m = n - i ∧ i ≤ n ∧ Pv i σ ys H, ⟨n, by simp, Nat.zero_le _, h0⟩, ?_⟩
  rintro i m σ' ys H ⟨rfl, hi, p⟩
  refine ⟨hz i σ' ys H hi p, ?_⟩
  by_cases hlt : i < n
  · refine .inr ⟨hlt, fun x H' y => ?_⟩
    obtain ⟨rfl, rfl⟩ := y
    exact hs i σ' ys _ hlt p
  · have e : i = n := by omega
    subst e
    exact .inl ⟨Nat.le_refl _, fun r n => hd σ' ys _ r p n⟩
theorem comp_range0 {lo : Int} {n : Nat} {g : TG} {te : TE} {Q : VK} {σ : St} {H : Hp} (Pv : Nat → St → List V → Hp → Prop) (h0 : Pv 0 σ [] H) (hz : ∀ i σ ys H, i ≤ n → Pv i σ ys H → ys.length ≤ sizeLine)
    (hs : ∀ i σ ys H, i < n → Pv i σ ys H → g (.int (lo + i)) σ H fun σ2 H2 => te σ2 H2 fun y H4 => Nx n Pv i σ2 (ys ++ [y]) H4)
    (hd : ∀ σ ys H p, Pv n σ ys H → H p = none → Q (.ref p) (upd H p (.lst ys))) : tCompB g tYes te (Itr lo n) σ H Q :=
  comp_range Pv h0 hz (fun i σ ys H hx hp => by
    have := hs i σ ys H hx hp
    simpa only [tYes, if_true] using this) hd
end L2
namespace L2
open PySem PySem.Spec PyProof.Rows
end L2
namespace L2
open PySem PySem.Spec PyProof.Rows
theorem clos_run (env : Env) : ∀ (l : List (Str × NameKind)) (acc : List (Str × Addr)), (∀ y ∈ l, y.2 = .free → ∃ c, env.cells.lookup y.1 = some c) →
    ∃ cl, (forIn l acc fun (x : Str × NameKind) (cs : List (Str × Addr)) => (if (x.2 == NameKind.free) = true then (cellOf env x.1 >>= fun a => pure (ForInStep.yield ((x.1, a) :: cs))) else pure (ForInStep.yield cs) : Sem (ForInStep (List (Str × Addr))))) = pure cl ∧
      (∀ y c, cl.lookup y = some c → acc.lookup y = some c ∨ env.cells.lookup y = some c) ∧ (∀ y c, acc.lookup y = some c → ∃ c', cl.lookup y = some c') ∧ ∀ y ∈ l, y.2 = .free → ∃ c, cl.lookup y.1 = some c := by
  intro l
  induction l with
  | nil => intro acc _; exact ⟨acc, rfl, fun y c e => .inl e, fun y c e => ⟨c, e⟩, fun _ h => nomatch h⟩
  | cons x r ih =>
    intro acc h
    obtain ⟨n, k⟩ := x
    have hr : ∀ y ∈ r, y.2 = .free → ∃ c, env.cells.lookup y.1 = some c := fun y hy => h y (List.mem_cons_of_mem _ hy)
    rw [List.forIn_cons]
    by_cases hk : k = .free
    · subst hk
      obtain ⟨c, hc⟩ := h (n, .free) List.mem_cons_self rfl
      have ec : cellOf env n = pure c := by unfold cellOf; rw [show env.cells.lookup n = some c from hc]
      rw [if_pos (by rfl), ec, pure_bind, pure_bind]
      obtain ⟨cl, e, h1, h2, h3⟩ := ih ((n, c) :: acc) hr
      refine ⟨cl, e, fun y c' hy => ?_, fun y c' hy => ?_, fun y hy hf => ?_⟩
      · rcases h1 y c' hy with z | z
        · rw [List.lookup_cons] at z
          split at z
          · rename_i ey
            have ey : y = n := by simpa using ey
            subst ey
            cases z
            exact .inr hc
          · exact .inl z
        · exact .inr z
      · by_cases ey : y = n
        · subst ey
          exact h2 y c (by simp)
        · have eb : (y == n) = false := by simpa using ey
          exact h2 y c' (by rw [List.lookup_cons, eb]; exact hy)
      · rcases List.mem_cons.mp hy with z | z
        · subst z
          exact h2 n c (by simp)
        · exact h3 y z hf
    · have hb : ¬ (k == NameKind.free) = true := by simpa using hk
      rw [if_neg hb, pure_bind]
      obtain ⟨cl, e, h1, h2, h3⟩ := ih acc hr
      refine ⟨cl, e, h1, h2, fun y hy hf => ?_⟩
      rcases List.mem_cons.mp hy with z | z
      · subst z; exact absurd hf hk
      · exact h3 y z hf
theorem cap_of {X : Cx} {scope : Scope} (hcell : ∀ y ∈ scope.names, y.2 ≠ .cell) (hf : ∀ y ∈ scope.names, y.2 = .free → ∃ c, X.env.cells.lookup y.1 = some c) : ∃ cl, CapOk X scope cl := by
  obtain ⟨cl, e, h1, h2, h3⟩ := clos_run X.env scope.names [] hf
  refine ⟨cl, ?_, fun y c hy => ?_, fun y hy => ?_⟩
  · unfold closureFor
    rw [show (pure cl : Sem _) = (pure cl >>= fun cs => pure cs) by rw [pure_bind], ← e]
  · rcases h1 y c hy with z | z
    · simp at z
    · exact z
  · have hm : ∃ k, (y, k) ∈ (relabel scope X.env).names ∧ (k = .cell ∨ k = .free) := by
      rcases hy with z | z
      · exact ⟨_, PySem.mem_of_lookup z, .inl rfl⟩
      · exact ⟨_, PySem.mem_of_lookup z, .inr rfl⟩
    obtain ⟨k, hm, hk⟩ := hm
    unfold relabel at hm
    obtain ⟨⟨n, k'⟩, hn, e'⟩ := List.mem_map.mp hm
    have hk' : k' = .free := by
      by_cases z : k' = .free
      · exact z
      · have zb : (k' == NameKind.free) = false := by simpa using z
        simp only [zb, Bool.false_and, Bool.false_eq_true, if_false, Prod.mk.injEq] at e'
        obtain ⟨_, rfl⟩ := e'
        rcases hk with rfl | rfl
        · exact absurd rfl (hcell _ hn)
        · exact absurd rfl z
    subst hk'
    have en : n = y := by
      dsimp only at e'
      split at e'
      · exact (Prod.mk.inj e').1
      · exact (Prod.mk.inj e').1
    subst en
    exact h3 _ hn rfl
theorem cap_def {X : Cx} {scope : Scope} {n : Nat} (hc : X.env.cells = cellsFrom n X.env.scope.names [] := by rfl) (hcell : ∀ y ∈ scope.names, y.2 ≠ .cell) (hf : ∀ y ∈ scope.names, y.2 = .free → X.env.scope.names.lookup y.1 = some .cell) : ∃ cl, CapOk X scope cl :=
  cap_of hcell fun y hy hz => by
    rw [hc]
    exact cell_has (hf y hy hz)
section
variable {X : Cx} {tg elt iter : Expr} {ifs : List Expr} {scope : Scope} {pos spos py : Pos} {wi : TI} {g : TG} {tt : TT} {te : TE}
theorem ps_compX {y : Str} {i : Nat} (hND : X.N.Nodup) (hiy : X.N[i]? = some y) (hy : Loc X.env.scope y) (N' : List Str) (caps : List (Option Nat)) (hc : X.calm = true) (hi : PI X tg iter wi)
    (hg : ∀ cl C fp pins s2 H2, PG (cxC X scope cl N' C fp pins s2 H2) tg g) (ht : ∀ cl C fp pins s2 H2, PIfs (cxC X scope cl N' C fp pins s2 H2) ifs tt) (he : ∀ cl C fp pins s2 H2, PE (cxC X scope cl N' C fp pins s2 H2) elt te)
    (cap : ∃ cl, CapOk X scope cl) (hcell : ∀ y ∈ scope.names, y.2 ≠ .cell) (hkind : scope.kind = .function) (hnames : ∀ y ∈ scope.names, y.2 = .local → scope.names.lookup y.1 = some .local) (hN : caps.length = N'.length)
    (hcap : ∀ (i j : Nat), caps[i]? = some (some j) → ∃ y : Str, N'[i]? = some y ∧ X.N[j]? = some y ∧ (relabel scope X.env).names.lookup y = some .cell ∧ X.env.scope.names.lookup y = some .cell)
    (hs : ∀ x, foldedSetIterable iter X.env x = pure x := by intro _; rfl) (hsw : swapsWith (.ListComp elt [⟨tg, iter, ifs, 0⟩] scope pos) (some (.Name y py)) spos.line X.env = pure true := by rfl)
    (hfn : X.fn y = true ∨ X.env.scope.names.lookup y = some .local := by first | exact .inl rfl | exact .inr rfl | assumption) :
    PS X (.Assign [.Name y py] (.ListComp elt [⟨tg, iter, ifs, 0⟩] scope pos) spos) (tSetC i (tComp wi g tt te caps)) := by
  obtain ⟨cl, cap⟩ := cap
  exact ps_comp hND hiy hy N' caps hc hi (hg cl) (ht cl) (he cl) cap hcell hkind hnames hN hcap hs hsw hfn
end
end L2
namespace Fr
theorem num_den_le {r : Rat} {t b : Int} (h : b ≠ 0) (e : r = Rat.divInt t b) : r.num.natAbs ≤ t.natAbs ∧ r.den ≤ b.natAbs := by
  subst e
  have h1 := lt_abs t b h
  have h2 := lb_abs (t := t) h
  rw [lt_num h] at h1
  rw [lb_den h, Int.natAbs_natCast] at h2
  exact ⟨h1, h2⟩
structure Bd (k : Nat) (q : Rat) : Prop where
  n : q.num.natAbs < 2 ^ k
  d : q.den < 2 ^ k
theorem pow_le {m n : Nat} (h : m ≤ n) : 2 ^ m ≤ 2 ^ n := Nat.pow_le_pow_right (by decide) h
theorem Bd.mono {m n : Nat} {q : Rat} (h : Bd m q) (le : m ≤ n) : Bd n q := ⟨Nat.lt_of_lt_of_le h.n (pow_le le), Nat.lt_of_lt_of_le h.d (pow_le le)⟩
theorem Bd.of {n : Nat} {t b : Int} (b0 : b ≠ 0) (ht : t.natAbs < 2 ^ n) (hb : b.natAbs < 2 ^ n) : Bd n (Rat.divInt t b) := by
  obtain ⟨h1, h2⟩ := num_den_le b0 (rfl : Rat.divInt t b = Rat.divInt t b)
  exact ⟨by omega, by omega⟩
theorem mul_lt {a b m n : Nat} (ha : a < 2 ^ m) (hb : b < 2 ^ n) : a * b < 2 ^ (m + n) := by
  rw [Nat.pow_add]
  exact Nat.mul_lt_mul'' ha hb
theorem abs_mul {x y : Int} {m n : Nat} (hx : x.natAbs < 2 ^ m) (hy : y.natAbs < 2 ^ n) : (x * y).natAbs < 2 ^ (m + n) := by
  rw [Int.natAbs_mul]; exact mul_lt hx hy
theorem abs_add {x y : Int} {n : Nat} (hx : x.natAbs < 2 ^ n) (hy : y.natAbs < 2 ^ n) : (x + y).natAbs < 2 ^ (n + 1) := by
  have := Int.natAbs_add_le x y
  rw [Nat.pow_succ]
  omega
theorem abs_sub {x y : Int} {n : Nat} (hx : x.natAbs < 2 ^ n) (hy : y.natAbs < 2 ^ n) : (x - y).natAbs < 2 ^ (n + 1) := by
  rw [Nat.pow_succ]
  omega
theorem Bd.dn {n : Nat} {q : Rat} (h : Bd n q) : ((q.den : Int)).natAbs < 2 ^ n := by rw [Int.natAbs_natCast]; exact h.d
theorem dd0 (p q : Rat) : (p.den : Int) * (q.den : Int) ≠ 0 := Int.mul_ne_zero (den_ne p) (den_ne q)
section
variable {m n : Nat} {p q : Rat} (hp : Bd m p) (hq : Bd n q)
include hp hq
theorem Bd.add : Bd (m + n + 1) (p + q) := by
  rw [← sum_rat]
  refine Bd.of (dd0 p q) (abs_add (abs_mul hp.n hq.dn) ?_) (Nat.lt_of_lt_of_le (abs_mul hp.dn hq.dn) (pow_le (by omega)))
  have := abs_mul hq.n hp.dn
  rw [Nat.add_comm m n]; exact this
theorem Bd.sub : Bd (m + n + 1) (p - q) := by
  rw [← less_rat]
  refine Bd.of (dd0 p q) (abs_sub (abs_mul hp.n hq.dn) ?_) (Nat.lt_of_lt_of_le (abs_mul hp.dn hq.dn) (pow_le (by omega)))
  have := abs_mul hq.n hp.dn
  rw [Nat.add_comm m n]; exact this
theorem Bd.mul : Bd (m + n) (p * q) := by
  rw [← prod_rat]
  exact Bd.of (dd0 p q) (abs_mul hp.n hq.n) (abs_mul hp.dn hq.dn)
end
end Fr
namespace Op
open Fr
abbrev Ray := Rat × Rat
end Op
namespace Lib
open PySem L2 Fr Op
def frD (q : Rat) : PyData := .tuple [.int q.num, .int (q.den : Int)]
def rayD (r : Ray) : PyData := .tuple [frD r.1, frD r.2]
section
variable {K : PySem.W.Frag} {H : Hp} {v : V}
theorem _root_.L2.DV.fr {q : Rat} (h : DV K H v (frD q)) : ∃ a, v = .ref a ∧ SqT K H a [.int q.num, .int (q.den : Int)] := by
  obtain ⟨a, x, y, rfl, ha, hx, hy⟩ := DV.t2 h
  rw [hx.int_of, hy.int_of] at ha
  exact ⟨a, rfl, ha⟩
theorem dv_fr {q : Rat} {a : Addr} (h : SqT K H a [.int q.num, .int (q.den : Int)]) : DV K H (.ref a) (frD q) := .tup h (.cons (.int _) (.cons (.int _) .nil))
theorem dv_low {t b : Int} {p : Addr} (b0 : b ≠ 0) : DV K (upd H p (.tup [.int (Fr.lt t b), .int (Fr.lb t b)])) (.ref p) (frD (Rat.divInt t b)) := by
  rw [frO_of b0]
  exact dv_fr (SqT.of upd_same)
end
theorem _root_.Fr.Bd.sm {n : Nat} {q : Rat} (h : Bd n q) (hn : n ≤ 4000) : Sm q := ⟨Nat.lt_of_lt_of_le h.n (by unfold lim2; exact pow_le hn), Nat.lt_of_lt_of_le h.d (by unfold lim2; exact pow_le hn)⟩
structure Flat (n : Nat) (d : PyData) : Prop where
  c : d.canLay0 = true
  d : d.depth ≤ n
theorem Flat.sh {n : Nat} {d : PyData} (h : Flat n d) (hn : n ≤ 64) : SeqAt.shaped d = true := by
  unfold SeqAt.shaped
  rw [h.c, Bool.true_and]
  exact decide_eq_true (Nat.le_trans h.d hn)
theorem flat_all {n : Nat} : ∀ {ds : List PyData}, (∀ d ∈ ds, Flat n d) → PyData.canLayAll0 ds = true ∧ PyData.depthAll ds ≤ n
  | [], _ => ⟨rfl, Nat.zero_le _⟩
  | d :: ds, h => by
    obtain ⟨h1, h2⟩ := flat_all (fun x hx => h x (List.mem_cons_of_mem _ hx))
    have h3 := h d List.mem_cons_self
    refine ⟨?_, ?_⟩
    · rw [PyData.canLayAll0, h3.c, h1]; rfl
    · rw [PyData.depthAll]; exact Nat.max_le.mpr ⟨h3.d, h2⟩
theorem flat_tup {n : Nat} {ds : List PyData} (h : ∀ d ∈ ds, Flat n d) : Flat (n + 1) (.tuple ds) := ⟨(flat_all h).1, by rw [PyData.depth]; exact Nat.succ_le_succ (flat_all h).2⟩
theorem flat_fr (q : Rat) : Flat 1 (frD q) := ⟨rfl, by show 1 ≤ 1; exact Nat.le_refl _⟩
theorem flat_ray (r : Ray) : Flat 2 (rayD r) := flat_tup fun d hd => by
  simp only [List.mem_cons, List.not_mem_nil, or_false] at hd
  rcases hd with rfl | rfl
  · exact flat_fr _
  · exact flat_fr _
section
variable {K : PySem.W.Frag} {H : Hp} {x y : V} {d : PyData} {Q : VK}
theorem ne_same {n : Nat} (hx : DV K H x d) (hy : DV K H y d) (f : Flat n d) (k : Q (.bl false) H) (hn : n ≤ 64 := by decide) : rNeD K x y H Q :=
  ⟨d, d, hx, hy, f.sh hn, f.sh hn, by rw [SeqAt.eqv_refl d f.c]; exact k⟩
theorem ne_frD {p q : Rat} (hx : DV K H x (frD p)) (hy : DV K H y (frD q)) (k : Q (.bl (!decide (p = q))) H) : rNeD K x y H Q :=
  ⟨_, _, hx, hy, (flat_fr p).sh (by decide), (flat_fr q).sh (by decide), by unfold frD; rw [eqv_fr]; exact k⟩
end
def PR (K : PySem.W.Frag) (R : List PyData → PyData → Prop) : Sp := fun vs H Q _ => ∃ ds d, DVs K H vs ds ∧ R ds d ∧ ∀ v H', Same H H' → DV K H' v d → Q v H'
def RBin (g : Rat → Rat → Rat) : List PyData → PyData → Prop := fun ds d => ∃ p q, ds = [frD p, frD q] ∧ Sm p ∧ Sm q ∧ d = frD (g p q)
def RLess : List PyData → PyData → Prop := fun ds d => ∃ p q, ds = [frD p, frD q] ∧ Sm p ∧ Sm q ∧ d = .bool (decide (p < q))
theorem DV.upd2 {K : PySem.W.Frag} {H : Hp} {r : Addr} {x y : V} {d1 d2 : PyData} (hr : H r = none) (hx : DV K H x d1) (hy : DV K H y d2) : DV K (upd H r (.tup [x, y])) (.ref r) (.tuple [d1, d2]) :=
  .tup (SqT.of upd_same) (.cons (hx.keep (same_new hr _)) (.cons (hy.keep (same_new hr _)) .nil))
def ratD : PyData → Bool
  | .tuple [.int t, .int b] => decide (1 ≤ b) && decide (Fr.gcd t b = 1)
  | _ => false
def isIntD : PyData → Bool
  | .int _ => true
  | _ => false
theorem isInt_b (d : PyData) : ∃ b c, bsub (tyD d) "int" = some b ∧ bsub (tyD d) "bool" = some c ∧ (b && !c) = isIntD d := by
  cases d with
  | none => exact ⟨false, false, by show bsub "NoneType" "int" = _; decide +kernel, by show bsub "NoneType" "bool" = _; decide +kernel, rfl⟩
  | bool b => exact ⟨true, true, by show bsub "bool" "int" = _; decide +kernel, by show bsub "bool" "bool" = _; decide +kernel, rfl⟩
  | int i => exact ⟨true, false, by show bsub "int" "int" = _; decide +kernel, by show bsub "int" "bool" = _; decide +kernel, rfl⟩
  | str x => exact ⟨false, false, by show bsub "str" "int" = _; decide +kernel, by show bsub "str" "bool" = _; decide +kernel, rfl⟩
  | list xs => exact ⟨false, false, by show bsub "list" "int" = _; decide +kernel, by show bsub "list" "bool" = _; decide +kernel, rfl⟩
  | tuple xs => exact ⟨false, false, by show bsub "tuple" "int" = _; decide +kernel, by show bsub "tuple" "bool" = _; decide +kernel, rfl⟩
  | dict xs => exact ⟨false, false, by show bsub "dict" "int" = _; decide +kernel, by show bsub "dict" "bool" = _; decide +kernel, rfl⟩
def spW (K : PySem.W.Frag) : Sp := fun vs H Q _ => ∃ v d, vs = [v] ∧ DV K H v d ∧ Q (.bl (isIntD d)) H
def RQuo : List PyData → PyData → Prop := fun ds d => ∃ p q, ds = [frD p, frD q] ∧ Sm p ∧ Sm q ∧ q ≠ 0 ∧ d = frD (p / q)
end Lib
namespace Lib
open PySem L2 Fr Op
theorem iteT' {b : Bool} {A B : Prop} (hb : b = true) (h : A) : if b = true then A else B := by rw [if_pos hb]; exact h
theorem iteF' {b : Bool} {A B : Prop} (hb : b = false) (h : B) : if b = true then A else B := by rw [if_neg (by rw [hb]; exact Bool.false_ne_true)]; exact h
end Lib
namespace Lib
open PySem L2 Fr Op
theorem cutV_le (xs : List V) (lo hi : Nat) : (cutV xs (some (lo : Int)) (some (hi : Int))).length ≤ hi - lo := by
  unfold cutV
  rw [HT.sIx_nat, HT.sIx_nat, List.length_take]
  omega
theorem cutV_le0 (xs : List V) (hi : Nat) : (cutV xs none (some (hi : Int))).length ≤ hi := by
  unfold cutV
  rw [HT.sIx_nat, HT.sIx_none, List.length_take]
  omega
theorem frD_int (i : Int) : frD (i : Rat) = .tuple [.int i, .int 1] := by
  unfold frD
  rw [Rat.num_intCast, Rat.den_intCast]
  rfl
theorem last_get {vs : List V} {v : V} (h : vs.getLast? = some v) : atI vs (-1) = some v := by
  obtain ⟨ys, rfl⟩ := List.getLast?_eq_some_iff.mp h
  exact atI_last ys v
end Lib
namespace Lib
open PySem L2 Fr Op
end Lib
namespace Lib
open PySem L2 Fr Op
theorem atI0 {x : V} {xs : List V} : atI (x :: xs) 0 = some x := atI_nat (j := 0) rfl
theorem atI1 {x y : V} {xs : List V} : atI (x :: y :: xs) 1 = some y := atI_nat (j := 1) rfl
end Lib
namespace Op
open Fr
end Op
namespace Lib
open PySem L2 Fr Op
end Lib
namespace Op
open Fr
end Op
namespace Lib
open PySem L2 Fr Op
end Lib
namespace Lib
open PySem L2 Fr Op
end Lib
namespace Op
open Fr
end Op
namespace Lib
open PySem L2 Fr Op
end Lib
namespace Lib
open PySem L2 Fr Op
end Lib
namespace Lib
open PySem L2 Fr Op
end Lib
namespace Lib
open PySem L2 Fr Op
end Lib
namespace Lib
open PySem L2 Fr Op
def spMixG : Sp := fun vs H Q _ => ∃ c b m : Int, vs = [.int c, .int b, .int m] ∧ 0 ≤ b ∧ b < 2 ^ 32 ∧ 0 < m ∧ ∀ x : Int, 0 ≤ x → x < m → Q (.int x) H
end Lib
namespace Lib
open PySem L2 Fr Op
theorem by1 {α : Type} {p : List α → Prop} (h : ∀ a, p [a]) : ∀ us : List α, us.length = 1 → p us
  | [_], _ => h _
theorem by2 {α : Type} {p : List α → Prop} (h : ∀ a b, p [a, b]) : ∀ us : List α, us.length = 2 → p us
  | [_, _], _ => h _ _
theorem by3 {α : Type} {p : List α → Prop} (h : ∀ a b c, p [a, b, c]) : ∀ us : List α, us.length = 3 → p us
  | [_, _, _], _ => h _ _ _
theorem by4 {α : Type} {p : List α → Prop} (h : ∀ a b c d, p [a, b, c, d]) : ∀ us : List α, us.length = 4 → p us
  | [_, _, _, _], _ => h _ _ _ _
end Lib
namespace Lib
open PySem L2 Fr Op
end Lib
namespace Lib
open PySem L2 Fr Op
end Lib
namespace Lib
open PySem L2 Fr Op
end Lib
namespace Lib
open PySem L2 Fr Op
end Lib
namespace Lib
open PySem L2 Fr Op
end Lib
namespace Lib
open PySem L2 Fr Op
end Lib
namespace Lib
open PySem L2 Fr Op
end Lib
namespace Lib
open PySem L2 Fr Op
end Lib
namespace Lib
open PySem L2 Fr Op
end Lib
namespace Lib
open PySem L2 Fr Op
end Lib
namespace Lib
open PySem L2 Fr Op
end Lib
namespace Lib
open PySem L2 Fr Op
end Lib
namespace Op
open Fr
end Op
namespace Lib
open PySem L2 Fr Op
end Lib
namespace Lib
open PySem L2 Fr Op
end Lib
namespace L2
open PySem PySem.Spec PyProof.Rows
end L2
namespace L2
open PySem PySem.Spec PyProof.Rows
end L2
namespace Lib
open PySem L2 Fr Op
end Lib
namespace Lib
open PySem L2 Fr Op
end Lib
namespace Lib
open PySem L2 Fr Op
end Lib
namespace Lib
open PySem L2 Fr Op
end Lib
namespace Lib
open PySem L2 Fr Op
end Lib
namespace Lib
open PySem L2 Fr Op
end Lib
namespace L2
open PySem PySem.Spec PyProof.Rows PySem.Builtin
end L2
namespace Lib
open PySem L2 Fr Op
end Lib
namespace Lib
open PySem L2 Fr Op
end Lib
namespace Lib
open PySem L2 Fr Op
end Lib
namespace Lib
open PySem L2 Fr Op
end Lib
namespace Lib
open PySem L2 Fr Op
end Lib
namespace L2
open PySem PySem.Spec PyProof.Rows PySem.Builtin
end L2
namespace L2
open PySem PySem.Spec PyProof.Rows PySem.Builtin
end L2
namespace L2
open PySem PySem.Spec PyProof.Rows PySem.Builtin
end L2
namespace L2
open PySem PySem.Spec PyProof.Rows PySem.Builtin
end L2
namespace L2
open PySem PySem.Spec PyProof.Rows PySem.Builtin
end L2
namespace L2
open PySem PySem.Spec PyProof.Rows
end L2
namespace Lib
open PySem L2 Fr Op
end Lib
namespace Op
open Fr
end Op
namespace Lib
open PySem L2 Fr Op
end Lib
namespace Op
open Fr
end Op
namespace Lib
open PySem L2 Fr Op
end Lib
namespace Lib
open PySem L2 Fr Op
theorem eqv_ray (r s : Ray) : PyData.eqv (rayD r) (rayD s) = decide (r = s) := by
  have e : PyData.eqv (rayD r) (rayD s) = (decide (r.1 = s.1) && decide (r.2 = s.2)) := by
    rw [← eqv_fr, ← eqv_fr]
    simp [rayD, frD, PyData.eqv, PyData.eqvAll]
  rw [e]
  by_cases h : r = s
  · subst h; simp
  · rw [decide_eq_false h]
    by_cases a : r.1 = s.1
    · by_cases b : r.2 = s.2
      · exact absurd (Prod.ext a b) h
      · simp [b]
    · simp [a]
end Lib
namespace L2
open PySem PySem.Spec PyProof.Rows PySem.Builtin
end L2
namespace Op
open Fr
end Op
namespace Lib
open PySem L2 Fr Op
theorem get_map_ray {ws : List Ray} {i : Nat} {d : PyData} (h : (ws.map rayD)[i]? = some d) : ∃ r, ws[i]? = some r ∧ d = rayD r := by
  rw [List.getElem?_map] at h
  cases e : ws[i]? with
  | none => rw [e] at h; cases h
  | some r => rw [e] at h; exact ⟨r, rfl, (Option.some.inj h).symm⟩
end Lib
namespace Op
open Fr Lib
end Op
namespace Lib
open PySem L2 Fr Op
end Lib
namespace Lib
open PySem L2 Fr Op
end Lib
namespace L2
open PySem PySem.Spec PyProof.Rows PySem.Builtin
end L2
namespace Lib
open PySem L2 Fr Op
end Lib
namespace L2
open PySem PySem.Spec PyProof.Rows
end L2
namespace Lib
open PySem L2 Fr Op
end Lib
namespace L2
open PySem PySem.Spec PyProof.Rows
end L2
namespace Lib
open PySem L2 Fr Op
end Lib
namespace L2
open PySem PySem.Spec PyProof.Rows
end L2
namespace L2
open PySem PySem.Spec PyProof.Rows PySem.Builtin
open PySem.AutoSeq1 (wpAny_loadPart')
end L2
namespace L2
open PySem PySem.Spec PySem.Calls PyProof.Rows PySem.W Builtin Builtin.ObjectAttr
end L2
namespace L2
open PySem PySem.Spec PySem.Calls PyProof.Rows PySem.W Builtin Builtin.ObjectAttr
end L2
namespace L2
open PySem PySem.Spec PySem.Calls PyProof.Rows PySem.W Builtin Builtin.ObjectAttr
end L2
namespace L2
open PySem PySem.Spec PySem.Calls PyProof.Rows PySem.W
end L2
namespace Lib
open PySem L2 Fr Op
end Lib
namespace Lib
open PySem L2 Fr Op
end Lib
namespace L2
open PySem PySem.Spec PyProof.Rows
end L2
namespace L2
open PySem PySem.Spec PyProof.Rows PySem.Builtin PySem.Builtin.Str
end L2
namespace Lib
open PySem L2 Fr Op
end Lib
namespace L2
open PySem PySem.Spec PyProof.Rows PySem.Builtin PySem.SeqAt
def rInD (K : PySem.W.Frag) (neg : Bool) : R2 := fun x y H Q => ∃ p xs dx ds, y = .ref p ∧ SqL K H p xs ∧ DV K H x dx ∧ DVs K H xs ds ∧ dx.canLay0 = true ∧ dx.depth ≤ 60 ∧ PyData.canLayAll0 ds = true ∧ Q (.bl (if neg then !ds.any (fun d => PyData.eqv d dx) else ds.any (fun d => PyData.eqv d dx))) H
theorem readsAll_get {h : Heap} : ∀ {us : List Value} {ds : List PyData} {as : List Addr}, ReadsAll h us ds as → ∀ u ∈ us, ∃ d as, d ∈ ds ∧ Reads h u d as
  | _, _, _, .nil, u, hu => nomatch hu
  | _, _, _, .cons r rs, u, hu => by
    rcases List.mem_cons.mp hu with rfl | hu
    · exact ⟨_, _, List.mem_cons_self, r⟩
    · obtain ⟨d, as, hd, hr⟩ := readsAll_get rs u hu
      exact ⟨d, as, List.mem_cons_of_mem _ hd, hr⟩
theorem canLay_mem : ∀ {ds : List PyData}, PyData.canLayAll0 ds = true → ∀ d ∈ ds, d.canLay0 = true
  | [], _, d, h => nomatch h
  | e :: ds, c, d, h => by
    rw [PyData.canLayAll0] at c
    rcases List.mem_cons.mp h with rfl | h
    · exact (Bool.and_eq_true_iff.mp c).1
    · exact canLay_mem (Bool.and_eq_true_iff.mp c).2 d h
open Classical in
noncomputable def eqAs (h : Heap) (dx : PyData) (u : Value) : Bool := if c : ∃ d as, Reads h u d as ∧ d.canLay0 = true then PyData.eqv (Classical.choose c) dx else false
theorem eqAs_of {h : Heap} {dx d : PyData} {u : Value} {as : List Addr} (r : Reads h u d as) (c : d.canLay0 = true) : eqAs h dx u = PyData.eqv d dx := by
  unfold eqAs
  have e : ∃ d as, Reads h u d as ∧ d.canLay0 = true := ⟨d, as, r, c⟩
  rw [dif_pos e]
  obtain ⟨as', r', _⟩ := Classical.choose_spec e
  rw [← PySem.SeqAt.Reads.unique d _ u as as' c r r']
theorem any_eqAs {h : Heap} {dx : PyData} : ∀ {us : List Value} {ds : List PyData} {as : List Addr}, ReadsAll h us ds as → PyData.canLayAll0 ds = true → us.any (eqAs h dx) = ds.any (fun d => PyData.eqv d dx)
  | _, _, _, .nil, _ => rfl
  | _, _, _, .cons r rs, c => by
    rw [PyData.canLayAll0] at c
    rw [List.any_cons, List.any_cons, any_eqAs rs (Bool.and_eq_true_iff.mp c).2, eqAs_of r (Bool.and_eq_true_iff.mp c).1]
section
variable {X : Cx}
theorem op_inD (hu : X.A.units + 64 < cLine) : OpR X (compareOp .In) (rInD X.K false) := by
  intro pins s σ H x y v u Q I rx ry h
  obtain ⟨p, xs, dx, ds, rfl, hq, hx, hd, cx, dp, cs, q⟩ := h
  cases ry
  obtain ⟨its, r, pl, hz⟩ := I.list hq
  obtain ⟨a1, r1⟩ := hx.reads I cx rx
  obtain ⟨a2, r2⟩ := DVs.reads I hd cs r
  refine SeqAt.in_listAt (eqAs s.heap dx) pl.isList (fun w hw => ?_) ⟨.bl _, H, I, rfl, ?_⟩
  · obtain ⟨d, as, hd', hr⟩ := readsAll_get r2 w (by simpa using hw)
    rw [eqAs_of hr (canLay_mem cs d hd')]
    refine eqAt_reads d dx X.A.in1 s w v as a1 hr r1 (canLay_mem cs d hd') cx ?_
    have : X.A.in1.units = X.A.units + 1 := rfl
    have := Nat.min_le_right d.depth dx.depth
    omega
  · rw [show its.toArray.any (eqAs s.heap dx) = its.any (eqAs s.heap dx) by simp, any_eqAs r2 cs]
    exact q
end
end L2
namespace Op
open Fr
def befR (a b : Ray) : Bool := if a.1 = b.1 then decide (a.2 < b.2) else decide (a.1 < b.1)
def turnR (s e r : Ray) : Rat := (e.1 - s.1) * (r.2 - s.2) - (e.2 - s.2) * (r.1 - s.1)
def atR (cs : List Ray) (i : Nat) : Ray := cs.getD i (0, 0)
def prevR (cs : List Ray) (i : Nat) : Ray := if i = 0 then atR cs (cs.length - 1) else atR cs (i - 1)
def leftTo (cs : List Ray) (r : Ray) : Nat → Bool
  | 0 => true
  | i + 1 => leftTo cs r i && !decide (turnR (prevR cs i) (atR cs i) r < 0)
def withinR (cs : List Ray) (r : Ray) : Bool :=
  if cs.length < 2 then cs.any (fun c => decide (c = r)) else leftTo cs r cs.length && (if 2 < cs.length then true else !befR r (atR cs 0) && !befR (atR cs 1) r)
def crossR (a b : Ray) : Rat := a.1 * b.2 - a.2 * b.1
def twiceR (cs : List Ray) : Nat → Rat
  | 0 => 0
  | i + 1 => twiceR cs i + crossR (prevR cs i) (atR cs i)
def sizeR (cs : List Ray) : Rat := twiceR cs cs.length / 2
def hv (n : Int) : Rat := Rat.divInt n 2
def ryH (y u : Int) : Ray := (hv y, hv u)
theorem hv_eq (n : Int) : hv n = (n : Rat) / 2 := by
  unfold hv
  rw [Rat.divInt_eq_div]
  rfl
theorem hv_lt (a b : Int) : hv a < hv b ↔ a < b := by
  rw [hv_eq, hv_eq]
  have h : (a : Rat) < (b : Rat) ↔ a < b := Rat.intCast_lt_intCast
  rw [← h]
  constructor <;> intro h <;> grind
theorem hv_inj (a b : Int) : hv a = hv b ↔ a = b := by
  constructor
  · intro h
    have h1 : ¬ a < b := fun c => by rw [← hv_lt, h] at c; exact absurd c (by grind)
    have h2 : ¬ b < a := fun c => by rw [← hv_lt, h] at c; exact absurd c (by grind)
    omega
  · intro h; rw [h]
theorem bef_H (a b c d : Int) : befR (ryH a b) (ryH c d) = if a = c then decide (b < d) else decide (a < c) := by
  show (if hv a = hv c then decide (hv b < hv d) else decide (hv a < hv c)) = _
  by_cases h : a = c
  · rw [if_pos ((hv_inj a c).mpr h), if_pos h, decide_eq_decide.mpr (hv_lt b d)]
  · rw [if_neg (fun e => h ((hv_inj a c).mp e)), if_neg h, decide_eq_decide.mpr (hv_lt a c)]
theorem turn_H (a b c d e f : Int) : turnR (ryH a b) (ryH c d) (ryH e f) < 0 ↔ (c - a) * (f - b) - (d - b) * (e - a) < 0 := by
  show (hv c - hv a) * (hv f - hv b) - (hv d - hv b) * (hv e - hv a) < 0 ↔ _
  have h : (hv c - hv a) * (hv f - hv b) - (hv d - hv b) * (hv e - hv a) = (((c - a) * (f - b) - (d - b) * (e - a) : Int) : Rat) / 4 := by
    simp only [hv_eq, Rat.intCast_sub, Rat.intCast_mul]
    grind
  rw [h]
  have h : ((((c - a) * (f - b) - (d - b) * (e - a) : Int) : Rat) < ((0 : Int) : Rat)) ↔ (c - a) * (f - b) - (d - b) * (e - a) < 0 := Rat.intCast_lt_intCast
  rw [← h]
  generalize (((c - a) * (f - b) - (d - b) * (e - a) : Int) : Rat) = z
  constructor <;> intro h <;> grind
theorem ryH_inj (a b c d : Int) : ryH a b = ryH c d ↔ a = c ∧ b = d := by
  unfold ryH
  rw [Prod.mk.injEq, hv_inj, hv_inj]
def cornH (k : Int) (y u w s l : Int) : List Ray :=
  if k = 0 then [] else if k = 1 then [ryH y u] else if k = 2 then [ryH y u, ryH (y + w) (u + l * w)] else if k = 3 then [ryH y u, ryH (y + w) (u + l * w), ryH y (u + s)] else [ryH y u, ryH (y + w) (u + l * w), ryH (y + w) (u + l * w + s), ryH y (u + s)]
def dueH (k w s r p : Int) : Bool :=
  if k = 0 then false else if k = 1 then decide (r = 0) && decide (p = 0) else if k = 2 then decide (0 ≤ r) && decide (r ≤ w) && decide (p = 0)
  else if !(decide (0 ≤ r) && decide (r ≤ w)) || decide (p < 0) then false else if k = 3 then decide (p * w + r * s ≤ w * s) else decide (p ≤ s)
theorem pos_mul_neg {a b : Int} (h : 0 < a) : a * b < 0 ↔ b < 0 := by
  constructor
  · intro c
    by_cases hb : b < 0
    · exact hb
    · exact absurd (Int.mul_nonneg (Int.le_of_lt h) (by omega : 0 ≤ b)) (by omega)
  · intro c
    exact Int.mul_neg_of_pos_of_neg h c
theorem tn0 {a b c d e f z : Int} (h : (c - a) * (f - b) - (d - b) * (e - a) = z) : decide (turnR (ryH a b) (ryH c d) (ryH e f) < 0) = decide (z < 0) := by
  subst h
  exact decide_eq_decide.mpr (turn_H _ _ _ _ _ _)
theorem tnP {a b c d e f m z : Int} (hm : 0 < m) (h : (c - a) * (f - b) - (d - b) * (e - a) = m * z) : decide (turnR (ryH a b) (ryH c d) (ryH e f) < 0) = decide (z < 0) := by
  rw [tn0 h]
  exact decide_eq_decide.mpr (pos_mul_neg hm)
theorem within_H (k y u w s l r p : Int) (hk : 0 ≤ k ∧ k < 5) (hw : 0 < w) (hs : 0 < s) : withinR (cornH k y u w s l) (ryH (y + r) (u + l * r + p)) = dueH k w s r p := by
  have hk' : k = 0 ∨ k = 1 ∨ k = 2 ∨ k = 3 ∨ k = 4 := by omega
  rcases hk' with rfl | rfl | rfl | rfl | rfl
  · rfl
  · show (([ryH y u].any fun c => decide (c = ryH (y + r) (u + l * r + p)))) = (decide (r = 0) && decide (p = 0))
    rw [List.any_cons, List.any_nil, Bool.or_false]
    have : (ryH y u = ryH (y + r) (u + l * r + p)) ↔ (r = 0 ∧ p = 0) := by
      rw [ryH_inj]
      constructor
      · rintro ⟨h1, h2⟩
        have : r = 0 := by omega
        subst this
        exact ⟨rfl, by rw [Int.mul_zero] at h2; omega⟩
      · rintro ⟨rfl, rfl⟩
        exact ⟨by omega, by rw [Int.mul_zero]; omega⟩
    have e : decide (ryH y u = ryH (y + r) (u + l * r + p)) = decide (r = 0 ∧ p = 0) := decide_eq_decide.mpr this
    rw [e]
    by_cases h1 : r = 0 <;> by_cases h2 : p = 0 <;> simp [h1, h2]
  · show (((true && !decide (turnR (ryH (y + w) (u + l * w)) (ryH y u) (ryH (y + r) (u + l * r + p)) < 0)) && !decide (turnR (ryH y u) (ryH (y + w) (u + l * w)) (ryH (y + r) (u + l * r + p)) < 0)) && (!befR (ryH (y + r) (u + l * r + p)) (ryH y u) && !befR (ryH (y + w) (u + l * w)) (ryH (y + r) (u + l * r + p)))) = (decide (0 ≤ r) && decide (r ≤ w) && decide (p = 0))
    have t1 : decide (turnR (ryH (y + w) (u + l * w)) (ryH y u) (ryH (y + r) (u + l * r + p)) < 0) = decide (-p < 0) := tnP hw (by grind)
    have t2 : decide (turnR (ryH y u) (ryH (y + w) (u + l * w)) (ryH (y + r) (u + l * r + p)) < 0) = decide (p < 0) := tnP hw (by grind)
    rw [t1, t2, bef_H, bef_H]
    by_cases h1 : p = 0
    · subst h1
      have a1 : (if y + r = y then decide (u + l * r + 0 < u) else decide (y + r < y)) = decide (r < 0) := by
        by_cases h : r = 0
        · subst h; rw [if_pos (by omega), Int.mul_zero]; exact decide_eq_decide.mpr (by omega)
        · rw [if_neg (by omega)]; exact decide_eq_decide.mpr (by omega)
      have a2 : (if y + w = y + r then decide (u + l * w < u + l * r + 0) else decide (y + w < y + r)) = decide (w < r) := by
        by_cases h : w = r
        · subst h; rw [if_pos rfl]; exact decide_eq_decide.mpr (by omega)
        · rw [if_neg (by omega)]; exact decide_eq_decide.mpr (by omega)
      rw [a1, a2, Bool.eq_iff_iff]
      simp
    · have hl : (true && !decide (-p < 0) && !decide (p < 0)) = false := by
        by_cases h : p < 0
        · rw [decide_eq_true h]; simp
        · rw [decide_eq_true (show -p < 0 by omega)]; simp
      rw [hl, decide_eq_false h1]
      simp
  · show ((((true && !decide (turnR (ryH y (u + s)) (ryH y u) (ryH (y + r) (u + l * r + p)) < 0)) && !decide (turnR (ryH y u) (ryH (y + w) (u + l * w)) (ryH (y + r) (u + l * r + p)) < 0)) && !decide (turnR (ryH (y + w) (u + l * w)) (ryH y (u + s)) (ryH (y + r) (u + l * r + p)) < 0)) && true) = (if !(decide (0 ≤ r) && decide (r ≤ w)) || decide (p < 0) then false else decide (p * w + r * s ≤ w * s))
    have t1 : decide (turnR (ryH y (u + s)) (ryH y u) (ryH (y + r) (u + l * r + p)) < 0) = decide (r < 0) := tnP hs (by grind)
    have t2 : decide (turnR (ryH y u) (ryH (y + w) (u + l * w)) (ryH (y + r) (u + l * r + p)) < 0) = decide (p < 0) := tnP hw (by grind)
    have t3 : decide (turnR (ryH (y + w) (u + l * w)) (ryH y (u + s)) (ryH (y + r) (u + l * r + p)) < 0) = decide (w * s - p * w - r * s < 0) := tn0 (by grind)
    rw [t1, t2, t3]
    by_cases h1 : r < 0
    · simp [h1]
      try omega
    · by_cases h2 : p < 0
      · simp [h2]
      · by_cases h3 : r ≤ w
        · rw [Bool.eq_iff_iff]
          simp [h1, h2, h3]
          try omega
        · have e1 := Int.mul_nonneg (Int.le_of_lt hw) (by omega : 0 ≤ p)
          have e2 : w * s < r * s := Int.mul_lt_mul_of_pos_right (by omega) hs
          have e3 : w * p = p * w := Int.mul_comm _ _
          have : w * s - p * w - r * s < 0 := by omega
          simp [h3, this]
  · show (((((true && !decide (turnR (ryH y (u + s)) (ryH y u) (ryH (y + r) (u + l * r + p)) < 0)) && !decide (turnR (ryH y u) (ryH (y + w) (u + l * w)) (ryH (y + r) (u + l * r + p)) < 0)) && !decide (turnR (ryH (y + w) (u + l * w)) (ryH (y + w) (u + l * w + s)) (ryH (y + r) (u + l * r + p)) < 0)) && !decide (turnR (ryH (y + w) (u + l * w + s)) (ryH y (u + s)) (ryH (y + r) (u + l * r + p)) < 0)) && true) = (if !(decide (0 ≤ r) && decide (r ≤ w)) || decide (p < 0) then false else decide (p ≤ s))
    have t1 : decide (turnR (ryH y (u + s)) (ryH y u) (ryH (y + r) (u + l * r + p)) < 0) = decide (r < 0) := tnP hs (by grind)
    have t2 : decide (turnR (ryH y u) (ryH (y + w) (u + l * w)) (ryH (y + r) (u + l * r + p)) < 0) = decide (p < 0) := tnP hw (by grind)
    have t3 : decide (turnR (ryH (y + w) (u + l * w)) (ryH (y + w) (u + l * w + s)) (ryH (y + r) (u + l * r + p)) < 0) = decide (w - r < 0) := tnP hs (by grind)
    have t4 : decide (turnR (ryH (y + w) (u + l * w + s)) (ryH y (u + s)) (ryH (y + r) (u + l * r + p)) < 0) = decide (s - p < 0) := tnP hw (by grind)
    rw [t1, t2, t3, t4]
    by_cases h1 : r < 0
    · simp [h1]
      try omega
    · by_cases h2 : p < 0
      · simp [h2]
      · rw [Bool.eq_iff_iff]
        simp [h1, h2]
        try omega
def sizH (k w s : Int) : Rat := if k < 3 then 0 else if k = 3 then Rat.divInt (w * s) 8 else Rat.divInt (w * s) 4
theorem size_H (k y u w s l : Int) (hk : 0 ≤ k ∧ k < 5) : sizeR (cornH k y u w s l) = sizH k w s := by
  have hk' : k = 0 ∨ k = 1 ∨ k = 2 ∨ k = 3 ∨ k = 4 := by omega
  have e8 : ∀ n : Int, Rat.divInt n 8 = (n : Rat) / 8 := fun n => by rw [Rat.divInt_eq_div]; rfl
  have e4 : ∀ n : Int, Rat.divInt n 4 = (n : Rat) / 4 := fun n => by rw [Rat.divInt_eq_div]; rfl
  rcases hk' with rfl | rfl | rfl | rfl | rfl
  · show (0 : Rat) / 2 = 0
    grind
  · show (0 + (hv y * hv u - hv u * hv y)) / 2 = (0 : Rat)
    grind
  · show ((0 + (hv (y + w) * hv u - hv (u + l * w) * hv y)) + (hv y * hv (u + l * w) - hv u * hv (y + w))) / 2 = (0 : Rat)
    grind
  · show (((0 + (hv y * hv u - hv (u + s) * hv y)) + (hv y * hv (u + l * w) - hv u * hv (y + w))) + (hv (y + w) * hv (u + s) - hv (u + l * w) * hv y)) / 2 = Rat.divInt (w * s) 8
    rw [e8]
    simp only [hv_eq, Rat.intCast_add, Rat.intCast_mul]
    grind
  · show ((((0 + (hv y * hv u - hv (u + s) * hv y)) + (hv y * hv (u + l * w) - hv u * hv (y + w))) + (hv (y + w) * hv (u + l * w + s) - hv (u + l * w) * hv (y + w))) + (hv (y + w) * hv (u + s) - hv (u + l * w + s) * hv y)) / 2 = Rat.divInt (w * s) 4
    rw [e4]
    simp only [hv_eq, Rat.intCast_add, Rat.intCast_mul]
    grind
def ryI (y u : Int) : Ray := ((y : Rat), (u : Rat))
theorem turn_I (a b c d e f : Int) : turnR (ryI a b) (ryI c d) (ryI e f) < 0 ↔ (c - a) * (f - b) - (d - b) * (e - a) < 0 := by
  show ((c : Rat) - a) * (f - b) - (d - b) * (e - a) < 0 ↔ _
  have h : ((c : Rat) - a) * (f - b) - (d - b) * (e - a) = (((c - a) * (f - b) - (d - b) * (e - a) : Int) : Rat) := by
    simp only [Rat.intCast_sub, Rat.intCast_mul]
  rw [h]
  exact Rat.intCast_lt_intCast (b := 0)
def arcR (y u : Int) (n : Nat) : List Ray := (List.range (n + 1)).map fun (k : Nat) => ryI (y + (k : Int)) (u + (k : Int) * (k : Int))
theorem arc_len (y u : Int) (n : Nat) : (arcR y u n).length = n + 1 := by unfold arcR; rw [List.length_map, List.length_range]
theorem arc_at (y u : Int) {n i : Nat} (h : i ≤ n) : atR (arcR y u n) i = ryI (y + (i : Int)) (u + (i : Int) * (i : Int)) := by
  unfold atR arcR
  rw [List.getD_eq_getElem?_getD, List.getElem?_map, List.getElem?_range (by omega)]
  rfl
theorem arc_prev0 (y u : Int) (n : Nat) : prevR (arcR y u n) 0 = ryI (y + (n : Int)) (u + (n : Int) * (n : Int)) := by
  unfold prevR
  rw [if_pos rfl, arc_len]
  exact arc_at y u (Nat.le_refl n)
theorem arc_prev (y u : Int) {n i : Nat} (h : i ≤ n) : prevR (arcR y u n) (i + 1) = ryI (y + (i : Int)) (u + (i : Int) * (i : Int)) := by
  unfold prevR
  rw [if_neg (by omega)]
  exact arc_at y u h
theorem left_iff (cs : List Ray) (r : Ray) : ∀ m, leftTo cs r m = true ↔ ∀ i, i < m → ¬ turnR (prevR cs i) (atR cs i) r < 0
  | 0 => by simp [leftTo]
  | m + 1 => by
    rw [leftTo, Bool.and_eq_true, left_iff cs r m]
    constructor
    · rintro ⟨h1, h2⟩ i hi
      by_cases e : i = m
      · subst e; simpa using h2
      · exact h1 i (by omega)
    · intro h
      exact ⟨fun i hi => h i (by omega), by simpa using h m (by omega)⟩
theorem mul_le0 {x : Int} : 0 ≤ x * (x - 1) := by
  by_cases h : 1 ≤ x
  · exact Int.mul_nonneg (by omega) (by omega)
  · have := Int.mul_nonneg (show 0 ≤ -x by omega) (show 0 ≤ 1 - x by omega)
    have e : -x * (1 - x) = x * (x - 1) := by grind
    omega
theorem within_arc (y u r p : Int) (n : Nat) (n3 : 3 ≤ n) (r0 : -1 ≤ r) (r1 : r ≤ n + 1) : withinR (arcR y u n) (ryI (y + r) (u + p)) = (decide (0 ≤ r) && decide (r ≤ (n : Int)) && (decide (r * r ≤ p) && decide (p ≤ (n : Int) * r))) := by
  unfold withinR
  rw [arc_len, if_neg (by omega), if_pos (by omega), Bool.and_true, Bool.eq_iff_iff, left_iff]
  simp only [Bool.and_eq_true, decide_eq_true_eq]
  have T0 : turnR (prevR (arcR y u n) 0) (atR (arcR y u n) 0) (ryI (y + r) (u + p)) < 0 ↔ (n : Int) * r < p := by
    rw [arc_prev0, arc_at y u (Nat.zero_le n), turn_I]
    have e : (y + ((0 : Nat) : Int) - (y + (n : Int))) * (u + p - (u + (n : Int) * (n : Int))) - (u + ((0 : Nat) : Int) * ((0 : Nat) : Int) - (u + (n : Int) * (n : Int))) * (y + r - (y + (n : Int))) = (n : Int) * ((n : Int) * r - p) := by
      rw [show ((0 : Nat) : Int) = 0 from rfl]; grind
    rw [e, pos_mul_neg (by omega)]
    omega
  have T1 : ∀ k : Nat, k < n → (turnR (prevR (arcR y u n) (k + 1)) (atR (arcR y u n) (k + 1)) (ryI (y + r) (u + p)) < 0 ↔ p - r * r + (r - (k : Int)) * (r - (k : Int) - 1) < 0) := fun k hk => by
    rw [arc_prev y u (show k ≤ n by omega), arc_at y u (show k + 1 ≤ n by omega), turn_I]
    have e : (y + ((k + 1 : Nat) : Int) - (y + (k : Int))) * (u + p - (u + (k : Int) * (k : Int))) - (u + ((k + 1 : Nat) : Int) * ((k + 1 : Nat) : Int) - (u + (k : Int) * (k : Int))) * (y + r - (y + (k : Int))) = p - r * r + (r - (k : Int)) * (r - (k : Int) - 1) := by
      rw [show ((k + 1 : Nat) : Int) = (k : Int) + 1 from by omega]; grind
    rw [e]
  constructor
  · intro h
    have h0 := h 0 (by omega)
    rw [T0] at h0
    have hk : ∀ k : Nat, k < n → ¬ p - r * r + (r - (k : Int)) * (r - (k : Int) - 1) < 0 := fun k hk => by rw [← T1 k hk]; exact h (k + 1) (by omega)
    by_cases c1 : r = -1
    · subst c1
      have := hk 0 (by omega)
      rw [show ((0 : Nat) : Int) = 0 from rfl] at this
      omega
    · by_cases c2 : r = (n : Int) + 1
      · have h1 := hk (n - 1) (by omega)
        rw [show ((n - 1 : Nat) : Int) = (n : Int) - 1 by omega, show r - ((n : Int) - 1) = 2 by omega] at h1
        subst c2
        have e1 : ((n : Int) + 1) * ((n : Int) + 1) = (n : Int) * (n : Int) + 2 * n + 1 := by grind
        have e2 : (n : Int) * ((n : Int) + 1) = (n : Int) * (n : Int) + n := by grind
        omega
      · refine ⟨⟨by omega, by omega⟩, ?_, by omega⟩
        by_cases c3 : r = 0
        · subst c3
          have := hk 0 (by omega)
          rw [show ((0 : Nat) : Int) = 0 from rfl] at this
          omega
        · have := hk (r - 1).toNat (by omega)
          rw [show (((r - 1).toNat : Nat) : Int) = r - 1 by omega, show r - (r - 1) - 1 = 0 by omega, Int.mul_zero] at this
          omega
  · rintro ⟨⟨a, b⟩, c, d⟩ i hi
    cases i with
    | zero => rw [T0]; omega
    | succ k =>
      rw [T1 k (by omega)]
      have := mul_le0 (x := r - (k : Int))
      omega
theorem twice_arc (y u : Int) (n : Nat) : ∀ m, m ≤ n → twiceR (arcR y u n) (m + 1) = (n : Rat) * u - (n : Rat) * n * y + (y : Rat) * m * m - (u : Rat) * m + ((m : Rat) * m * m - m) / 3
  | 0, _ => by
    show 0 + crossR _ _ = _
    rw [arc_prev0, arc_at y u (Nat.zero_le n)]
    show (0 : Rat) + (((y + (n : Int) : Int) : Rat) * ((u + ((0 : Nat) : Int) * ((0 : Nat) : Int) : Int) : Rat) - ((u + (n : Int) * (n : Int) : Int) : Rat) * ((y + ((0 : Nat) : Int) : Int) : Rat)) = _
    simp only [Rat.intCast_add, Rat.intCast_mul, Rat.intCast_natCast]
    rw [show ((0 : Nat) : Rat) = 0 from rfl]
    grind
  | m + 1, h => by
    show twiceR (arcR y u n) (m + 1) + crossR _ _ = _
    rw [twice_arc y u n m (by omega), arc_prev y u (show m ≤ n by omega), arc_at y u h]
    show _ + (((y + (m : Int) : Int) : Rat) * ((u + ((m + 1 : Nat) : Int) * ((m + 1 : Nat) : Int) : Int) : Rat) - ((u + (m : Int) * (m : Int) : Int) : Rat) * ((y + ((m + 1 : Nat) : Int) : Int) : Rat)) = _
    simp only [Rat.intCast_add, Rat.intCast_mul, Rat.intCast_natCast]
    rw [show ((m + 1 : Nat) : Rat) = (m : Rat) + 1 from by rw [Rat.natCast_add]; rfl]
    grind
theorem size_arc (y u : Int) (n : Nat) : sizeR (arcR y u n) = Rat.divInt ((n : Int) ^ 3 - (n : Int)) 6 := by
  unfold sizeR
  rw [arc_len, twice_arc y u n n (Nat.le_refl n), Rat.divInt_eq_div, Rat.intCast_sub, show ((n : Int) ^ 3) = (n : Int) * n * n by rw [Int.pow_succ, Int.pow_succ, Int.pow_succ, Int.pow_zero, Int.one_mul]]
  simp only [Rat.intCast_mul, Rat.intCast_natCast]
  rw [show ((6 : Int) : Rat) = 6 from rfl]
  grind
end Op
namespace Lib
open PySem L2 Fr Op
structure Rn (n : Nat) (r : Ray) : Prop where
  y : Bd n r.1
  u : Bd n r.2
def RBef : List PyData → PyData → Prop := fun ds d => ∃ a b n, ds = [rayD a, rayD b] ∧ Rn n a ∧ Rn n b ∧ n ≤ 4000 ∧ d = .bool (befR a b)
def RTurn : List PyData → PyData → Prop := fun ds d => ∃ s e r n, ds = [rayD s, rayD e, rayD r] ∧ Rn n s ∧ Rn n e ∧ Rn n r ∧ n ≤ 480 ∧ d = frD (turnR s e r)
def RWithin : List PyData → PyData → Prop := fun ds d => ∃ cs r n, ds = [.list (cs.map rayD), rayD r] ∧ (∀ c ∈ cs, Rn n c) ∧ Rn n r ∧ n ≤ 480 ∧ cs.length ≤ 100 ∧ d = .bool (withinR cs r)
def RSize : List PyData → PyData → Prop := fun ds d => ∃ cs n, ds = [.list (cs.map rayD)] ∧ (∀ c ∈ cs, Rn n c) ∧ n ≤ 480 ∧ cs.length * (4 * n + 2) + 1 ≤ 3900 ∧ d = frD (sizeR cs)
theorem atR_of {cs : List Ray} {i : Nat} {c : Ray} (h : cs[i]? = some c) : atR cs i = c := by
  unfold atR
  rw [List.getD_eq_getElem?_getD, h]
  rfl
theorem atR_mem {cs : List Ray} {i : Nat} (h : i < cs.length) : atR cs i ∈ cs := by
  rw [atR_of (List.getElem?_eq_getElem h)]
  exact List.getElem_mem h
theorem prevR_mem {cs : List Ray} {i : Nat} (h : i < cs.length) : prevR cs i ∈ cs := by
  unfold prevR
  split
  · exact atR_mem (by omega)
  · exact atR_mem (by omega)
theorem dvs_ray {K : PySem.W.Frag} {H : Hp} {xs : List V} {cs : List Ray} (h : DVs K H xs (cs.map rayD)) {i : Nat} (hi : i < cs.length) : ∃ v, xs[i]? = some v ∧ DV K H v (rayD (atR cs i)) := by
  have hl := h.len
  rw [List.length_map] at hl
  obtain ⟨d, hd, hv⟩ := h.get (i := i) (List.getElem?_eq_getElem (show i < xs.length by omega))
  obtain ⟨c, hc, rfl⟩ := get_map_ray hd
  rw [← atR_of hc] at hv
  exact ⟨_, List.getElem?_eq_getElem (show i < xs.length by omega), hv⟩
theorem atI_m1 {xs : List V} {v : V} (h : xs[xs.length - 1]? = some v) : atI xs (-1) = some v := last_get (by rw [List.getLast?_eq_getElem?]; exact h)
theorem dvs_prev {K : PySem.W.Frag} {H : Hp} {xs : List V} {cs : List Ray} (h : DVs K H xs (cs.map rayD)) {i : Nat} (hi : i < cs.length) : ∃ v, atI xs ((i : Int) - 1) = some v ∧ DV K H v (rayD (prevR cs i)) := by
  have hl := h.len
  rw [List.length_map] at hl
  cases i with
  | zero =>
    obtain ⟨v, hv, hd⟩ := dvs_ray h (i := cs.length - 1) (by omega)
    refine ⟨v, ?_, hd⟩
    rw [show (((0 : Nat) : Int) - 1) = -1 from rfl]
    exact atI_m1 (by rw [hl]; exact hv)
  | succ j =>
    obtain ⟨v, hv, hd⟩ := dvs_ray h (i := j) (by omega)
    refine ⟨v, ?_, hd⟩
    rw [show (((j + 1 : Nat) : Int) - 1) = (j : Int) by omega]
    exact atI_nat hv
theorem any_ray (cs : List Ray) (r : Ray) : (cs.map rayD).any (fun d => PyData.eqv d (rayD r)) = cs.any (fun c => decide (c = r)) := by
  induction cs with
  | nil => rfl
  | cons c cs ih => rw [List.map_cons, List.any_cons, List.any_cons, ih, eqv_ray]
theorem lay_rays (cs : List Ray) : PyData.canLayAll0 (cs.map rayD) = true := by
  induction cs with
  | nil => rfl
  | cons c cs ih =>
    rw [List.map_cons, PyData.canLayAll0, ih]
    rfl
end Lib
namespace K45
open PySem L2 Lib Fr Op
seal PE PT PW PA PS PSs PG PGs PI PO
def top (i : Nat) : Stmt := PySem.Challenge.pw_grindbench_k45_within_and_size_by_hand.main.body.getD i (.Pass ⟨0, 0, 0, 0⟩)
abbrev s_is_whole : Stmt := top 4
theorem sc_is_whole : FnScope ["thing"] ["thing"] (defScope s_is_whole) := ⟨rfl, rfl, rfl, by decide +kernel, rfl, by decide +kernel, by decide +kernel⟩
abbrev s_common_divisor : Stmt := top 5
theorem sc_common_divisor : FnScope ["one", "other", "greater", "lesser", "rest"] ["one", "other"] (defScope s_common_divisor) := ⟨rfl, rfl, rfl, by decide +kernel, rfl, by decide +kernel, by decide +kernel⟩
abbrev s_ratio_of : Stmt := top 6
theorem sc_ratio_of : FnScope ["top", "bottom", "divisor"] ["top", "bottom"] (defScope s_ratio_of) := ⟨rfl, rfl, rfl, by decide +kernel, rfl, by decide +kernel, by decide +kernel⟩
abbrev s_sum_of : Stmt := top 7
theorem sc_sum_of : FnScope ["one", "other"] ["one", "other"] (defScope s_sum_of) := ⟨rfl, rfl, rfl, by decide +kernel, rfl, by decide +kernel, by decide +kernel⟩
abbrev s_less_by : Stmt := top 8
theorem sc_less_by : FnScope ["one", "other"] ["one", "other"] (defScope s_less_by) := ⟨rfl, rfl, rfl, by decide +kernel, rfl, by decide +kernel, by decide +kernel⟩
abbrev s_product_of : Stmt := top 9
theorem sc_product_of : FnScope ["one", "other"] ["one", "other"] (defScope s_product_of) := ⟨rfl, rfl, rfl, by decide +kernel, rfl, by decide +kernel, by decide +kernel⟩
abbrev s_quotient_of : Stmt := top 10
theorem sc_quotient_of : FnScope ["one", "other"] ["one", "other"] (defScope s_quotient_of) := ⟨rfl, rfl, rfl, by decide +kernel, rfl, by decide +kernel, by decide +kernel⟩
abbrev s_is_less : Stmt := top 11
theorem sc_is_less : FnScope ["one", "other"] ["one", "other"] (defScope s_is_less) := ⟨rfl, rfl, rfl, by decide +kernel, rfl, by decide +kernel, by decide +kernel⟩
abbrev s_is_before : Stmt := top 14
theorem sc_is_before : FnScope ["one", "other"] ["one", "other"] (defScope s_is_before) := ⟨rfl, rfl, rfl, by decide +kernel, rfl, by decide +kernel, by decide +kernel⟩
abbrev s_turn_of : Stmt := top 15
theorem sc_turn_of : FnScope ["start", "end", "ray", "up", "along"] ["start", "end", "ray"] (defScope s_turn_of) := ⟨rfl, rfl, rfl, by decide +kernel, rfl, by decide +kernel, by decide +kernel⟩
abbrev s_is_within : Stmt := top 16
theorem sc_is_within : FnScope ["corners", "ray", "number", "corner"] ["corners", "ray"] (defScope s_is_within) := ⟨rfl, rfl, rfl, by decide +kernel, rfl, by decide +kernel, by decide +kernel⟩
abbrev s_size_of : Stmt := top 17
theorem sc_size_of : FnScope ["corners", "twice", "number", "corner", "before"] ["corners"] (defScope s_size_of) := ⟨rfl, rfl, rfl, by decide +kernel, rfl, by decide +kernel, by decide +kernel⟩
abbrev s__law_mix : Stmt := top 19
theorem sc__law_mix : FnScope ["_law_cell", "_law_by", "_law_many"] ["_law_cell", "_law_by", "_law_many"] (defScope s__law_mix) := ⟨rfl, rfl, rfl, by decide +kernel, rfl, by decide +kernel, by decide +kernel⟩
abbrev s__law_halves : Stmt := top 20
theorem sc__law_halves : FnScope ["_law_number"] ["_law_number"] (defScope s__law_halves) := ⟨rfl, rfl, rfl, by decide +kernel, rfl, by decide +kernel, by decide +kernel⟩
abbrev s__law_far : Stmt := top 21
theorem sc__law_far : FnScope ["_law_cell"] ["_law_cell"] (defScope s__law_far) := ⟨rfl, rfl, rfl, by decide +kernel, rfl, by decide +kernel, by decide +kernel⟩
abbrev s__law_ray : Stmt := top 22
theorem sc__law_ray : FnScope ["_law_y", "_law_u"] ["_law_y", "_law_u"] (defScope s__law_ray) := ⟨rfl, rfl, rfl, by decide +kernel, rfl, by decide +kernel, by decide +kernel⟩
abbrev s__law_shape : Stmt := top 23
theorem sc__law_shape : FnScope ["_law_cell", "_law_y", "_law_u", "_law_wide", "_law_steep", "_law_lean"] ["_law_cell"] (defScope s__law_shape) := ⟨rfl, rfl, rfl, by decide +kernel, rfl, by decide +kernel, by decide +kernel⟩
abbrev s__law_corners : Stmt := top 24
theorem sc__law_corners : FnScope ["_law_kind", "_law_shape_here", "_law_y", "_law_u", "_law_wide", "_law_steep", "_law_lean", "_law_last"] ["_law_kind", "_law_shape_here"] (defScope s__law_corners) := ⟨rfl, rfl, rfl, by decide +kernel, rfl, by decide +kernel, by decide +kernel⟩
abbrev s__law_due : Stmt := top 25
theorem sc__law_due : FnScope ["_law_kind", "_law_shape_here", "_law_right", "_law_up", "_law_wide", "_law_steep"] ["_law_kind", "_law_shape_here", "_law_right", "_law_up"] (defScope s__law_due) := ⟨rfl, rfl, rfl, by decide +kernel, rfl, by decide +kernel, by decide +kernel⟩
abbrev s__law_size : Stmt := top 26
theorem sc__law_size : FnScope ["_law_kind", "_law_shape_here"] ["_law_kind", "_law_shape_here"] (defScope s__law_size) := ⟨rfl, rfl, rfl, by decide +kernel, rfl, by decide +kernel, by decide +kernel⟩
abbrev s__law_arc_good : Stmt := top 27
theorem sc__law_arc_good : FnScope ["_law_cell", "_law_many", "_law_y", "_law_u", "_law_corners_here", "_law_k", "_law_right", "_law_up", "_law_due_here"] ["_law_cell"] (defScope s__law_arc_good) := ⟨rfl, rfl, rfl, by decide +kernel, rfl, by decide +kernel, by decide +kernel⟩
abbrev s_law : Stmt := top 28
theorem sc_law : FnScope ["_law_script", "_law_cell", "_law_kind", "_law_shape_here", "_law_y", "_law_u", "_law_wide", "_law_steep", "_law_lean", "_law_corners_here", "_law_k", "_law_right", "_law_up", "_law_found"] ["_law_script"] (defScope s_law) := ⟨rfl, rfl, rfl, by decide +kernel, rfl, by decide +kernel, by decide +kernel⟩
structure Adr where
  z0 : Nat := 0
  BenchError : Addr
  NoNumber : Addr
  NOUGHT : Addr
structure Exc (K : PySem.W.Frag) (mg : Str → Option Value) (ad : Adr) : Prop where
  tt : True := trivial
  m_BenchError : mg "BenchError" = some (.ref ad.BenchError)
  m_NoNumber : mg "NoNumber" = some (.ref ad.NoNumber)
  m_NOUGHT : mg "NOUGHT" = some (.ref ad.NOUGHT)
  s_NOUGHT : ∀ H : Hp, SqT K H ad.NOUGHT [.int 0, .int 1]
structure Txt (K : PySem.W.Frag) (mg : Str → Option Value) (ad : Adr) : Prop where
  ex : Exc K mg ad
  abs : mg "abs" = none
  bool : mg "bool" = none
  enumerate : mg "enumerate" = none
  int : mg "int" = none
  isinstance : mg "isinstance" = none
  len : mg "len" = none
  list : mg "list" = none
  range : mg "range" = none
  t_is_whole : TopFn K mg "is_whole" s_is_whole
  t_common_divisor : TopFn K mg "common_divisor" s_common_divisor
  t_ratio_of : TopFn K mg "ratio_of" s_ratio_of
  t_sum_of : TopFn K mg "sum_of" s_sum_of
  t_less_by : TopFn K mg "less_by" s_less_by
  t_product_of : TopFn K mg "product_of" s_product_of
  t_quotient_of : TopFn K mg "quotient_of" s_quotient_of
  t_is_less : TopFn K mg "is_less" s_is_less
  t_is_before : TopFn K mg "is_before" s_is_before
  t_turn_of : TopFn K mg "turn_of" s_turn_of
  t_is_within : TopFn K mg "is_within" s_is_within
  t_size_of : TopFn K mg "size_of" s_size_of
  t__law_mix : TopFn K mg "_law_mix" s__law_mix
  t__law_halves : TopFn K mg "_law_halves" s__law_halves
  t__law_far : TopFn K mg "_law_far" s__law_far
  t__law_ray : TopFn K mg "_law_ray" s__law_ray
  t__law_shape : TopFn K mg "_law_shape" s__law_shape
  t__law_corners : TopFn K mg "_law_corners" s__law_corners
  t__law_due : TopFn K mg "_law_due" s__law_due
  t__law_size : TopFn K mg "_law_size" s__law_size
  t__law_arc_good : TopFn K mg "_law_arc_good" s__law_arc_good
theorem exc_mk {K : PySem.W.Frag} {h : Heap} {mg : Str → Option Value} {CBenchError CNoNumber CNOUGHT : Addr} {tk_NOUGHT_0 : Tok} {tk_NOUGHT_1 : Tok} {dd_NOUGHT : Option Addr} {nn_NOUGHT : Nat} {sl_NOUGHT : Array (Option Value)} (X : K.In h) (G : h.Ns mainGlobals mg) (m_BenchError : PySem.W.nsIn K mainGlobals "BenchError" = some (some (.ref CBenchError))) (m_NoNumber : PySem.W.nsIn K mainGlobals "NoNumber" = some (some (.ref CNoNumber))) (m_NOUGHT : PySem.W.nsIn K mainGlobals "NOUGHT" = some (some (.ref CNOUGHT))) (lk_NOUGHT : K.lookup CNOUGHT = some ⟨.type "tuple", dd_NOUGHT, .seq #[.int 0 tk_NOUGHT_0, .int 1 tk_NOUGHT_1] nn_NOUGHT, sl_NOUGHT⟩) : Exc K mg ⟨0, CBenchError, CNoNumber, CNOUGHT⟩ := ⟨trivial, PySem.W.mg_of X G m_BenchError, PySem.W.mg_of X G m_NoNumber, PySem.W.mg_of X G m_NOUGHT, fun H => .inr ⟨_, _, _, lk_NOUGHT, rfl, rfl, by show 2 ≤ sizeLine; decide, (.cons ⟨_, rfl⟩ (.cons ⟨_, rfl⟩ .nil))⟩⟩
section
variable {P : Program} {w : World} {K : PySem.W.Frag} {mg : Str → Option Value} {base : Heap} {ad : Adr} {c : Bool}
theorem c_is_whole (T : Txt K mg ad) : CalB P w K mg base true 1 "is_whole" ["thing"] (spW K) := by
  refine T.t_is_whole.calN sc_is_whole (fun _ _ _ _ _ _ => by1 fun _ => rfl) (fun vs H Q E h => ?_) (fun f cdv A outer s H vs Q E hr h => ?_)
  · obtain ⟨v, d, rfl, _⟩ := h; rfl
  obtain ⟨v, d, rfl, hv, q⟩ := h
  obtain ⟨b, b', hb, hc, e⟩ := isInt_b d
  refine ⟨_, (pss_one (ps_ret (pe_and (pe_callB call_isiD rfl T.isinstance bt_isinstance (pa_name (pv 0) (pa_name (pe_bltn (v := .ty "int") rfl T.int bt_int rfl) pa_nil))) (pe_one (pe_not (pe_callB call_isiD rfl T.isinstance bt_isinstance (pa_name (pv 0) (pa_name (pe_bltn (v := .ty "bool") rfl T.bool bt_bool rfl) pa_nil)))))))), ?_⟩
  refine ⟨_, rfl, _, _, _, b, rfl, hv, hb, _, rfl, ?_⟩
  cases b with
  | false =>
    have e' : isIntD d = false := e.symm
    rw [e'] at q
    exact iteF q
  | true =>
    refine iteT ?_
    refine ⟨_, rfl, _, _, _, b', rfl, hv, hc, _, rfl, ?_⟩
    have e' : (!b') = isIntD d := e
    show Q (.bl (!b')) H
    rw [e']
    exact q
theorem c_common_divisor (T : Txt K mg ad) : CalB P w K mg base true 1 "common_divisor" ["one", "other"] spDiv := by
  refine T.t_common_divisor.calN sc_common_divisor (fun _ _ _ _ _ _ => by2 fun _ _ => rfl) (fun vs H Q E h => ?_) (fun f cdv A outer s H vs Q E hr h => ?_)
  · obtain ⟨a, b, rfl, _⟩ := h; rfl
  obtain ⟨a, b, rfl, q⟩ := h
  refine ⟨_, (pss_cons (ps_set (i := 2) sc_common_divisor.nd rfl (Or.inl rfl) (pe_callB call_abs rfl T.abs bt_abs (pa_name (pv 0) pa_nil))) (pss_cons (ps_set (i := 3) sc_common_divisor.nd rfl (Or.inl rfl) (pe_callB call_abs rfl T.abs bt_abs (pa_name (pv 1) pa_nil))) (pss_cons (ps_while PassesOwn.never (pt_cmpR op_ne (pv 3) pe_int (nomark _)) (pss_cons (ps_set (i := 4) sc_common_divisor.nd rfl (Or.inl rfl) (pe_op op_mod (pv 2) (pv 3))) (pss_cons (ps_set (i := 2) sc_common_divisor.nd rfl (Or.inl rfl) (pv 3)) (pss_one (ps_set (i := 3) sc_common_divisor.nd rfl (Or.inl rfl) (pv 4)))))) (pss_one (ps_ret (pv 2)))))), ?_⟩
  refine ⟨_, rfl, _, rfl, _, rfl, _, rfl, ?_⟩
  have ea := Fr.absE a
  have eb := Fr.absE b
  refine ⟨fun k σ H' => H = H' ∧ ∃ (m : Nat) (r : Option V), σ = [some (.int a), some (.int b), some (.int m), some (.int k), r] ∧ Nat.gcd m k = Nat.gcd a.natAbs b.natAbs, ⟨b.natAbs, rfl, a.natAbs, none, by rw [← ea, ← eb]; rfl, rfl⟩, ?_⟩
  rintro n _ _ ⟨rfl, m, r, rfl, e⟩
  refine ⟨_, rfl, rfl, _, rfl, ?_⟩
  refine ite2 (fun c => ?_) (fun c => ?_)
  · have hn : n ≠ 0 := by
      intro z
      subst z
      simp at c
    have h1 : (m : Int) % (n : Int) = ((m % n : Nat) : Int) := (Int.natCast_emod m n).symm
    refine ⟨fun σ' H' => H = H' ∧ σ' = [some (.int a), some (.int b), some (.int n), some (.int ((m : Int) % (n : Int))), some (.int ((m : Int) % (n : Int)))], ?_, ?_⟩
    · rintro _ _ ⟨rfl, rfl⟩
      rw [h1]
      exact ⟨m % n, Nat.mod_lt _ (by omega), rfl, n, _, rfl, by rw [Fr.gcd_turn, e]⟩
    · exact ⟨_, rfl, _, rfl, _, _, rfl, rfl, (by show (0 : Int) < (n : Int); omega), _, rfl, _, rfl, rfl, rfl⟩
  · have hn : n = 0 := by
      by_cases z : n = 0
      · exact z
      · exfalso
        apply c
        rw [decI]
        simp
        omega
    subst hn
    refine ⟨_, rfl, ?_⟩
    have e2 : (m : Int) = Fr.gcd a b := by
      unfold Fr.gcd
      rw [← e, Nat.gcd_zero_right]
    rw [e2]
    exact q
theorem c_ratio_of (T : Txt K mg ad) : CalB P w K mg base true 2 "ratio_of" ["top", "bottom"] spOfG := by
  have C_is_whole := c_is_whole (P := P) (w := w) (base := base) T
  have C_common_divisor := c_common_divisor (P := P) (w := w) (base := base) T
  refine T.t_ratio_of.calN sc_ratio_of (fun _ _ _ _ _ _ => by2 fun _ _ => rfl) (fun vs H Q E h => ?_) (fun f cdv A outer s H vs Q E hr h => ?_)
  · obtain ⟨x, y, rfl, _⟩ := h; rfl
  obtain ⟨a, b, rfl, b0, bs, q⟩ := h
  refine ⟨_, (pss_cons (ps_if (PW.pt (pw_or (pt_not (pt_val (pe_cB C_is_whole (hr.mono (by decide)) pass01 (pa_name (pv 0) pa_nil)))) (pw_or (pt_not (pt_val (pe_cB C_is_whole (hr.mono (by decide)) pass01 (pa_name (pv 1) pa_nil)))) (pw_or1 (pt_cmpR op_eq (pv 1) pe_int (nomark _)))))) (pss_one ps_never) pss_nil) (pss_cons (ps_set (i := 2) sc_ratio_of.nd rfl (Or.inl rfl) (pe_cB C_common_divisor (hr.mono (by decide)) pass01 (pa_name (pv 0) (pa_name (pv 1) pa_nil)))) (pss_cons (ps_if (pt_cmpR op_lt (pv 1) pe_int (nomark _)) (pss_one (ps_set (i := 2) sc_ratio_of.nd rfl (Or.inl rfl) (pe_op op_sub pe_int (pv 2)))) pss_nil) (pss_one (ps_ret (pe_tup (pa_bin (pe_op op_fdivW (pv 0) (pv 2)) (pa_bin (pe_op op_fdivW (pv 1) (pv 2)) pa_nil)))))))), ?_⟩
  refine ⟨_, rfl, _, _, rfl, .int a, _, rfl, ?_⟩
  refine iteF ?_
  refine ⟨_, rfl, _, _, rfl, .int b, _, rfl, ?_⟩
  refine iteF ?_
  refine ⟨_, rfl, rfl, _, rfl, ?_⟩
  refine ite2 (fun z => ?_) (fun _ => ?_)
  · exfalso
    rw [decI] at z
    exact b0 (of_decide_eq_true z)
  refine ⟨_, rfl, _, rfl, a, b, rfl, ?_⟩
  have gl := Fr.gcd_le (a := a) b0
  have gn := Fr.gcd_nn a b
  have gs : ∀ g : Int, g.natAbs = (Fr.gcd a b).natAbs → g.natAbs.log2 < 9000 := fun g hg => by
    have h2 : g.natAbs < lim := by omega
    exact lim_log h2
  have hlow : ∀ g : Int, g = Fr.sg a b → CDivW a g ∧ CDivW b g := fun g hg => by
    subst hg
    exact ⟨⟨Fr.sg_ne b0, gs _ Fr.sg_abs⟩, ⟨Fr.sg_ne b0, gs _ Fr.sg_abs⟩⟩
  refine ⟨_, rfl, _, _, rfl, rfl, _, rfl, ?_⟩
  refine ite2 (fun c2 => ?_) (fun c2 => ?_)
  · have c3 : b < 0 := of_decide_eq_true c2
    have eg : (0 : Int) - Fr.gcd a b = Fr.sg a b := by
      unfold Fr.sg
      rw [if_pos c3]
    refine ⟨_, rfl, _, _, rfl, rfl, ?_⟩
    refine ⟨_, rfl, _, rfl, _, _, rfl, rfl, (hlow _ eg).1, _, rfl, _, rfl, _, _, rfl, rfl, (hlow _ eg).2, (by show 2 ≤ sizeLine; decide), fun p hp => ?_⟩
    rw [eg]
    exact q p hp
  · have c3 : ¬ b < 0 := fun z => c2 (decide_eq_true z)
    have eg : Fr.gcd a b = Fr.sg a b := by
      unfold Fr.sg
      rw [if_neg c3]
    refine ⟨_, rfl, _, rfl, _, _, rfl, rfl, (hlow _ eg).1, _, rfl, _, rfl, _, _, rfl, rfl, (hlow _ eg).2, (by show 2 ≤ sizeLine; decide), fun p hp => ?_⟩
    rw [eg]
    exact q p hp
theorem c_sum_of (T : Txt K mg ad) : CalB P w K mg base true 3 "sum_of" ["one", "other"] (PR K (RBin fun p q => p + q)) := by
  have C_ratio_of := c_ratio_of (P := P) (w := w) (base := base) T
  refine T.t_sum_of.calN sc_sum_of (fun _ _ _ _ _ _ => by2 fun _ _ => rfl) (fun vs H Q E h => ?_) (fun f cdv A outer s H vs Q E hr h => ?_)
  · obtain ⟨_, _, dv, ⟨_, _, rfl, _⟩, _⟩ := h; exact dv.len
  obtain ⟨_, _, dv, ⟨p, q, rfl, sp, sq, rfl⟩, k⟩ := h
  obtain ⟨_, _, rfl, hx, hy⟩ := dv.two
  obtain ⟨a, rfl, ha⟩ := hx.fr
  obtain ⟨b, rfl, hb⟩ := hy.fr
  refine ⟨_, (pss_one (ps_ret (pe_cB C_ratio_of (hr.mono (by decide)) pass01 (pa_bin (pe_op op_add (pe_op op_mulW (pe_ix ix_tup (pv 0) pe_int (fun _ _ => rfl)) (pe_ix ix_tup (pv 1) pe_int (fun _ _ => rfl))) (pe_op op_mulW (pe_ix ix_tup (pv 1) pe_int (fun _ _ => rfl)) (pe_ix ix_tup (pv 0) pe_int (fun _ _ => rfl)))) (pa_bin (pe_op op_mulW (pe_ix ix_tup (pv 0) pe_int (fun _ _ => rfl)) (pe_ix ix_tup (pv 1) pe_int (fun _ _ => rfl))) pa_nil))))), ?_⟩
  refine ⟨_, rfl, a, _, _, _, rfl, rfl, ha, rfl, _, rfl, b, _, _, _, rfl, rfl, hb, rfl, _, _, rfl, rfl, mulW sp.n sq.dn, ?_⟩
  refine ⟨_, rfl, b, _, _, _, rfl, rfl, hb, rfl, _, rfl, a, _, _, _, rfl, rfl, ha, rfl, _, _, rfl, rfl, mulW sq.n sp.dn, _, _, rfl, rfl, ?_⟩
  refine ⟨_, rfl, a, _, _, _, rfl, rfl, ha, rfl, _, rfl, b, _, _, _, rfl, rfl, hb, rfl, _, _, rfl, rfl, mulW sp.dn sq.dn, ?_⟩
  refine ⟨_, _, rfl, den_mul0 p q, mul_lim sp.dn sq.dn, fun r hr => k _ _ (same_new hr _) ?_⟩
  have e := dv_low (K := K) (H := H) (t := p.num * (q.den : Int) + q.num * (p.den : Int)) (b := (p.den : Int) * (q.den : Int)) (p := r) (den_mul0 p q)
  rw [Fr.sum_rat] at e
  exact e
theorem c_less_by (T : Txt K mg ad) : CalB P w K mg base true 3 "less_by" ["one", "other"] (PR K (RBin fun p q => p - q)) := by
  have C_ratio_of := c_ratio_of (P := P) (w := w) (base := base) T
  refine T.t_less_by.calN sc_less_by (fun _ _ _ _ _ _ => by2 fun _ _ => rfl) (fun vs H Q E h => ?_) (fun f cdv A outer s H vs Q E hr h => ?_)
  · obtain ⟨_, _, dv, ⟨_, _, rfl, _⟩, _⟩ := h; exact dv.len
  obtain ⟨_, _, dv, ⟨p, q, rfl, sp, sq, rfl⟩, k⟩ := h
  obtain ⟨_, _, rfl, hx, hy⟩ := dv.two
  obtain ⟨a, rfl, ha⟩ := hx.fr
  obtain ⟨b, rfl, hb⟩ := hy.fr
  refine ⟨_, (pss_one (ps_ret (pe_cB C_ratio_of (hr.mono (by decide)) pass01 (pa_bin (pe_op op_sub (pe_op op_mulW (pe_ix ix_tup (pv 0) pe_int (fun _ _ => rfl)) (pe_ix ix_tup (pv 1) pe_int (fun _ _ => rfl))) (pe_op op_mulW (pe_ix ix_tup (pv 1) pe_int (fun _ _ => rfl)) (pe_ix ix_tup (pv 0) pe_int (fun _ _ => rfl)))) (pa_bin (pe_op op_mulW (pe_ix ix_tup (pv 0) pe_int (fun _ _ => rfl)) (pe_ix ix_tup (pv 1) pe_int (fun _ _ => rfl))) pa_nil))))), ?_⟩
  refine ⟨_, rfl, a, _, _, _, rfl, rfl, ha, rfl, _, rfl, b, _, _, _, rfl, rfl, hb, rfl, _, _, rfl, rfl, mulW sp.n sq.dn, ?_⟩
  refine ⟨_, rfl, b, _, _, _, rfl, rfl, hb, rfl, _, rfl, a, _, _, _, rfl, rfl, ha, rfl, _, _, rfl, rfl, mulW sq.n sp.dn, _, _, rfl, rfl, ?_⟩
  refine ⟨_, rfl, a, _, _, _, rfl, rfl, ha, rfl, _, rfl, b, _, _, _, rfl, rfl, hb, rfl, _, _, rfl, rfl, mulW sp.dn sq.dn, ?_⟩
  refine ⟨_, _, rfl, den_mul0 p q, mul_lim sp.dn sq.dn, fun r hr => k _ _ (same_new hr _) ?_⟩
  have e := dv_low (K := K) (H := H) (t := p.num * (q.den : Int) - q.num * (p.den : Int)) (b := (p.den : Int) * (q.den : Int)) (p := r) (den_mul0 p q)
  rw [Fr.less_rat] at e
  exact e
theorem c_product_of (T : Txt K mg ad) : CalB P w K mg base true 3 "product_of" ["one", "other"] (PR K (RBin fun p q => p * q)) := by
  have C_ratio_of := c_ratio_of (P := P) (w := w) (base := base) T
  refine T.t_product_of.calN sc_product_of (fun _ _ _ _ _ _ => by2 fun _ _ => rfl) (fun vs H Q E h => ?_) (fun f cdv A outer s H vs Q E hr h => ?_)
  · obtain ⟨_, _, dv, ⟨_, _, rfl, _⟩, _⟩ := h; exact dv.len
  obtain ⟨_, _, dv, ⟨p, q, rfl, sp, sq, rfl⟩, k⟩ := h
  obtain ⟨_, _, rfl, hx, hy⟩ := dv.two
  obtain ⟨a, rfl, ha⟩ := hx.fr
  obtain ⟨b, rfl, hb⟩ := hy.fr
  refine ⟨_, (pss_one (ps_ret (pe_cB C_ratio_of (hr.mono (by decide)) pass01 (pa_bin (pe_op op_mulW (pe_ix ix_tup (pv 0) pe_int (fun _ _ => rfl)) (pe_ix ix_tup (pv 1) pe_int (fun _ _ => rfl))) (pa_bin (pe_op op_mulW (pe_ix ix_tup (pv 0) pe_int (fun _ _ => rfl)) (pe_ix ix_tup (pv 1) pe_int (fun _ _ => rfl))) pa_nil))))), ?_⟩
  refine ⟨_, rfl, a, _, _, _, rfl, rfl, ha, rfl, _, rfl, b, _, _, _, rfl, rfl, hb, rfl, _, _, rfl, rfl, mulW sp.n sq.n, ?_⟩
  refine ⟨_, rfl, a, _, _, _, rfl, rfl, ha, rfl, _, rfl, b, _, _, _, rfl, rfl, hb, rfl, _, _, rfl, rfl, mulW sp.dn sq.dn, ?_⟩
  refine ⟨_, _, rfl, den_mul0 p q, mul_lim sp.dn sq.dn, fun r hr => k _ _ (same_new hr _) ?_⟩
  have e := dv_low (K := K) (H := H) (t := p.num * q.num) (b := (p.den : Int) * (q.den : Int)) (p := r) (den_mul0 p q)
  rw [Fr.prod_rat] at e
  exact e
theorem c_quotient_of (T : Txt K mg ad) : CalB P w K mg base true 3 "quotient_of" ["one", "other"] (PR K RQuo) := by
  have C_ratio_of := c_ratio_of (P := P) (w := w) (base := base) T
  refine T.t_quotient_of.calN sc_quotient_of (fun _ _ _ _ _ _ => by2 fun _ _ => rfl) (fun vs H Q E h => ?_) (fun f cdv A outer s H vs Q E hr h => ?_)
  · obtain ⟨_, _, dv, ⟨_, _, rfl, _⟩, _⟩ := h; exact dv.len
  obtain ⟨_, _, dv, ⟨p, q, rfl, sp, sq, q0, rfl⟩, k⟩ := h
  obtain ⟨_, _, rfl, hx, hy⟩ := dv.two
  obtain ⟨a, rfl, ha⟩ := hx.fr
  obtain ⟨b, rfl, hb⟩ := hy.fr
  refine ⟨_, (pss_one (ps_ret (pe_cB C_ratio_of (hr.mono (by decide)) pass01 (pa_bin (pe_op op_mulW (pe_ix ix_tup (pv 0) pe_int (fun _ _ => rfl)) (pe_ix ix_tup (pv 1) pe_int (fun _ _ => rfl))) (pa_bin (pe_op op_mulW (pe_ix ix_tup (pv 0) pe_int (fun _ _ => rfl)) (pe_ix ix_tup (pv 1) pe_int (fun _ _ => rfl))) pa_nil))))), ?_⟩
  refine ⟨_, rfl, a, _, _, _, rfl, rfl, ha, rfl, _, rfl, b, _, _, _, rfl, rfl, hb, rfl, _, _, rfl, rfl, mulW sp.n sq.dn, ?_⟩
  refine ⟨_, rfl, a, _, _, _, rfl, rfl, ha, rfl, _, rfl, b, _, _, _, rfl, rfl, hb, rfl, _, _, rfl, rfl, mulW sp.dn sq.n, ?_⟩
  have n0 : q.num ≠ 0 := fun e => q0 (Fr.num_zero q |>.mp e)
  have m0 : (p.den : Int) * q.num ≠ 0 := Int.mul_ne_zero (den0 p) n0
  refine ⟨_, _, rfl, m0, mul_lim sp.dn sq.n, fun r hr => k _ _ (same_new hr _) ?_⟩
  have e := dv_low (K := K) (H := H) (t := p.num * (q.den : Int)) (b := (p.den : Int) * q.num) (p := r) m0
  rw [Fr.quot_rat] at e
  exact e
theorem c_is_less (T : Txt K mg ad) : CalB P w K mg base true 1 "is_less" ["one", "other"] (PR K RLess) := by
  refine T.t_is_less.calN sc_is_less (fun _ _ _ _ _ _ => by2 fun _ _ => rfl) (fun vs H Q E h => ?_) (fun f cdv A outer s H vs Q E hr h => ?_)
  · obtain ⟨_, _, dv, ⟨_, _, rfl, _⟩, _⟩ := h; exact dv.len
  obtain ⟨_, _, dv, ⟨p, q, rfl, sp, sq, rfl⟩, k⟩ := h
  obtain ⟨_, _, rfl, hx, hy⟩ := dv.two
  obtain ⟨a, rfl, ha⟩ := hx.fr
  obtain ⟨b, rfl, hb⟩ := hy.fr
  refine ⟨_, (pss_one (ps_ret (pe_cmpR op_lt (pe_op op_mulW (pe_ix ix_tup (pv 0) pe_int (fun _ _ => rfl)) (pe_ix ix_tup (pv 1) pe_int (fun _ _ => rfl))) (pe_op op_mulW (pe_ix ix_tup (pv 1) pe_int (fun _ _ => rfl)) (pe_ix ix_tup (pv 0) pe_int (fun _ _ => rfl))) (nomark _)))), ?_⟩
  refine ⟨_, rfl, a, _, _, _, rfl, rfl, ha, rfl, _, rfl, b, _, _, _, rfl, rfl, hb, rfl, _, _, rfl, rfl, mulW sp.n sq.dn, ?_⟩
  refine ⟨_, rfl, b, _, _, _, rfl, rfl, hb, rfl, _, rfl, a, _, _, _, rfl, rfl, ha, rfl, _, _, rfl, rfl, mulW sq.n sp.dn, _, _, rfl, rfl, ?_⟩
  have e : decide (p.num * (q.den : Int) < q.num * (p.den : Int)) = decide (p < q) := decide_eq_decide.mpr (Fr.lt_rat p q)
  show Q (.bl (decide (p.num * (q.den : Int) < q.num * (p.den : Int)))) H
  rw [e]
  exact k _ _ (Same.refl _) (.bl _)
end
end K45
namespace K45
open PySem L2 Lib Fr Op
seal PE PT PW PA PS PSs PG PGs PI PO PIfs
section
variable {P : Program} {w : World} {K : PySem.W.Frag} {mg : Str → Option Value} {base : Heap} {ad : Adr} {c : Bool}
theorem c_is_before (T : Txt K mg ad) : CalB P w K mg base true 2 "is_before" ["one", "other"] (PR K RBef) := by
  have C_is_less := c_is_less (P := P) (w := w) (base := base) T
  refine T.t_is_before.calN sc_is_before (fun _ _ _ _ _ _ => by2 fun _ _ => rfl) (fun vs H Q E h => ?_) (fun f cdv A outer s H vs Q E hr h => ?_)
  · obtain ⟨_, _, dv, ⟨_, _, _, rfl, _⟩, _⟩ := h; exact dv.len
  obtain ⟨_, _, dv, ⟨r1, r2, n, rfl, b1, b2, hn, rfl⟩, k⟩ := h
  obtain ⟨_, _, rfl, hx, hy⟩ := dv.two
  obtain ⟨a, x1, x2, rfl, ha, hx1, hx2⟩ := DV.t2 hx
  obtain ⟨b, y1, y2, rfl, hb, hy1, hy2⟩ := DV.t2 hy
  refine ⟨_, (pss_cons (ps_if (pt_cmpR (op_neD hr.units) (pe_ix ix_tup (pv 0) pe_int (fun _ _ => rfl)) (pe_ix ix_tup (pv 1) pe_int (fun _ _ => rfl)) (nomark _)) (pss_one (ps_ret (pe_cB C_is_less (hr.mono (by decide)) pass01 (pa_sub (pe_ix ix_tup (pv 0) pe_int (fun _ _ => rfl)) (pa_sub (pe_ix ix_tup (pv 1) pe_int (fun _ _ => rfl)) pa_nil))))) pss_nil) (pss_one (ps_ret (pe_cB C_is_less (hr.mono (by decide)) pass01 (pa_sub (pe_ix ix_tup (pv 0) pe_int (fun _ _ => rfl)) (pa_sub (pe_ix ix_tup (pv 1) pe_int (fun _ _ => rfl)) pa_nil)))))), ?_⟩
  refine ⟨_, rfl, a, _, _, _, rfl, rfl, ha, rfl, _, rfl, b, _, _, _, rfl, rfl, hb, rfl, ne_frD hx1 hy1 ⟨_, rfl, ?_⟩⟩
  by_cases e : r1.1 = r2.1
  · refine iteF' (by rw [decide_eq_true e]; rfl) ?_
    refine ⟨_, rfl, a, _, _, _, rfl, rfl, ha, rfl, _, rfl, b, _, _, _, rfl, rfl, hb, rfl, _, _, .cons hx2 (.cons hy2 .nil), ⟨_, _, rfl, b1.u.sm hn, b2.u.sm hn, rfl⟩, fun v H1 s1 hv => ?_⟩
    refine k _ _ s1 ?_
    have e2 : befR r1 r2 = decide (r1.2 < r2.2) := by unfold befR; rw [if_pos e]
    rw [e2]
    exact hv
  · refine iteT' (by rw [decide_eq_false e]; rfl) ?_
    refine ⟨_, rfl, a, _, _, _, rfl, rfl, ha, rfl, _, rfl, b, _, _, _, rfl, rfl, hb, rfl, _, _, .cons hx1 (.cons hy1 .nil), ⟨_, _, rfl, b1.y.sm hn, b2.y.sm hn, rfl⟩, fun v H1 s1 hv => ?_⟩
    refine k _ _ s1 ?_
    have e2 : befR r1 r2 = decide (r1.1 < r2.1) := by unfold befR; rw [if_neg e]
    rw [e2]
    exact hv
theorem c_turn_of (T : Txt K mg ad) : CalB P w K mg base true 4 "turn_of" ["start", "end", "ray"] (PR K RTurn) := by
  have C_less_by := c_less_by (P := P) (w := w) (base := base) T
  have C_product_of := c_product_of (P := P) (w := w) (base := base) T
  refine T.t_turn_of.calN sc_turn_of (fun _ _ _ _ _ _ => by3 fun _ _ _ => rfl) (fun vs H Q E h => ?_) (fun f cdv A outer s H vs Q E hr h => ?_)
  · obtain ⟨_, _, dv, ⟨_, _, _, _, rfl, _⟩, _⟩ := h; exact dv.len
  obtain ⟨_, _, dv, ⟨r1, r2, r3, n, rfl, b1, b2, b3, hn, rfl⟩, k⟩ := h
  obtain ⟨_, _, _, rfl, hx, hy, hz⟩ := dv.three
  obtain ⟨a, x1, x2, rfl, ha, hx1, hx2⟩ := DV.t2 hx
  obtain ⟨b, y1, y2, rfl, hb, hy1, hy2⟩ := DV.t2 hy
  obtain ⟨d, z1, z2, rfl, hd, hz1, hz2⟩ := DV.t2 hz
  refine ⟨_, (pss_cons (ps_set (i := 3) sc_turn_of.nd rfl (Or.inl rfl) (pe_cB C_product_of (hr.mono (by decide)) pass01 (pa_call (pe_cB C_less_by (hr.mono (by decide)) pass01 (pa_sub (pe_ix ix_tup (pv 1) pe_int (fun _ _ => rfl)) (pa_sub (pe_ix ix_tup (pv 0) pe_int (fun _ _ => rfl)) pa_nil))) (pa_call (pe_cB C_less_by (hr.mono (by decide)) pass01 (pa_sub (pe_ix ix_tup (pv 2) pe_int (fun _ _ => rfl)) (pa_sub (pe_ix ix_tup (pv 0) pe_int (fun _ _ => rfl)) pa_nil))) pa_nil)))) (pss_cons (ps_set (i := 4) sc_turn_of.nd rfl (Or.inl rfl) (pe_cB C_product_of (hr.mono (by decide)) pass01 (pa_call (pe_cB C_less_by (hr.mono (by decide)) pass01 (pa_sub (pe_ix ix_tup (pv 1) pe_int (fun _ _ => rfl)) (pa_sub (pe_ix ix_tup (pv 0) pe_int (fun _ _ => rfl)) pa_nil))) (pa_call (pe_cB C_less_by (hr.mono (by decide)) pass01 (pa_sub (pe_ix ix_tup (pv 2) pe_int (fun _ _ => rfl)) (pa_sub (pe_ix ix_tup (pv 0) pe_int (fun _ _ => rfl)) pa_nil))) pa_nil)))) (pss_one (ps_ret (pe_cB C_less_by (hr.mono (by decide)) pass01 (pa_name (pv 3) (pa_name (pv 4) pa_nil))))))), ?_⟩
  refine ⟨_, rfl, b, _, _, _, rfl, rfl, hb, rfl, _, rfl, a, _, _, _, rfl, rfl, ha, rfl, _, _, .cons hy1 (.cons hx1 .nil), ⟨_, _, rfl, b2.y.sm (by omega), b1.y.sm (by omega), rfl⟩, fun v1 H1 s1 hv1 => ?_⟩
  refine ⟨_, rfl, d, _, _, _, rfl, rfl, hd.keep s1, rfl, _, rfl, a, _, _, _, rfl, rfl, ha.keep s1, rfl, _, _, .cons (hz2.keep s1) (.cons (hx2.keep s1) .nil), ⟨_, _, rfl, b3.u.sm (by omega), b1.u.sm (by omega), rfl⟩, fun v2 H2 s2 hv2 => ?_⟩
  have e1 := b2.y.sub b1.y
  have e2 := b3.u.sub b1.u
  refine ⟨_, _, .cons (hv1.keep s2) (.cons hv2 .nil), ⟨_, _, rfl, e1.sm (by omega), e2.sm (by omega), rfl⟩, fun v3 H3 s3 hv3 => ?_⟩
  have t3 := s1.trans (s2.trans s3)
  refine ⟨_, rfl, b, _, _, _, rfl, rfl, hb.keep t3, rfl, _, rfl, a, _, _, _, rfl, rfl, ha.keep t3, rfl, _, _, .cons (hy2.keep t3) (.cons (hx2.keep t3) .nil), ⟨_, _, rfl, b2.u.sm (by omega), b1.u.sm (by omega), rfl⟩, fun v4 H4 s4 hv4 => ?_⟩
  have t4 := t3.trans s4
  refine ⟨_, rfl, d, _, _, _, rfl, rfl, hd.keep t4, rfl, _, rfl, a, _, _, _, rfl, rfl, ha.keep t4, rfl, _, _, .cons (hz1.keep t4) (.cons (hx1.keep t4) .nil), ⟨_, _, rfl, b3.y.sm (by omega), b1.y.sm (by omega), rfl⟩, fun v5 H5 s5 hv5 => ?_⟩
  have e4 := b2.u.sub b1.u
  have e5 := b3.y.sub b1.y
  refine ⟨_, _, .cons (hv4.keep s5) (.cons hv5 .nil), ⟨_, _, rfl, e4.sm (by omega), e5.sm (by omega), rfl⟩, fun v6 H6 s6 hv6 => ?_⟩
  refine ⟨_, rfl, _, rfl, _, _, .cons (hv3.keep (s4.trans (s5.trans s6))) (.cons hv6 .nil), ⟨_, _, rfl, (e1.mul e2).sm (by omega), (e4.mul e5).sm (by omega), rfl⟩, fun v7 H7 s7 hv7 => ?_⟩
  exact k _ _ (t4.trans (s5.trans (s6.trans s7))) hv7
theorem c_is_within (T : Txt K mg ad) : CalB P w K mg base true 5 "is_within" ["corners", "ray"] (PR K RWithin) := by
  have C_is_less := c_is_less (P := P) (w := w) (base := base) T
  have C_turn_of := c_turn_of (P := P) (w := w) (base := base) T
  have C_is_before := c_is_before (P := P) (w := w) (base := base) T
  refine T.t_is_within.calN sc_is_within (fun _ _ _ _ _ _ => by2 fun _ _ => rfl) (fun vs H Q E h => ?_) (fun f cdv A outer s H vs Q E hr h => ?_)
  · obtain ⟨_, _, dv, ⟨_, _, _, rfl, _⟩, _⟩ := h; exact dv.len
  obtain ⟨_, _, dv, ⟨cs, r, n, rfl, bc, br, hn, hcs, rfl⟩, k⟩ := h
  obtain ⟨_, y, rfl, hx, hy⟩ := dv.two
  obtain ⟨a, xs, rfl, ha, hxs⟩ := DV.lst_of hx
  have hl : xs.length = cs.length := by have := hxs.len; rw [List.length_map] at this; exact this
  refine ⟨_, (pss_cons (ps_if (pt_cmpR op_lt (pe_callB call_len_seq rfl T.len bt_len (pa_name (pv 0) pa_nil)) pe_int (nomark _)) (pss_one (ps_ret (pe_cmpR (op_inD hr.units) (pv 1) (pv 0) (by rfl)))) pss_nil) (pss_cons (ps_for PassesOwn.never rfl (pi_enum rfl T.enumerate (pa_name (pv 0) pa_nil)) (pg_tup (n := 2) rfl (pgs_cons (pg_name (i := 2) sc_is_within.nd rfl (by first | exact Or.inl rfl | exact Or.inr rfl)) (pgs_cons (pg_name (i := 3) sc_is_within.nd rfl (by first | exact Or.inl rfl | exact Or.inr rfl)) pgs_nil))) (pss_one (ps_if (pt_val (pe_cB C_is_less (hr.mono (by decide)) pass01 (pa_call (pe_cB C_turn_of (hr.mono (by decide)) pass01 (pa_sub (pe_ix ix_list (pv 0) (pe_op op_sub (pv 2) pe_int) (fun _ _ => rfl)) (pa_name (pv 3) (pa_name (pv 1) pa_nil)))) (pa_name (pe_glob (v := .ref ad.NOUGHT) rfl T.ex.m_NOUGHT rfl) pa_nil)))) (pss_one (ps_ret pe_bl)) pss_nil))) (pss_cons (ps_if (pt_cmpR op_gt (pe_callB call_len_seq rfl T.len bt_len (pa_name (pv 0) pa_nil)) pe_int (nomark _)) (pss_one (ps_ret pe_bl)) pss_nil) (pss_one (ps_ret (pe_and (pe_not (pe_cB C_is_before (hr.mono (by decide)) pass01 (pa_name (pv 1) (pa_sub (pe_ix ix_list (pv 0) pe_int (fun _ _ => rfl)) pa_nil)))) (pe_one (pe_not (pe_cB C_is_before (hr.mono (by decide)) pass01 (pa_sub (pe_ix ix_list (pv 0) pe_int (fun _ _ => rfl)) (pa_name (pv 1) pa_nil))))))))))), ?_⟩
  refine ⟨_, rfl, a, _, rfl, .inl ha, _, _, rfl, rfl, _, rfl, ?_⟩
  by_cases h2 : cs.length < 2
  · refine iteT' (decide_eq_true (by omega)) ?_
    refine ⟨_, rfl, _, rfl, a, xs, _, _, rfl, ha, hy, hxs, rfl, (by show (rayD r).depth ≤ 60; exact Nat.le_trans (flat_ray r).d (by decide)), lay_rays cs, ?_⟩
    have e : withinR cs r = (cs.map rayD).any (fun d => PyData.eqv d (rayD r)) := by unfold withinR; rw [if_pos h2, any_ray]
    refine k _ _ (Same.refl _) ?_
    rw [e]
    exact .bl _
  · refine iteF' (decide_eq_false (by omega)) ?_
    refine ⟨_, rfl, a, rfl, ⟨_, ha⟩, ?_⟩
    refine for_enum (K := K) (a := a) (xs := xs) (fun i σ H' => ∃ c2 c3, σ = [some (.ref a), some y, c2, c3] ∧ Same H H' ∧ leftTo cs r i = true) ⟨_, _, rfl, Same.refl _, rfl⟩ ?_ ?_ ?_
    · rintro i σ H' hi ⟨c2, c3, rfl, s1, _⟩
      exact ha.keep s1
    · rintro i x σ H' p hi ⟨c2, c3, rfl, s1, hlt⟩ hp
      have hlt' := lt_of_get hi
      have s2 := s1.trans (same_new hp (.tup [.int i, x]))
      obtain ⟨v0, hv0, hd0⟩ := dvs_prev hxs (i := i) (by omega)
      obtain ⟨v1, hv1, hd1⟩ := dvs_ray hxs (i := i) (by omega)
      cases hi.symm.trans hv1
      refine ⟨p, _, rfl, SqT.of upd_same, rfl, _, _, rfl, _, _, rfl, rfl, ?_⟩
      have m1 := bc _ (prevR_mem (cs := cs) (i := i) (by omega))
      have m2 := bc _ (atR_mem (cs := cs) (i := i) (by omega))
      refine ⟨_, rfl, _, rfl, _, _, rfl, rfl, a, _, _, v0, rfl, rfl, ha.keep s2, hv0, _, rfl, _, rfl, _, _, .cons (hd0.keep s2) (.cons (hd1.keep s2) (.cons (hy.keep s2) .nil)), ⟨_, _, _, n, rfl, m1, m2, br, hn, rfl⟩, fun v H3 s3 hv => ?_⟩
      have bt : Bd (4 * n + 2 + (4 * n + 2) + 1) (turnR (prevR cs i) (atR cs i) r) := (((m2.y.sub m1.y).mul (br.u.sub m1.u)).mono (by omega)).sub (((m2.u.sub m1.u).mul (br.y.sub m1.y)).mono (by omega))
      refine ⟨_, _, .cons hv (.cons (.tup (T.ex.s_NOUGHT _) (.cons (.int _) (.cons (.int _) .nil))) .nil), ⟨_, 0, rfl, bt.sm (by omega), (⟨by decide +kernel, by decide +kernel⟩ : Bd 1 (0 : Rat)).sm (by decide), rfl⟩, fun v4 H4 s4 hv4 => ?_⟩
      obtain rfl := hv4.bl_of
      refine ⟨_, rfl, ?_⟩
      cases hb : decide (turnR (prevR cs i) (atR cs i) r < 0) with
      | true =>
        refine iteT ?_
        refine k _ _ (s2.trans (s3.trans s4)) ?_
        have e : leftTo cs r cs.length = false := by
          cases e : leftTo cs r cs.length with
          | false => rfl
          | true => exact absurd (of_decide_eq_true hb) ((left_iff cs r _).mp e i (by omega))
        have e2 : withinR cs r = false := by unfold withinR; rw [if_neg h2, e]; rfl
        rw [e2]
        exact .bl _
      | false =>
        refine iteF ⟨_, _, rfl, s2.trans (s3.trans s4), ?_⟩
        rw [leftTo, hlt, hb]
        rfl
    · rintro σ H' ⟨c2, c3, rfl, s1, hlt⟩
      rw [hl] at hlt
      refine ⟨_, rfl, a, _, rfl, .inl (ha.keep s1), _, _, rfl, rfl, _, rfl, ?_⟩
      by_cases h3 : 2 < cs.length
      · refine iteT' (decide_eq_true (by omega)) ?_
        refine k _ _ s1 ?_
        have e2 : withinR cs r = true := by unfold withinR; rw [if_neg h2, hlt, if_pos h3]; rfl
        rw [e2]
        exact .bl _
      · refine iteF' (decide_eq_false (by omega)) ?_
        obtain ⟨v0, hv0, hd0⟩ := dvs_ray hxs (i := 0) (by omega)
        obtain ⟨v1, hv1, hd1⟩ := dvs_ray hxs (i := 1) (by omega)
        have m0 := bc _ (atR_mem (cs := cs) (i := 0) (by omega))
        have m1 := bc _ (atR_mem (cs := cs) (i := 1) (by omega))
        have ew : withinR cs r = (!befR r (atR cs 0) && !befR (atR cs 1) r) := by unfold withinR; rw [if_neg h2, hlt, if_neg h3]; rfl
        refine ⟨_, rfl, _, rfl, a, _, _, v0, rfl, rfl, ha.keep s1, atI_nat (j := 0) hv0, _, _, .cons (hy.keep s1) (.cons (hd0.keep s1) .nil), ⟨_, _, n, rfl, br, m0, by omega, rfl⟩, fun v5 H5 s5 hv5 => ?_⟩
        obtain rfl := hv5.bl_of
        refine ⟨_, rfl, _, rfl, ?_⟩
        cases hb : befR r (atR cs 0) with
        | true =>
          refine iteF ?_
          refine k _ _ (s1.trans s5) ?_
          rw [ew, hb]
          exact .bl _
        | false =>
          refine iteT ?_
          have t5 := s1.trans s5
          refine ⟨_, rfl, a, _, _, v1, rfl, rfl, ha.keep t5, atI_nat (j := 1) hv1, _, rfl, _, _, .cons (hd1.keep t5) (.cons (hy.keep t5) .nil), ⟨_, _, n, rfl, m1, br, by omega, rfl⟩, fun v6 H6 s6 hv6 => ?_⟩
          obtain rfl := hv6.bl_of
          refine ⟨_, rfl, ?_⟩
          refine k _ _ (t5.trans s6) ?_
          rw [ew, hb]
          exact .bl _
theorem c_size_of (T : Txt K mg ad) : CalB P w K mg base true 4 "size_of" ["corners"] (PR K RSize) := by
  have C_sum_of := c_sum_of (P := P) (w := w) (base := base) T
  have C_less_by := c_less_by (P := P) (w := w) (base := base) T
  have C_product_of := c_product_of (P := P) (w := w) (base := base) T
  have C_quotient_of := c_quotient_of (P := P) (w := w) (base := base) T
  refine T.t_size_of.calN sc_size_of (fun _ _ _ _ _ _ => by1 fun _ => rfl) (fun vs H Q E h => ?_) (fun f cdv A outer s H vs Q E hr h => ?_)
  · obtain ⟨_, _, dv, ⟨_, _, rfl, _⟩, _⟩ := h; exact dv.len
  obtain ⟨_, _, dv, ⟨cs, n, rfl, bc, hn, hcs, rfl⟩, k⟩ := h
  obtain ⟨_, rfl, hx⟩ := dv.one
  obtain ⟨a, xs, rfl, ha, hxs⟩ := DV.lst_of hx
  have hl : xs.length = cs.length := by have := hxs.len; rw [List.length_map] at this; exact this
  refine ⟨_, (pss_cons (ps_set (i := 1) sc_size_of.nd rfl (Or.inl rfl) (pe_glob (v := .ref ad.NOUGHT) rfl T.ex.m_NOUGHT rfl)) (pss_cons (ps_for PassesOwn.never rfl (pi_enum rfl T.enumerate (pa_name (pv 0) pa_nil)) (pg_tup (n := 2) rfl (pgs_cons (pg_name (i := 2) sc_size_of.nd rfl (by first | exact Or.inl rfl | exact Or.inr rfl)) (pgs_cons (pg_name (i := 3) sc_size_of.nd rfl (by first | exact Or.inl rfl | exact Or.inr rfl)) pgs_nil))) (pss_cons (ps_set (i := 4) sc_size_of.nd rfl (Or.inl rfl) (pe_ix ix_list (pv 0) (pe_op op_sub (pv 2) pe_int) (fun _ _ => rfl))) (pss_one (ps_set (i := 1) sc_size_of.nd rfl (Or.inl rfl) (pe_cB C_sum_of (hr.mono (by decide)) pass01 (pa_name (pv 1) (pa_call (pe_cB C_less_by (hr.mono (by decide)) pass01 (pa_call (pe_cB C_product_of (hr.mono (by decide)) pass01 (pa_sub (pe_ix ix_tup (pv 4) pe_int (fun _ _ => rfl)) (pa_sub (pe_ix ix_tup (pv 3) pe_int (fun _ _ => rfl)) pa_nil))) (pa_call (pe_cB C_product_of (hr.mono (by decide)) pass01 (pa_sub (pe_ix ix_tup (pv 4) pe_int (fun _ _ => rfl)) (pa_sub (pe_ix ix_tup (pv 3) pe_int (fun _ _ => rfl)) pa_nil))) pa_nil))) pa_nil))))))) (pss_one (ps_ret (pe_cB C_quotient_of (hr.mono (by decide)) pass01 (pa_name (pv 1) (pa_tuple (pe_tup (pa_const pe_int (pa_const pe_int pa_nil))) pa_nil))))))), ?_⟩
  refine ⟨_, rfl, a, rfl, ⟨_, ha⟩, ?_⟩
  refine for_enum (K := K) (a := a) (xs := xs) (fun i σ H' => ∃ v1 c2 c3 c4, σ = [some (.ref a), some v1, c2, c3, c4] ∧ Same H H' ∧ DV K H' v1 (frD (twiceR cs i)) ∧ Bd (i * (4 * n + 2) + 1) (twiceR cs i)) ⟨_, _, _, _, rfl, Same.refl _, .tup (T.ex.s_NOUGHT _) (.cons (.int _) (.cons (.int _) .nil)), (⟨by decide +kernel, by decide +kernel⟩ : Bd 1 (0 : Rat)).mono (by omega)⟩ ?_ ?_ ?_
  · rintro i σ H' hi ⟨v1, c2, c3, c4, rfl, s1, _⟩
    exact ha.keep s1
  · rintro i x σ H' p hi ⟨vt, c2, c3, c4, rfl, s1, hvt, bvt⟩ hp
    have hlt' := lt_of_get hi
    have u2 := same_new hp (.tup [.int i, x])
    have s2 := s1.trans u2
    obtain ⟨v0, hv0, hd0⟩ := dvs_prev hxs (i := i) (by omega)
    obtain ⟨v1, hv1, hd1⟩ := dvs_ray hxs (i := i) (by omega)
    cases hi.symm.trans hv1
    refine ⟨p, _, rfl, SqT.of upd_same, rfl, _, _, rfl, _, _, rfl, rfl, ?_⟩
    have m1 := bc _ (prevR_mem (cs := cs) (i := i) (by omega))
    have m2 := bc _ (atR_mem (cs := cs) (i := i) (by omega))
    have hle : (i + 1) * (4 * n + 2) + 1 ≤ 3900 := Nat.le_trans (Nat.add_le_add_right (Nat.mul_le_mul_right _ (show i + 1 ≤ cs.length by omega)) 1) hcs
    have hle' : i * (4 * n + 2) + 1 ≤ 3900 := Nat.le_trans (Nat.add_le_add_right (Nat.mul_le_mul_right _ (show i ≤ i + 1 by omega)) 1) hle
    refine ⟨_, rfl, _, rfl, _, _, rfl, rfl, a, _, _, v0, rfl, rfl, ha.keep s2, hv0, ?_⟩
    have hd0 := hd0.keep s2
    have hd1 := hd1.keep s2
    have hvt := hvt.keep u2
    generalize upd H' p (.tup [.int i, x]) = H2 at s2 hd0 hd1 hvt ⊢
    obtain ⟨b0, x1, x2, rfl, hb0, hx1, hx2⟩ := DV.t2 hd0
    obtain ⟨b1, y1, y2, rfl, hb1, hy1, hy2⟩ := DV.t2 hd1
    refine ⟨_, rfl, _, rfl, b0, _, _, _, rfl, rfl, hb0, rfl, _, rfl, b1, _, _, _, rfl, rfl, hb1, rfl, _, _, .cons hx1 (.cons hy2 .nil), ⟨_, _, rfl, m1.y.sm (by omega), m2.u.sm (by omega), rfl⟩, fun w1 H3 s3 hw1 => ?_⟩
    refine ⟨_, rfl, b0, _, _, _, rfl, rfl, hb0.keep s3, rfl, _, rfl, b1, _, _, _, rfl, rfl, hb1.keep s3, rfl, _, _, .cons (hx2.keep s3) (.cons (hy1.keep s3) .nil), ⟨_, _, rfl, m1.u.sm (by omega), m2.y.sm (by omega), rfl⟩, fun w2 H4 s4 hw2 => ?_⟩
    have e1 := m1.y.mul m2.u
    have e2 := m1.u.mul m2.y
    refine ⟨_, _, .cons (hw1.keep s4) (.cons hw2 .nil), ⟨_, _, rfl, e1.sm (by omega), e2.sm (by omega), rfl⟩, fun w3 H5 s5 hw3 => ?_⟩
    have e3 := e1.sub e2
    have s25 := s3.trans (s4.trans s5)
    refine ⟨_, _, .cons (hvt.keep s25) (.cons hw3 .nil), ⟨_, _, rfl, bvt.sm (by omega), e3.sm (by omega), rfl⟩, fun w4 H6 s6 hw4 => ?_⟩
    refine ⟨_, _, _, _, rfl, s2.trans (s25.trans s6), hw4, (bvt.add e3).mono ?_⟩
    have e := Nat.succ_mul i (4 * n + 2)
    rw [Nat.succ_eq_add_one] at e
    omega
  · rintro σ H' ⟨vt, c2, c3, c4, rfl, s1, hvt, bvt⟩
    rw [hl] at hvt bvt
    refine ⟨_, rfl, (by show 2 ≤ sizeLine; decide), fun p hp => ?_⟩
    have u2 := same_new hp (.tup [.int 2, .int 1])
    refine ⟨_, _, .cons (hvt.keep u2) (.cons (.tup (SqT.of upd_same) (.cons (.int _) (.cons (.int _) .nil))) .nil), ⟨_, 2, rfl, bvt.sm (by omega), ⟨by decide +kernel, by decide +kernel⟩, by decide +kernel, rfl⟩, fun v H3 s3 hv => ?_⟩
    exact k _ _ (s1.trans (u2.trans s3)) hv
end
end K45
namespace K45
open PySem L2 Lib Fr Op
seal PE PT PW PA PS PSs PG PGs PI PO PIfs
def spHalf (K : PySem.W.Frag) : Sp := fun vs H Q _ => ∃ z : Int, vs = [.int z] ∧ ∀ v H', Same H H' → DV K H' v (frD (hv z)) → Q v H'
def spFar45 : Sp := fun vs H Q _ => ∃ z : Int, vs = [.int z] ∧ ∀ (x : Int) H', 0 ≤ x → x < 1000000000 → Same H H' → Q (.int x) H'
def spRay45 (K : PySem.W.Frag) : Sp := fun vs H Q _ => ∃ y u : Int, vs = [.int y, .int u] ∧ ∀ v H', Same H H' → DV K H' v (rayD (ryH y u)) → Q v H'
structure Shp (y u w s l : Int) : Prop where
  y0 : -5 ≤ y
  y1 : y < 1000000000
  u0 : -1000000000 < u
  u1 : u ≤ 7
  w0 : 2 ≤ w
  w1 : w ≤ 100
  s0 : 2 ≤ s
  s1 : s ≤ 100
  l0 : -3 ≤ l
  l1 : l ≤ 3
def spShape : Sp := fun vs H Q _ => ∃ z : Int, vs = [.int z] ∧ ∀ (p : Addr) H' y u w s l, Shp y u w s l → Same H H' → H' p = some (.tup [.int y, .int u, .int w, .int s, .int l]) → Q (.ref p) H'
def spCorn (K : PySem.W.Frag) : Sp := fun vs H Q _ => ∃ (k : Int) (p : Addr) (y u w s l : Int), vs = [.int k, .ref p] ∧ 0 ≤ k ∧ k < 5 ∧ Shp y u w s l ∧ H p = some (.tup [.int y, .int u, .int w, .int s, .int l]) ∧ ∀ (a : Addr) H' xs, Same H H' → H' a = some (.lst xs) → DVs K H' xs ((cornH k y u w s l).map rayD) → Q (.ref a) H'
def spDue45 : Sp := fun vs H Q _ => ∃ (k : Int) (p : Addr) (y u w s l r up : Int), vs = [.int k, .ref p, .int r, .int up] ∧ 0 ≤ k ∧ k < 5 ∧ Shp y u w s l ∧ H p = some (.tup [.int y, .int u, .int w, .int s, .int l]) ∧ Q (.bl (dueH k w s r up)) H
def spSize45 (K : PySem.W.Frag) : Sp := fun vs H Q _ => ∃ (k : Int) (p : Addr) (y u w s l : Int), vs = [.int k, .ref p] ∧ 0 ≤ k ∧ k < 5 ∧ Shp y u w s l ∧ H p = some (.tup [.int y, .int u, .int w, .int s, .int l]) ∧ ∀ v H', Same H H' → DV K H' v (frD (sizH k w s)) → Q v H'
theorem lim_big {n : Nat} (h : n < 2 ^ 60) : n < lim := Nat.lt_of_lt_of_le h (by unfold lim; exact pow_le (by decide))
section
variable {P : Program} {w : World} {K : PySem.W.Frag} {mg : Str → Option Value} {base : Heap} {ad : Adr} {c : Bool}
theorem c__law_mix (T : Txt K mg ad) : CalB P w K mg base true 1 "_law_mix" ["_law_cell", "_law_by", "_law_many"] spMixG := by
  refine T.t__law_mix.calN sc__law_mix (fun _ _ _ _ _ _ => by3 fun _ _ _ => rfl) (fun vs H Q E h => ?_) (fun f cdv A outer s H vs Q E hr h => ?_)
  · obtain ⟨_, _, _, rfl, _⟩ := h; rfl
  obtain ⟨z, b, m, rfl, b0, b1, m0, q⟩ := h
  refine ⟨_, (pss_one (ps_ret (pe_op op_mod (pe_op op_fdiv (pe_op op_mod (pe_op op_add (pe_op op_mul (pe_op op_mod (pv 0) pe_int) (pv 1)) (pv 1)) pe_int) pe_int) (pv 2)))), ?_⟩
  have fin : ∀ x : Int, Q (.int (x % m)) H := fun x => q _ (Int.emod_nonneg _ (by omega)) (Int.emod_lt_of_pos _ m0)
  have p32 : (2 : Int) ^ 32 = 4294967296 := by decide
  exact ⟨_, rfl, _, _, rfl, rfl, (by show (0 : Int) < 1000003; decide), _, rfl, _, _, rfl, rfl, .inr ⟨by omega, by omega⟩, _, rfl, _, _, rfl, rfl, _, _, rfl, rfl, (by show (0 : Int) < 2147483629; decide), _, _, rfl, rfl, ⟨by decide, by decide⟩, _, rfl, _, _, rfl, rfl, m0, fin _⟩
theorem c__law_halves (T : Txt K mg ad) : CalB P w K mg base true 3 "_law_halves" ["_law_number"] (spHalf K) := by
  have C_ratio_of := c_ratio_of (P := P) (w := w) (base := base) T
  refine T.t__law_halves.calN sc__law_halves (fun _ _ _ _ _ _ => by1 fun _ => rfl) (fun vs H Q E h => ?_) (fun f cdv A outer s H vs Q E hr h => ?_)
  · obtain ⟨_, rfl, _⟩ := h; rfl
  obtain ⟨z, rfl, q⟩ := h
  refine ⟨_, (pss_one (ps_ret (pe_cB C_ratio_of (hr.mono (by decide)) pass01 (pa_name (pv 0) (pa_const pe_int pa_nil))))), ?_⟩
  exact ⟨_, rfl, z, 2, rfl, by decide, lim_big (by decide), fun p hp => q _ _ (same_new hp _) (dv_low (by decide))⟩
theorem c__law_far (T : Txt K mg ad) : CalB P w K mg base true 2 "_law_far" ["_law_cell"] spFar45 := by
  have C__law_mix := c__law_mix (P := P) (w := w) (base := base) T
  refine T.t__law_far.calN sc__law_far (fun _ _ _ _ _ _ => by1 fun _ => rfl) (fun vs H Q E h => ?_) (fun f cdv A outer s H vs Q E hr h => ?_)
  · obtain ⟨_, rfl, _⟩ := h; rfl
  obtain ⟨z, rfl, q⟩ := h
  refine ⟨_, (pss_one (ps_ret (pe_ix ix_list (pe_lst (pa_call (pe_cB C__law_mix (hr.mono (by decide)) pass01 (pa_name (pv 0) (pa_const pe_int (pa_const pe_int pa_nil)))) (pa_call (pe_cB C__law_mix (hr.mono (by decide)) pass01 (pa_name (pv 0) (pa_const pe_int (pa_const pe_int pa_nil)))) (pa_bin (pe_op op_mod (pe_op op_fdiv (pv 0) pe_int) (pe_op op_pow pe_int pe_int)) pa_nil)))) (pe_cB C__law_mix (hr.mono (by decide)) pass01 (pa_name (pv 0) (pa_const pe_int (pa_const pe_int pa_nil)))) (fun _ _ => rfl)))), ?_⟩
  refine ⟨_, rfl, z, _, _, rfl, by decide, by decide, by decide, fun x x0 x1 => ?_⟩
  refine ⟨_, rfl, z, _, _, rfl, by decide, by decide, by decide, fun y y0 y1 => ?_⟩
  refine ⟨_, rfl, _, _, rfl, rfl, ⟨by decide, by decide⟩, _, _, rfl, rfl, ⟨by decide, by decide, by decide⟩, _, _, rfl, rfl, (by show (0 : Int) < 10 ^ Int.toNat 9; decide), ?_⟩
  have g0 := Int.emod_nonneg (z / 3) (show (10 : Int) ^ Int.toNat 9 ≠ 0 by decide)
  have g1 := Int.emod_lt_of_pos (z / 3) (show (0 : Int) < 10 ^ Int.toNat 9 by decide)
  have e9 : (10 : Int) ^ Int.toNat 9 = 1000000000 := by decide
  dsimp only
  generalize z / 3 % 10 ^ Int.toNat 9 = g at g0 g1 ⊢
  refine ⟨(by show 3 ≤ sizeLine; decide), fun p hp => ?_⟩
  have u1 := same_new hp (.lst [.int x, .int y, .int g])
  refine ⟨_, rfl, z, _, _, rfl, by decide, by decide, by decide, fun j j0 j1 => ?_⟩
  obtain ⟨v, hv, hm⟩ := atI_in (xs := [V.int x, V.int y, V.int g]) (r := j) j0 (by simp only [List.length_cons, List.length_nil]; omega)
  refine ⟨p, _, _, v, rfl, rfl, SqL.of upd_same, hv, ?_⟩
  simp only [List.mem_cons, List.not_mem_nil, or_false] at hm
  rcases hm with rfl | rfl | rfl
  · exact q _ _ x0 (by omega) u1
  · exact q _ _ y0 (by omega) u1
  · exact q _ _ g0 (by omega) u1
theorem c__law_ray (T : Txt K mg ad) : CalB P w K mg base true 4 "_law_ray" ["_law_y", "_law_u"] (spRay45 K) := by
  have C__law_halves := c__law_halves (P := P) (w := w) (base := base) T
  refine T.t__law_ray.calN sc__law_ray (fun _ _ _ _ _ _ => by2 fun _ _ => rfl) (fun vs H Q E h => ?_) (fun f cdv A outer s H vs Q E hr h => ?_)
  · obtain ⟨_, _, rfl, _⟩ := h; rfl
  obtain ⟨y, u, rfl, q⟩ := h
  refine ⟨_, (pss_one (ps_ret (pe_tup (pa_call (pe_cB C__law_halves (hr.mono (by decide)) pass01 (pa_name (pv 0) pa_nil)) (pa_call (pe_cB C__law_halves (hr.mono (by decide)) pass01 (pa_name (pv 1) pa_nil)) pa_nil))))), ?_⟩
  refine ⟨_, rfl, y, rfl, fun v1 H1 s1 h1 => ⟨_, rfl, u, rfl, fun v2 H2 s2 h2 => ⟨(by show 2 ≤ sizeLine; decide), fun p hp => ?_⟩⟩⟩
  exact q _ _ (s1.trans (s2.trans (same_new hp _))) (DV.upd2 hp (h1.keep s2) h2)
theorem c__law_shape (T : Txt K mg ad) : CalB P w K mg base true 3 "_law_shape" ["_law_cell"] spShape := by
  have C__law_mix := c__law_mix (P := P) (w := w) (base := base) T
  have C__law_far := c__law_far (P := P) (w := w) (base := base) T
  refine T.t__law_shape.calN sc__law_shape (fun _ _ _ _ _ _ => by1 fun _ => rfl) (fun vs H Q E h => ?_) (fun f cdv A outer s H vs Q E hr h => ?_)
  · obtain ⟨_, rfl, _⟩ := h; rfl
  obtain ⟨z, rfl, q⟩ := h
  refine ⟨_, (pss_cons (ps_set (i := 1) sc__law_shape.nd rfl (by first | exact Or.inl rfl | exact Or.inr rfl) (pe_op op_sub (pe_cB C__law_far (hr.mono (by decide)) pass01 (pa_name (pv 0) pa_nil)) pe_int)) (pss_cons (ps_set (i := 2) sc__law_shape.nd rfl (by first | exact Or.inl rfl | exact Or.inr rfl) (pe_op op_sub pe_int (pe_cB C__law_far (hr.mono (by decide)) pass01 (pa_bin (pe_op op_fdiv (pv 0) pe_int) pa_nil)))) (pss_cons (ps_set (i := 3) sc__law_shape.nd rfl (Or.inl rfl) (pe_op op_mul pe_int (pe_op op_add pe_int (pe_op op_mod (pe_cB C__law_far (hr.mono (by decide)) pass01 (pa_bin (pe_op op_fdiv (pv 0) pe_int) pa_nil)) pe_int)))) (pss_cons (ps_set (i := 4) sc__law_shape.nd rfl (Or.inl rfl) (pe_op op_mul pe_int (pe_op op_add pe_int (pe_op op_mod (pe_cB C__law_far (hr.mono (by decide)) pass01 (pa_bin (pe_op op_fdiv (pv 0) pe_int) pa_nil)) pe_int)))) (pss_cons (ps_set (i := 5) sc__law_shape.nd rfl (Or.inl rfl) (pe_op op_sub (pe_cB C__law_mix (hr.mono (by decide)) pass01 (pa_name (pv 0) (pa_const pe_int (pa_const pe_int pa_nil)))) pe_int)) (pss_one (ps_ret (pe_tup (pa_name (pv 1) (pa_name (pv 2) (pa_name (pv 3) (pa_name (pv 4) (pa_name (pv 5) pa_nil))))))))))))), ?_⟩
  refine ⟨_, rfl, z, rfl, fun y H1 y0 y1 s1 => ⟨_, _, rfl, rfl, ?_⟩⟩
  refine ⟨_, rfl, _, _, rfl, rfl, ⟨by decide, by decide⟩, _, rfl, fun u H2 u0 u1 s2 => ⟨_, _, rfl, rfl, ?_⟩⟩
  refine ⟨_, rfl, _, _, rfl, rfl, ⟨by decide, by decide⟩, _, rfl, fun a H3 a0 a1 s3 => ⟨_, _, rfl, rfl, (by show (0 : Int) < 50; decide), _, _, rfl, rfl, _, _, rfl, rfl, .inl ⟨by decide, by decide⟩, ?_⟩⟩
  refine ⟨_, rfl, _, _, rfl, rfl, ⟨by decide, by decide⟩, _, rfl, fun b H4 b0 b1 s4 => ⟨_, _, rfl, rfl, (by show (0 : Int) < 50; decide), _, _, rfl, rfl, _, _, rfl, rfl, .inl ⟨by decide, by decide⟩, ?_⟩⟩
  refine ⟨_, rfl, z, _, _, rfl, by decide, by decide, by decide, fun d d0 d1 => ⟨_, _, rfl, rfl, ?_⟩⟩
  refine ⟨_, rfl, _, rfl, _, rfl, _, rfl, _, rfl, (by show 5 ≤ sizeLine; decide), fun p hp => ?_⟩
  exact q p _ _ _ _ _ _ ⟨by omega, by omega, by omega, by omega, by omega, by omega, by omega, by omega, by omega, by omega⟩ (s1.trans (s2.trans (s3.trans (s4.trans (same_new hp _))))) upd_same
theorem c__law_corners (T : Txt K mg ad) : CalB P w K mg base true 5 "_law_corners" ["_law_kind", "_law_shape_here"] (spCorn K) := by
  have C__law_ray := c__law_ray (P := P) (w := w) (base := base) T
  refine T.t__law_corners.calN sc__law_corners (fun _ _ _ _ _ _ => by2 fun _ _ => rfl) (fun vs H Q E h => ?_) (fun f cdv A outer s H vs Q E hr h => ?_)
  · obtain ⟨_, _, _, _, _, _, _, rfl, _⟩ := h; rfl
  obtain ⟨k, p, y, u, w_, s_, l, rfl, k0, k1, sh, hp, q⟩ := h
  have ml : CMul l w_ := .inl ⟨by have := sh.l0; omega, by have := sh.l1; omega⟩
  refine ⟨_, (pss_cons (ps_asg (pv 1) (pg_tup (n := 5) rfl (pgs_cons (pg_name (i := 2) sc__law_corners.nd rfl (by first | exact Or.inl rfl | exact Or.inr rfl)) (pgs_cons (pg_name (i := 3) sc__law_corners.nd rfl (by first | exact Or.inl rfl | exact Or.inr rfl)) (pgs_cons (pg_name (i := 4) sc__law_corners.nd rfl (by first | exact Or.inl rfl | exact Or.inr rfl)) (pgs_cons (pg_name (i := 5) sc__law_corners.nd rfl (by first | exact Or.inl rfl | exact Or.inr rfl)) (pgs_cons (pg_name (i := 6) sc__law_corners.nd rfl (by first | exact Or.inl rfl | exact Or.inr rfl)) pgs_nil))))))) (pss_cons (ps_if (pt_cmpR op_eq (pv 0) pe_int (nomark _)) (pss_one (ps_ret (pe_lst pa_nil))) pss_nil) (pss_cons (ps_if (pt_cmpR op_eq (pv 0) pe_int (nomark _)) (pss_one (ps_ret (pe_lst (pa_call (pe_cB C__law_ray (hr.mono (by decide)) pass01 (pa_name (pv 2) (pa_name (pv 3) pa_nil))) pa_nil)))) pss_nil) (pss_cons (ps_if (pt_cmpR op_eq (pv 0) pe_int (nomark _)) (pss_one (ps_ret (pe_lst (pa_call (pe_cB C__law_ray (hr.mono (by decide)) pass01 (pa_name (pv 2) (pa_name (pv 3) pa_nil))) (pa_call (pe_cB C__law_ray (hr.mono (by decide)) pass01 (pa_bin (pe_op op_add (pv 2) (pv 4)) (pa_bin (pe_op op_add (pv 3) (pe_op op_mul (pv 6) (pv 4))) pa_nil))) pa_nil))))) pss_nil) (pss_cons (ps_if (pt_cmpR op_eq (pv 0) pe_int (nomark _)) (pss_one (ps_ret (pe_lst (pa_call (pe_cB C__law_ray (hr.mono (by decide)) pass01 (pa_name (pv 2) (pa_name (pv 3) pa_nil))) (pa_call (pe_cB C__law_ray (hr.mono (by decide)) pass01 (pa_bin (pe_op op_add (pv 2) (pv 4)) (pa_bin (pe_op op_add (pv 3) (pe_op op_mul (pv 6) (pv 4))) pa_nil))) (pa_call (pe_cB C__law_ray (hr.mono (by decide)) pass01 (pa_name (pv 2) (pa_bin (pe_op op_add (pv 3) (pv 5)) pa_nil))) pa_nil)))))) pss_nil) (pss_cons (ps_set (i := 7) sc__law_corners.nd rfl (Or.inl rfl) (pe_lst (pa_call (pe_cB C__law_ray (hr.mono (by decide)) pass01 (pa_bin (pe_op op_add (pv 2) (pv 4)) (pa_bin (pe_op op_add (pe_op op_add (pv 3) (pe_op op_mul (pv 6) (pv 4))) (pv 5)) pa_nil))) (pa_call (pe_cB C__law_ray (hr.mono (by decide)) pass01 (pa_name (pv 2) (pa_bin (pe_op op_add (pv 3) (pv 5)) pa_nil))) pa_nil)))) (pss_one (ps_ret (pe_op op_cat (pe_lst (pa_call (pe_cB C__law_ray (hr.mono (by decide)) pass01 (pa_name (pv 2) (pa_name (pv 3) pa_nil))) (pa_call (pe_cB C__law_ray (hr.mono (by decide)) pass01 (pa_bin (pe_op op_add (pv 2) (pv 4)) (pa_bin (pe_op op_add (pv 3) (pe_op op_mul (pv 6) (pv 4))) pa_nil))) pa_nil))) (pv 7)))))))))), ?_⟩
  refine ⟨_, rfl, p, _, rfl, SqT.of hp, rfl, _, _, rfl, _, _, rfl, _, _, rfl, _, _, rfl, _, _, rfl, rfl, ?_⟩
  refine ⟨_, rfl, rfl, _, rfl, ?_⟩
  by_cases e0 : k = 0
  · subst e0
    refine iteT' (by decide) ?_
    refine ⟨(by show 0 ≤ sizeLine; decide), fun a ha => ?_⟩
    exact q a _ [] (same_new ha _) upd_same .nil
  refine iteF' (decide_eq_false fun e => e0 (V.int.inj e)) ?_
  refine ⟨_, rfl, rfl, _, rfl, ?_⟩
  by_cases e1 : k = 1
  · subst e1
    refine iteT' (by decide) ?_
    refine ⟨_, rfl, _, rfl, _, _, rfl, fun v1 H1 s1 h1 => ⟨(by show 1 ≤ sizeLine; decide), fun a ha => ?_⟩⟩
    have ua := same_new ha (.lst [v1])
    exact q a _ [v1] (s1.trans ua) upd_same (.cons (h1.keep ua) .nil)
  refine iteF' (decide_eq_false fun e => e1 (V.int.inj e)) ?_
  refine ⟨_, rfl, rfl, _, rfl, ?_⟩
  by_cases e2 : k = 2
  · subst e2
    refine iteT' (by decide) ?_
    refine ⟨_, rfl, _, rfl, _, _, rfl, fun v1 H1 s1 h1 => ?_⟩
    refine ⟨_, rfl, _, rfl, _, _, rfl, rfl, _, rfl, _, rfl, _, rfl, _, _, rfl, rfl, ml, _, _, rfl, rfl, _, _, rfl, fun v2 H2 s2 h2 => ⟨(by show 2 ≤ sizeLine; decide), fun a ha => ?_⟩⟩
    have ua := same_new ha (.lst [v1, v2])
    exact q a _ [v1, v2] (s1.trans (s2.trans ua)) upd_same (.cons (h1.keep (s2.trans ua)) (.cons (h2.keep ua) .nil))
  refine iteF' (decide_eq_false fun e => e2 (V.int.inj e)) ?_
  refine ⟨_, rfl, rfl, _, rfl, ?_⟩
  by_cases e3 : k = 3
  · subst e3
    refine iteT' (by decide) ?_
    refine ⟨_, rfl, _, rfl, _, _, rfl, fun v1 H1 s1 h1 => ?_⟩
    refine ⟨_, rfl, _, rfl, _, _, rfl, rfl, _, rfl, _, rfl, _, rfl, _, _, rfl, rfl, ml, _, _, rfl, rfl, _, _, rfl, fun v2 H2 s2 h2 => ?_⟩
    refine ⟨_, rfl, _, rfl, _, rfl, _, _, rfl, rfl, _, _, rfl, fun v3 H3 s3 h3 => ⟨(by show 3 ≤ sizeLine; decide), fun a ha => ?_⟩⟩
    have ua := same_new ha (.lst [v1, v2, v3])
    exact q a _ [v1, v2, v3] (s1.trans (s2.trans (s3.trans ua))) upd_same (.cons (h1.keep (s2.trans (s3.trans ua))) (.cons (h2.keep (s3.trans ua)) (.cons (h3.keep ua) .nil)))
  refine iteF' (decide_eq_false fun e => e3 (V.int.inj e)) ?_
  obtain rfl : k = 4 := by omega
  refine ⟨_, rfl, _, rfl, _, _, rfl, rfl, _, rfl, _, rfl, _, rfl, _, _, rfl, rfl, ml, _, _, rfl, rfl, _, rfl, _, _, rfl, rfl, _, _, rfl, fun v3 H1 s1 h3 => ?_⟩
  refine ⟨_, rfl, _, rfl, _, rfl, _, _, rfl, rfl, _, _, rfl, fun v4 H2 s2 h4 => ⟨(by show 2 ≤ sizeLine; decide), fun a ha => ?_⟩⟩
  have ua := same_new ha (.lst [v3, v4])
  have la : (upd H2 a (.lst [v3, v4])) a = some (.lst [v3, v4]) := upd_same
  have s2a := s2.trans ua
  have h4 := h4.keep ua
  generalize upd H2 a (.lst [v3, v4]) = H3 at ua la s2a h4 ⊢
  refine ⟨_, rfl, _, rfl, _, _, rfl, fun v1 H4 s4 h1 => ?_⟩
  refine ⟨_, rfl, _, rfl, _, _, rfl, rfl, _, rfl, _, rfl, _, rfl, _, _, rfl, rfl, ml, _, _, rfl, rfl, _, _, rfl, fun v2 H5 s5 h2 => ⟨(by show 2 ≤ sizeLine; decide), fun b hb => ?_⟩⟩
  have ub := same_new hb (.lst [v1, v2])
  refine ⟨_, rfl, b, a, _, _, rfl, rfl, upd_same, (s4.trans (s5.trans ub)) _ _ la, (by show 4 ≤ sizeLine; decide), fun e he => ?_⟩
  have ue := same_new he (.lst ([v1, v2] ++ [v3, v4]))
  have t3 := s4.trans (s5.trans (ub.trans ue))
  exact q e _ _ (s1.trans (s2a.trans t3)) upd_same (.cons (h1.keep (s5.trans (ub.trans ue))) (.cons (h2.keep (ub.trans ue)) (.cons (h3.keep (s2a.trans t3)) (.cons (h4.keep t3) .nil))))
theorem c__law_due (T : Txt K mg ad) : CalB P w K mg base true 1 "_law_due" ["_law_kind", "_law_shape_here", "_law_right", "_law_up"] spDue45 := by
  refine T.t__law_due.calN sc__law_due (fun _ _ _ _ _ _ => by4 fun _ _ _ _ => rfl) (fun vs H Q E h => ?_) (fun f cdv A outer s H vs Q E hr h => ?_)
  · obtain ⟨_, _, _, _, _, _, _, _, _, rfl, _⟩ := h; rfl
  obtain ⟨k, p, y, u, w_, s_, l, r, up, rfl, k0, k1, sh, hp, q⟩ := h
  have mw : ∀ x, CMul x w_ := fun x => .inr ⟨by have := sh.w0; omega, by have := sh.w1; omega⟩
  have ms : ∀ x, CMul x s_ := fun x => .inr ⟨by have := sh.s0; omega, by have := sh.s1; omega⟩
  refine ⟨_, (pss_cons (ps_set (i := 4) sc__law_due.nd rfl (Or.inl rfl) (pe_ix ix_tup (pv 1) pe_int (fun _ _ => rfl))) (pss_cons (ps_set (i := 5) sc__law_due.nd rfl (Or.inl rfl) (pe_ix ix_tup (pv 1) pe_int (fun _ _ => rfl))) (pss_cons (ps_if (pt_cmpR op_eq (pv 0) pe_int (nomark _)) (pss_one (ps_ret pe_bl)) pss_nil) (pss_cons (ps_if (pt_cmpR op_eq (pv 0) pe_int (nomark _)) (pss_one (ps_ret (pe_and (pe_cmpR op_eq (pv 2) pe_int (nomark _)) (pe_one (pe_cmpR op_eq (pv 3) pe_int (nomark _)))))) pss_nil) (pss_cons (ps_if (pt_cmpR op_eq (pv 0) pe_int (nomark _)) (pss_one (ps_ret (pe_and (pe_chain op_le op_le pe_int (pv 2) (pv 4)) (pe_one (pe_cmpR op_eq (pv 3) pe_int (nomark _)))))) pss_nil) (pss_cons (ps_if (PW.pt (pw_or (pt_not (pt_chain op_le op_le pe_int (pv 2) (pv 4))) (pw_or1 (pt_cmpR op_lt (pv 3) pe_int (nomark _))))) (pss_one (ps_ret pe_bl)) pss_nil) (pss_cons (ps_if (pt_cmpR op_eq (pv 0) pe_int (nomark _)) (pss_one (ps_ret (pe_cmpR op_le (pe_op op_add (pe_op op_mul (pv 3) (pv 4)) (pe_op op_mul (pv 2) (pv 5))) (pe_op op_mul (pv 4) (pv 5)) (nomark _)))) pss_nil) (pss_one (ps_ret (pe_cmpR op_le (pv 3) (pv 5) (nomark _))))))))))), ?_⟩
  refine ⟨_, rfl, p, _, _, _, rfl, rfl, SqT.of hp, rfl, _, rfl, p, _, _, _, rfl, rfl, SqT.of hp, rfl, ?_⟩
  refine ⟨_, rfl, rfl, _, rfl, ?_⟩
  by_cases e0 : k = 0
  · subst e0
    exact iteT' (by decide) q
  refine iteF' (decide_eq_false fun e => e0 (V.int.inj e)) ?_
  refine ⟨_, rfl, rfl, _, rfl, ?_⟩
  by_cases e1 : k = 1
  · subst e1
    refine iteT' (by decide) ?_
    refine ⟨_, rfl, rfl, _, rfl, ?_⟩
    have q : Q (.bl (decide (r = 0) && decide (up = 0))) H := q
    by_cases r0 : r = 0
    · subst r0
      refine iteT' (by decide) ?_
      refine ⟨_, rfl, rfl, ?_⟩
      rw [decide_eq_true (rfl : (0 : Int) = 0), Bool.true_and] at q
      have e : decide (V.int up = V.int 0) = decide (up = 0) := decide_eq_decide.mpr ⟨V.int.inj, fun e => by rw [e]⟩
      dsimp only
      rw [e]
      exact q
    · rw [decide_eq_false r0, Bool.false_and] at q
      exact iteF' (decide_eq_false fun e => r0 (V.int.inj e)) q
  refine iteF' (decide_eq_false fun e => e1 (V.int.inj e)) ?_
  refine ⟨_, rfl, rfl, _, rfl, ?_⟩
  by_cases e2 : k = 2
  · subst e2
    refine iteT' (by decide) ?_
    have q : Q (.bl (decide (0 ≤ r) && decide (r ≤ w_) && decide (up = 0))) H := q
    refine ⟨_, rfl, _, _, rfl, rfl, _, rfl, ?_⟩
    cases c1 : decide (0 ≤ r) with
    | false => rw [c1, Bool.false_and, Bool.false_and] at q; exact iteF ⟨_, rfl, iteF q⟩
    | true =>
      refine iteT ?_
      refine ⟨_, rfl, _, _, rfl, rfl, _, rfl, ?_⟩
      cases c2 : decide (r ≤ w_) with
      | false => rw [c1, c2, Bool.true_and, Bool.false_and] at q; exact iteF q
      | true =>
        refine iteT ?_
        refine ⟨_, rfl, rfl, ?_⟩
        rw [c1, c2, Bool.true_and, Bool.true_and] at q
        have e : decide (V.int up = V.int 0) = decide (up = 0) := decide_eq_decide.mpr ⟨V.int.inj, fun e => by rw [e]⟩
        dsimp only
        rw [e]
        exact q
  refine iteF' (decide_eq_false fun e => e2 (V.int.inj e)) ?_
  have q : Q (.bl (if !(decide (0 ≤ r) && decide (r ≤ w_)) || decide (up < 0) then false else if k = 3 then decide (up * w_ + r * s_ ≤ w_ * s_) else decide (up ≤ s_))) H := by
    have : dueH k w_ s_ r up = (if !(decide (0 ≤ r) && decide (r ≤ w_)) || decide (up < 0) then false else if k = 3 then decide (up * w_ + r * s_ ≤ w_ * s_) else decide (up ≤ s_)) := by
      unfold dueH
      rw [if_neg e0, if_neg e1, if_neg e2]
    rw [this] at q
    exact q
  have last : (decide (0 ≤ r) && decide (r ≤ w_)) = true → decide (up < 0) = false → Q (.bl (if k = 3 then decide (up * w_ + r * s_ ≤ w_ * s_) else decide (up ≤ s_))) H := fun a b => by
    rw [a, b] at q
    exact q
  have bad : (decide (0 ≤ r) && decide (r ≤ w_)) = false ∨ decide (up < 0) = true → Q (.bl false) H := fun a => by
    have e : (!(decide (0 ≤ r) && decide (r ≤ w_)) || decide (up < 0)) = true := by
      rcases a with a | a <;> rw [a] <;> simp
    rw [if_pos e] at q
    exact q
  refine ⟨_, rfl, _, _, rfl, rfl, _, rfl, ?_⟩
  cases c1 : decide (0 ≤ r) with
  | false => exact iteF ⟨_, rfl, iteT (bad (.inl (by rw [c1]; rfl)))⟩
  | true =>
    refine iteT ?_
    refine ⟨_, rfl, _, _, rfl, rfl, _, rfl, ?_⟩
    cases c2 : decide (r ≤ w_) with
    | false => exact iteT (bad (.inl (by rw [c1, c2]; rfl)))
    | true =>
      refine iteF ?_
      refine ⟨_, rfl, _, _, rfl, rfl, _, rfl, ?_⟩
      cases c3 : decide (up < 0) with
      | true => exact iteT (bad (.inr c3))
      | false =>
        refine iteF ?_
        have last := last (by rw [c1, c2]; rfl) c3
        refine ⟨_, rfl, rfl, _, rfl, ?_⟩
        by_cases e3 : k = 3
        · subst e3
          refine iteT' (by decide) ?_
          exact ⟨_, rfl, _, rfl, _, _, rfl, rfl, mw _, _, rfl, _, rfl, _, _, rfl, rfl, ms _, _, _, rfl, rfl, _, rfl, _, rfl, _, _, rfl, rfl, ms _, _, _, rfl, rfl, last⟩
        · refine iteF' (decide_eq_false fun e => e3 (V.int.inj e)) ?_
          rw [if_neg e3] at last
          exact ⟨_, rfl, _, rfl, _, _, rfl, rfl, last⟩
theorem c__law_size (T : Txt K mg ad) : CalB P w K mg base true 3 "_law_size" ["_law_kind", "_law_shape_here"] (spSize45 K) := by
  have C_ratio_of := c_ratio_of (P := P) (w := w) (base := base) T
  refine T.t__law_size.calN sc__law_size (fun _ _ _ _ _ _ => by2 fun _ _ => rfl) (fun vs H Q E h => ?_) (fun f cdv A outer s H vs Q E hr h => ?_)
  · obtain ⟨_, _, _, _, _, _, _, rfl, _⟩ := h; rfl
  obtain ⟨k, p, y, u, w_, s_, l, rfl, k0, k1, sh, hp, q⟩ := h
  refine ⟨_, (pss_cons (ps_if (pt_cmpR op_lt (pv 0) pe_int (nomark _)) (pss_one (ps_ret (pe_tup (pa_const pe_int (pa_const pe_int pa_nil))))) pss_nil) (pss_one (ps_ret (pe_cB C_ratio_of (hr.mono (by decide)) pass01 (pa_bin (pe_op op_mul (pe_ix ix_tup (pv 1) pe_int (fun _ _ => rfl)) (pe_ix ix_tup (pv 1) pe_int (fun _ _ => rfl))) (pa_sub (pe_ix ix_list (pe_lst (pa_const pe_int (pa_const pe_int pa_nil))) (pe_op op_sub (pv 0) pe_int) (fun _ _ => rfl)) pa_nil)))))), ?_⟩
  refine ⟨_, rfl, _, _, rfl, rfl, _, rfl, ?_⟩
  by_cases e0 : k < 3
  · refine iteT' (decide_eq_true e0) ⟨(by show 2 ≤ sizeLine; decide), fun t ht => ?_⟩
    refine q _ _ (same_new ht _) ?_
    have : sizH k w_ s_ = 0 := by unfold sizH; rw [if_pos e0]
    rw [this]
    exact .tup (SqT.of upd_same) (.cons (.int _) (.cons (.int _) .nil))
  · refine iteF' (decide_eq_false e0) ?_
    have ms : CMul w_ s_ := .inr ⟨by have := sh.s0; omega, by have := sh.s1; omega⟩
    refine ⟨_, rfl, p, _, _, _, rfl, rfl, SqT.of hp, rfl, _, rfl, p, _, _, _, rfl, rfl, SqT.of hp, rfl, _, _, rfl, rfl, ms, (by show 2 ≤ sizeLine; decide), fun t ht => ?_⟩
    have ut := same_new ht (.lst [.int 8, .int 4])
    have hk : k = 3 ∨ k = 4 := by omega
    rcases hk with rfl | rfl
    · refine ⟨_, rfl, _, _, rfl, rfl, t, _, _, _, rfl, rfl, SqL.of upd_same, atI0, _, 8, rfl, by decide, lim_big (by decide), fun p hp => q _ _ (ut.trans (same_new hp _)) (dv_low (by decide))⟩
    · refine ⟨_, rfl, _, _, rfl, rfl, t, _, _, _, rfl, rfl, SqL.of upd_same, atI1, _, 4, rfl, by decide, lim_big (by decide), fun p hp => q _ _ (ut.trans (same_new hp _)) (dv_low (by decide))⟩
end
end K45
namespace K45
open PySem L2 Lib Fr Op
seal PE PT PW PA PS PSs PG PGs PI PO PIfs
def spArc : Sp := fun vs H Q _ => ∃ z : Int, vs = [.int z] ∧ ∀ H', Same H H' → Q (.bl true) H'
theorem bd_int {n : Nat} {z : Int} (h : z.natAbs < 2 ^ n) (n1 : 1 ≤ n) : Bd n (z : Rat) := ⟨by rw [Rat.num_intCast]; exact h, by rw [Rat.den_intCast]; exact Nat.lt_of_lt_of_le (show 1 < 2 ^ 1 by decide) (pow_le n1)⟩
theorem rn_I {y u : Int} (hy : y.natAbs < 2 ^ 34) (hu : u.natAbs < 2 ^ 34) : Rn 34 (ryI y u) := ⟨bd_int hy (by decide), bd_int hu (by decide)⟩
theorem dv_int1 {K : PySem.W.Frag} {H : Hp} {p : Addr} {z : Int} (h : H p = some (.tup [.int z, .int 1])) : DV K H (.ref p) (frD (z : Rat)) := by
  rw [frD_int]
  exact .tup (SqT.of h) (.cons (.int _) (.cons (.int _) .nil))
theorem dv_ray3 {K : PySem.W.Frag} {H : Hp} {p1 p2 p3 : Addr} {y u : Int} (h1 : H p1 = none) (h2 : (upd H p1 (.tup [.int y, .int 1])) p2 = none) (h3 : (upd (upd H p1 (.tup [.int y, .int 1])) p2 (.tup [.int u, .int 1])) p3 = none) :
    Same H (upd (upd (upd H p1 (.tup [.int y, .int 1])) p2 (.tup [.int u, .int 1])) p3 (.tup [.ref p1, .ref p2])) ∧ DV K (upd (upd (upd H p1 (.tup [.int y, .int 1])) p2 (.tup [.int u, .int 1])) p3 (.tup [.ref p1, .ref p2])) (.ref p3) (rayD (ryI y u)) := by
  have s1 := same_new h1 (.tup [.int y, .int 1])
  have s2 := same_new h2 (.tup [.int u, .int 1])
  have s3 := same_new h3 (.tup [.ref p1, .ref p2])
  exact ⟨s1.trans (s2.trans s3), .tup (SqT.of upd_same) (.cons (dv_int1 ((s2.trans s3) _ _ upd_same)) (.cons (dv_int1 (s3 _ _ upd_same)) .nil))⟩
theorem arc_take (y u : Int) (n i : Nat) (h : i ≤ n) : (arcR y u n).take (i + 1) = (arcR y u n).take i ++ [ryI (y + (i : Int)) (u + (i : Int) * (i : Int))] := by
  have e := arc_at y u h
  unfold atR at e
  have hl : i < (arcR y u n).length := by rw [arc_len]; omega
  rw [List.take_add_one, List.getElem?_eq_getElem hl]
  rw [List.getD_eq_getElem?_getD, List.getElem?_eq_getElem hl] at e
  simp only [Option.getD_some] at e
  rw [e]
  rfl
theorem sq_le {x m : Int} (h0 : -1 ≤ x) (h1 : x ≤ m) (hm : 1 ≤ m) : 0 ≤ x * x ∧ x * x ≤ m * m := by
  by_cases c : 0 ≤ x
  · exact ⟨Int.mul_nonneg c c, Int.mul_le_mul h1 h1 c (by omega)⟩
  · obtain rfl : x = -1 := by omega
    have := Int.mul_le_mul hm hm (by decide) (by omega : 0 ≤ m)
    omega
section
variable {P : Program} {w : World} {K : PySem.W.Frag} {mg : Str → Option Value} {base : Heap} {ad : Adr} {c : Bool}
abbrev arcB : List Stmt := forBody ((defBody s__law_arc_good).getD 5 (.Pass ⟨0, 0, 0, 0⟩))
theorem l_arc (T : Txt K mg ad) {f : Addr} {cdv : Value} {A : Around} {outer : List Env} {s : Shared} {H : Hp} {E : XK} (hr : RoomB true 5 (cxB true P w K mg base ["_law_cell", "_law_many", "_law_y", "_law_u", "_law_corners_here", "_law_k", "_law_right", "_law_up", "_law_due_here"] "_law_arc_good" (defScope s__law_arc_good) f cdv A outer s H E).nox.A) : ∃ tr, PSs (cxB true P w K mg base ["_law_cell", "_law_many", "_law_y", "_law_u", "_law_corners_here", "_law_k", "_law_right", "_law_up", "_law_due_here"] "_law_arc_good" (defScope s__law_arc_good) f cdv A outer s H E).nox (arcB.drop 3) tr ∧
    ∀ (z yy uu r p : Int) (n : Nat) (l : Addr) (c5 : Option V) (b : Bool) (H4 H8 : Hp) (D : Ends), 3 ≤ n → n ≤ 20 → -1 ≤ r → r ≤ (n : Int) + 1 → (yy.natAbs < 2 ^ 32 ∧ uu.natAbs < 2 ^ 32) → (-100 ≤ p ∧ p ≤ 1000) → (∀ c ∈ arcR yy uu n, Rn 34 c) →
      (∀ H', Same H4 H' → DV K H' (.ref l) (.list ((arcR yy uu n).map rayD))) → Same H4 H8 → b = (decide (0 ≤ r) && decide (r ≤ (n : Int)) && (decide (r * r ≤ p) && decide (p ≤ (n : Int) * r))) →
      (∀ H9, Same H4 H9 → D.nx [some (.int z), some (.int n), some (.int yy), some (.int uu), some (.ref l), c5, some (.int r), some (.int p), some (.bl b)] H9) →
      tr D [some (.int z), some (.int n), some (.int yy), some (.int uu), some (.ref l), c5, some (.int r), some (.int p), some (.bl b)] H8 := by
  have C_is_within := c_is_within (P := P) (w := w) (base := base) T
  refine ⟨_, (pss_one (ps_if (pt_cmpR op_ne (pe_cB C_is_within (hr.mono (by decide)) pass01 (pa_name (pv 4) (pa_tuple (pe_tup (pa_tuple (pe_tup (pa_bin (pe_op op_add (pv 2) (pv 6)) (pa_const pe_int pa_nil))) (pa_tuple (pe_tup (pa_bin (pe_op op_add (pv 3) (pv 7)) (pa_const pe_int pa_nil))) pa_nil))) pa_nil))) (pv 8) (nomark _)) (pss_one (ps_ret pe_bl)) pss_nil)), ?_⟩
  intro z yy uu r p n l c5 b H4 H8 D n3 n20 r0 r1 yb pb rbs dL s8 hb q
  have p34 : (2 : Nat) ^ 34 = 17179869184 := by decide
  have p32 : (2 : Nat) ^ 32 = 4294967296 := by decide
  refine ⟨_, rfl, _, rfl, _, rfl, _, _, rfl, rfl, (by show 2 ≤ sizeLine; decide), fun p1 hp1 => ?_⟩
  refine ⟨_, rfl, _, rfl, _, _, rfl, rfl, (by show 2 ≤ sizeLine; decide), fun p2 hp2 => ⟨(by show 2 ≤ sizeLine; decide), fun p3 hp3 => ?_⟩⟩
  obtain ⟨s3, d3⟩ := dv_ray3 (K := K) hp1 hp2 hp3
  refine ⟨_, _, .cons (dL _ (s8.trans s3)) (.cons d3 .nil), ⟨_, _, 34, rfl, rbs, rn_I (by omega) (by omega), by decide, by rw [arc_len]; omega, rfl⟩, fun v H9 s9 hv => ?_⟩
  obtain rfl := hv.bl_of
  rw [within_arc yy uu r p n n3 r0 r1, ← hb]
  refine ⟨_, rfl, rfl, _, rfl, iteF' (by simp) (q _ (s8.trans (s3.trans s9)))⟩
theorem c__law_arc_good (T : Txt K mg ad) : CalB P w K mg base true 6 "_law_arc_good" ["_law_cell"] spArc := by
  have C__law_mix := c__law_mix (P := P) (w := w) (base := base) T
  have C__law_far := c__law_far (P := P) (w := w) (base := base) T
  have C_size_of := c_size_of (P := P) (w := w) (base := base) T
  have C_ratio_of := c_ratio_of (P := P) (w := w) (base := base) T
  have C_is_within := c_is_within (P := P) (w := w) (base := base) T
  refine T.t__law_arc_good.calN sc__law_arc_good (fun _ _ _ _ _ _ => by1 fun _ => rfl) (fun vs H Q E h => ?_) (fun f cdv A outer s H vs Q E hr h => ?_)
  · obtain ⟨_, rfl, _⟩ := h; rfl
  obtain ⟨z, rfl, q⟩ := h
  obtain ⟨tR, hR, kR⟩ := l_arc (P := P) (w := w) (base := base) (f := f) (cdv := cdv) (A := A) (outer := outer) (s := s) (H := H) (E := E) T hr
  refine ⟨_, (pss_cons (ps_set (i := 1) sc__law_arc_good.nd rfl (by first | exact Or.inl rfl | exact Or.inr rfl) (pe_op op_add pe_int (pe_cB C__law_mix (hr.mono (by decide)) pass01 (pa_name (pv 0) (pa_const pe_int (pa_const pe_int pa_nil)))))) (pss_cons (ps_set (i := 2) sc__law_arc_good.nd rfl (by first | exact Or.inl rfl | exact Or.inr rfl) (pe_op op_sub (pe_cB C__law_far (hr.mono (by decide)) pass01 (pa_name (pv 0) pa_nil)) pe_int)) (pss_cons (ps_set (i := 3) sc__law_arc_good.nd rfl (by first | exact Or.inl rfl | exact Or.inr rfl) (pe_op op_sub pe_int (pe_cB C__law_far (hr.mono (by decide)) pass01 (pa_bin (pe_op op_fdiv (pv 0) pe_int) pa_nil)))) (pss_cons (ps_compX (i := 4) sc__law_arc_good.nd rfl (by first | exact Or.inl rfl | exact Or.inr rfl) ["_law_k", "_law_y", "_law_u"] [none, some 2, some 3] rfl (pi_range1 rfl T.range (pa_bin (pe_op op_add (pv 1) pe_int) pa_nil)) (fun _ _ _ _ _ _ => (pg_name (i := 0) (show List.Nodup [("_law_k" : Str), ("_law_y" : Str), ("_law_u" : Str)] by decide) rfl (by first | exact Or.inl rfl | exact Or.inr rfl))) (fun _ _ _ _ _ _ => pifs_nil) (fun _ _ _ _ _ _ => (pe_tup (pa_tuple (pe_tup (pa_bin (pe_op op_add (pv 1) (pv 0)) (pa_const pe_int pa_nil))) (pa_tuple (pe_tup (pa_bin (pe_op op_add (pv 2) (pe_op op_mul (pv 0) (pv 0))) (pa_const pe_int pa_nil))) pa_nil)))) (cap_def (hcell := by decide) (hf := (show ∀ y : Str × NameKind, y ∈ _ → y.2 = NameKind.free → (defScope s__law_arc_good).names.lookup y.1 = some NameKind.cell by decide))) (by decide) rfl (by decide) rfl (fun i j h => by
      rcases i with _ | _ | _ | i
      · simp at h
      · simp at h; subst h; exact ⟨_, rfl, rfl, rfl, rfl⟩
      · simp at h; subst h; exact ⟨_, rfl, rfl, rfl, rfl⟩
      · simp at h)) (pss_cons (ps_if (pt_cmpR (op_neD hr.units) (pe_cB C_size_of (hr.mono (by decide)) pass01 (pa_name (pv 4) pa_nil)) (pe_cB C_ratio_of (hr.mono (by decide)) pass01 (pa_bin (pe_op op_sub (pe_op op_pow (pv 1) pe_int) (pv 1)) (pa_const pe_int pa_nil))) (nomark _)) (pss_one (ps_ret pe_bl)) pss_nil) (pss_cons (ps_for PassesOwn.never rfl (pi_range1 rfl T.range (pa_const pe_int pa_nil)) (pg_name (i := 5) sc__law_arc_good.nd rfl (by first | exact Or.inl rfl | exact Or.inr rfl)) (pss_cons (ps_set (i := 6) sc__law_arc_good.nd rfl (Or.inl rfl) (pe_op op_sub (pe_cB C__law_mix (hr.mono (by decide)) pass01 (pa_bin (pe_op op_add (pv 0) (pv 5)) (pa_const pe_int (pa_bin (pe_op op_add (pv 1) pe_int) pa_nil)))) pe_int)) (pss_cons (ps_set (i := 7) sc__law_arc_good.nd rfl (Or.inl rfl) (pe_ix ix_list (pe_lst (pa_bin (pe_op op_mul (pv 6) (pv 6)) (pa_bin (pe_op op_mul (pv 1) (pv 6)) (pa_bin (pe_op op_sub (pe_op op_mul (pv 6) (pv 6)) pe_int) (pa_bin (pe_op op_add (pe_op op_mul (pv 1) (pv 6)) pe_int) (pa_bin (pe_op op_add (pe_op op_mul (pv 6) (pv 6)) (pv 6)) pa_nil)))))) (pe_op op_mod (pe_op op_add (pv 0) (pv 5)) pe_int) (fun _ _ => rfl))) (pss_cons (ps_set (i := 8) sc__law_arc_good.nd rfl (Or.inl rfl) (pe_and (pe_chain op_le op_le pe_int (pv 6) (pv 1)) (pe_one (pe_chain op_le op_le (pe_op op_mul (pv 6) (pv 6)) (pv 7) (pe_op op_mul (pv 1) (pv 6)))))) hR)))) (pss_one (ps_ret pe_bl)))))))), ?_⟩
  refine ⟨_, rfl, z, _, _, rfl, by decide, by decide, by decide, fun m m0 m1 => ⟨_, _, rfl, rfl, ?_⟩⟩
  dsimp only
  obtain ⟨n, hn⟩ : ∃ n : Nat, (3 + m : Int) = (n : Int) := ⟨(3 + m).toNat, by omega⟩
  rw [hn]
  have n3 : 3 ≤ n := by omega
  have n20 : n ≤ 20 := by omega
  refine ⟨_, rfl, z, rfl, fun y H1 y0 y1 s1 => ⟨_, _, rfl, rfl, ?_⟩⟩
  dsimp only
  generalize hy : (y - 9 : Int) = yy
  refine ⟨_, rfl, _, _, rfl, rfl, ⟨by decide, by decide⟩, _, rfl, fun u H2 u0 u1 s2 => ⟨_, _, rfl, rfl, ?_⟩⟩
  dsimp only
  generalize hu : (3 - u : Int) = uu
  refine ⟨_, rfl, _, _, rfl, rfl, _, rfl, by omega, by omega, ?_⟩
  have ht : ((n : Int) + 1).toNat = n + 1 := by omega
  dsimp only
  rw [ht]
  have hkk : ∀ k : Nat, k ≤ n → 0 ≤ (k : Int) * (k : Int) ∧ (k : Int) * (k : Int) ≤ 400 := fun k hk => by
    have := sq_le (x := (k : Int)) (m := 20) (by omega) (by omega) (by decide)
    omega
  refine comp_range0 (lo := 0) (n := n + 1) (fun i σ ys H' => ∃ c0, σ = [c0, some (.int yy), some (.int uu)] ∧ Same H2 H' ∧ DVs K H' ys (((arcR yy uu n).take i).map rayD)) ⟨_, rfl, Same.refl _, .nil⟩ ?_ ?_ ?_
  · rintro i σ ys H' hi ⟨c0, rfl, s', hys⟩
    have := hys.len
    rw [List.length_map, List.length_take] at this
    exact Nat.le_of_lt (small1000 (by omega))
  · rintro i σ ys H' hi ⟨c0, rfl, s', hys⟩
    have mk : CMul (0 + (i : Int)) (0 + (i : Int)) := .inl ⟨by omega, by omega⟩
    refine ⟨_, rfl, _, rfl, _, _, rfl, rfl, (by show 2 ≤ sizeLine; decide), fun p1 hp1 => ?_⟩
    refine ⟨_, rfl, _, rfl, _, rfl, _, _, rfl, rfl, mk, _, _, rfl, rfl, (by show 2 ≤ sizeLine; decide), fun p2 hp2 => ⟨(by show 2 ≤ sizeLine; decide), fun p3 hp3 => ?_⟩⟩
    obtain ⟨s3, d3⟩ := dv_ray3 (K := K) hp1 hp2 hp3
    refine nx hi ⟨_, rfl, s'.trans s3, ?_⟩
    rw [arc_take yy uu n i (by omega), List.map_append]
    refine DVs.append (hys.keep s3) (.cons ?_ .nil)
    rw [Int.zero_add] at d3
    rw [Int.zero_add]
    exact d3
  rintro σ' xs H3 l ⟨c0, rfl, s3, hxs⟩ hl
  have e1 : (arcR yy uu n).take (n + 1) = arcR yy uu n := List.take_of_length_le (by rw [arc_len]; omega)
  rw [e1] at hxs
  have u4 := same_new hl (.lst xs)
  have t4 : Same H (upd H3 l (.lst xs)) := s1.trans (s2.trans (s3.trans u4))
  have l4 : (upd H3 l (.lst xs)) l = some (.lst xs) := upd_same
  have hxs := hxs.keep u4
  generalize upd H3 l (.lst xs) = H4 at t4 l4 hxs ⊢
  have p34 : (2 : Nat) ^ 34 = 17179869184 := by decide
  have rbs : ∀ c ∈ arcR yy uu n, Rn 34 c := fun c hc => by
    unfold arcR at hc
    obtain ⟨k, hk, rfl⟩ := List.mem_map.mp hc
    have hk' : k < n + 1 := List.mem_range.mp hk
    have := hkk k (by omega)
    exact rn_I (by omega) (by omega)
  have dL : ∀ H', Same H4 H' → DV K H' (.ref l) (.list ((arcR yy uu n).map rayD)) := fun H' s' => .lst (SqL.of (s' _ _ l4)) (hxs.keep s')
  refine ⟨_, rfl, _, _, .cons (dL _ (Same.refl _)) .nil, ⟨_, 34, rfl, rbs, by decide, by rw [arc_len]; omega, rfl⟩, fun v5 H5 s5 hv5 => ?_⟩
  refine ⟨_, rfl, _, _, rfl, rfl, ⟨by decide, by decide, by omega⟩, _, rfl, _, _, rfl, rfl, _, 6, rfl, by decide, lim_big (by decide), fun p6 hp6 => ?_⟩
  have u6 := same_new hp6 (.tup [.int (Fr.lt ((n : Int) ^ Int.toNat 3 - (n : Int)) 6), .int (Fr.lb ((n : Int) ^ Int.toNat 3 - (n : Int)) 6)])
  have d6 : DV K _ (.ref p6) (frD (Rat.divInt ((n : Int) ^ Int.toNat 3 - (n : Int)) 6)) := dv_low (H := H5) (p := p6) (by decide)
  rw [show (n : Int) ^ Int.toNat 3 = (n : Int) ^ 3 from rfl] at d6 u6 ⊢
  refine ne_same (hv5.keep u6) (by rw [size_arc]; exact d6) (flat_fr _) ⟨_, rfl, iteF ?_⟩
  have t6 := s5.trans u6
  refine ⟨_, rfl, by decide, by decide, ?_⟩
  refine for_range (lo := 0) (n := Int.toNat 6) (fun i σ H' => ∃ c5 c6 c7 c8, σ = [some (.int z), some (.int n), some (.int yy), some (.int uu), some (.ref l), c5, c6, c7, c8] ∧ Same H4 H') ⟨_, _, _, _, rfl, t6⟩ ?_ ?_
  · rintro i σ H7 hi ⟨c5, c6, c7, c8, rfl, s7⟩
    refine ⟨_, rfl, _, rfl, _, _, rfl, rfl, _, rfl, _, _, rfl, rfl, _, _, _, rfl, by decide, by decide, (by show (0 : Int) < (n : Int) + 3; omega), fun x x0 x1 => ⟨_, _, rfl, rfl, ?_⟩⟩
    dsimp only at x1 ⊢
    generalize hr1 : (x - 1 : Int) = r
    have r0 : -1 ≤ r := by omega
    have r1 : r ≤ (n : Int) + 1 := by omega
    have rr := sq_le (x := r) (m := 21) r0 (by omega) (by decide)
    have mr : ∀ x, CMul x r := fun x => .inr ⟨by omega, by omega⟩
    have nr : -20 ≤ (n : Int) * r ∧ (n : Int) * r ≤ 420 := by
      by_cases c : 0 ≤ r
      · have a := Int.mul_nonneg (show (0 : Int) ≤ n by omega) c
        have b := Int.mul_le_mul (show (n : Int) ≤ 20 by omega) (show r ≤ 21 by omega) c (by decide)
        omega
      · obtain rfl : r = -1 := by omega
        omega
    refine ⟨_, rfl, _, rfl, _, _, rfl, rfl, mr _, _, rfl, _, rfl, _, _, rfl, rfl, mr _, _, rfl, _, rfl, _, _, rfl, rfl, mr _, _, _, rfl, rfl, _, rfl, _, rfl, _, _, rfl, rfl, mr _, _, _, rfl, rfl, _, rfl, _, rfl, _, _, rfl, rfl, mr _, _, rfl, _, _, rfl, rfl, (by show 5 ≤ sizeLine; decide), fun p8 hp8 => ?_⟩
    have u8 := same_new hp8 (.lst [.int (r * r), .int ((n : Int) * r), .int (r * r - 1), .int ((n : Int) * r + 1), .int (r * r + r)])
    obtain ⟨v, hv, hm⟩ := atI_in (xs := [V.int (r * r), V.int ((n : Int) * r), V.int (r * r - 1), V.int ((n : Int) * r + 1), V.int (r * r + r)]) (r := (z + (0 + (i : Int))) % 5) (by omega) (by simp only [List.length_cons, List.length_nil]; omega)
    obtain ⟨p, rfl, pb⟩ : ∃ p : Int, v = .int p ∧ -100 ≤ p ∧ p ≤ 1000 := by
      simp only [List.mem_cons, List.not_mem_nil, or_false] at hm
      rcases hm with rfl | rfl | rfl | rfl | rfl
      · exact ⟨_, rfl, by omega, by omega⟩
      · exact ⟨_, rfl, by omega, by omega⟩
      · exact ⟨_, rfl, by omega, by omega⟩
      · exact ⟨_, rfl, by omega, by omega⟩
      · exact ⟨_, rfl, by omega, by omega⟩
    refine ⟨_, rfl, _, rfl, _, _, rfl, rfl, _, _, rfl, rfl, (by show (0 : Int) < 5; decide), p8, _, _, .int p, rfl, rfl, SqL.of upd_same, hv, ?_⟩
    have s8 : Same H4 (upd H7 p8 (.lst [.int (r * r), .int ((n : Int) * r), .int (r * r - 1), .int ((n : Int) * r + 1), .int (r * r + r)])) := s7.trans u8
    generalize upd H7 p8 (.lst [.int (r * r), .int ((n : Int) * r), .int (r * r - 1), .int ((n : Int) * r + 1), .int (r * r + r)]) = H8 at s8 ⊢
    have kR := fun (c5 : Option V) (b : Bool) (D : Ends) hb hq => kR z yy uu r p n l c5 b H4 H8 D n3 n20 r0 r1 ⟨by omega, by omega⟩ pb rbs dL s8 hb hq
    refine ⟨_, rfl, _, _, rfl, rfl, _, rfl, ?_⟩
    cases c1 : decide (0 ≤ r) with
    | false => exact iteF ⟨_, rfl, iteF (kR _ _ _ (by rw [c1]; rfl) fun H9 s9 => ⟨_, _, _, _, rfl, s9⟩)⟩
    | true =>
      refine iteT ?_
      refine ⟨_, rfl, _, _, rfl, rfl, _, rfl, ?_⟩
      cases c2 : decide (r ≤ (n : Int)) with
      | false => exact iteF (kR _ _ _ (by rw [c1, c2]; rfl) fun H9 s9 => ⟨_, _, _, _, rfl, s9⟩)
      | true =>
        refine iteT ?_
        refine ⟨_, rfl, _, rfl, _, _, rfl, rfl, mr _, _, rfl, _, _, rfl, rfl, _, rfl, ?_⟩
        cases c3 : decide (r * r ≤ p) with
        | false => exact iteF (kR _ _ _ (by rw [c1, c2, c3]; rfl) fun H9 s9 => ⟨_, _, _, _, rfl, s9⟩)
        | true =>
          refine iteT ?_
          refine ⟨_, rfl, _, rfl, _, _, rfl, rfl, mr _, _, _, rfl, rfl, ?_⟩
          exact kR _ _ _ (by rw [c1, c2, c3]; rfl) fun H9 s9 => ⟨_, _, _, _, rfl, s9⟩
  · rintro σ H7 ⟨c5, c6, c7, c8, rfl, s7⟩
    exact q _ (t4.trans s7)
end
end K45
namespace K45
open PySem L2 Lib Fr Op
seal PE PT PW PA PS PSs PG PGs PI PO PIfs
theorem bd_hv {z : Int} (h : z.natAbs < 2 ^ 34) : Bd 34 (hv z) := Bd.of (by decide) h (by decide)
theorem rn_H {y u : Int} (hy : y.natAbs < 2 ^ 34) (hu : u.natAbs < 2 ^ 34) : Rn 34 (ryH y u) := ⟨bd_hv hy, bd_hv hu⟩
theorem lin_le {l x : Int} (l0 : -3 ≤ l) (l1 : l ≤ 3) (x0 : -1 ≤ x) (x1 : x ≤ 200) : -600 ≤ l * x ∧ l * x ≤ 600 := by
  by_cases c : 0 ≤ x
  · have a := Int.mul_le_mul_of_nonneg_right l0 c
    have b := Int.mul_le_mul_of_nonneg_right l1 c
    omega
  · obtain rfl : x = -1 := by omega
    omega
theorem corn_bd {k y u w s l : Int} (sh : Shp y u w s l) : (∀ c ∈ cornH k y u w s l, Rn 34 c) ∧ (cornH k y u w s l).length ≤ 4 := by
  have p34 : (2 : Nat) ^ 34 = 17179869184 := by decide
  have h := lin_le sh.l0 sh.l1 (show -1 ≤ w by have := sh.w0; omega) (show w ≤ 200 by have := sh.w1; omega)
  obtain ⟨y0, y1, u0, u1, w0, w1, s0, s1, _, _⟩ := sh
  have a := rn_H (y := y) (u := u) (by omega) (by omega)
  have b := rn_H (y := y + w) (u := u + l * w) (by omega) (by omega)
  have c := rn_H (y := y) (u := u + s) (by omega) (by omega)
  have d := rn_H (y := y + w) (u := u + l * w + s) (by omega) (by omega)
  unfold cornH
  refine ⟨fun e he => ?_, ?_⟩
  · split at he
    · cases he
    · split at he
      · simp only [List.mem_cons, List.not_mem_nil, or_false] at he; rw [he]; exact a
      · split at he
        · simp only [List.mem_cons, List.not_mem_nil, or_false] at he; rcases he with rfl | rfl <;> assumption
        · split at he
          · simp only [List.mem_cons, List.not_mem_nil, or_false] at he; rcases he with rfl | rfl | rfl <;> assumption
          · simp only [List.mem_cons, List.not_mem_nil, or_false] at he; rcases he with rfl | rfl | rfl | rfl <;> assumption
  · repeat (first | (split; simp) | simp | omega)
section
variable {P : Program} {w : World} {K : PySem.W.Frag} {mg : Str → Option Value} {base : Heap} {ad : Adr} {c : Bool}
theorem ok_law (T : Txt K mg ad) {fa : Addr} {fd : FuncData} (F : Fun K "law" "law" s_law fa fd) : FnB P w K mg base true 11 fa fd ["_law_script"] (spLaw K) := by
  have C__law_arc_good := c__law_arc_good (P := P) (w := w) (base := base) T
  have C__law_mix := c__law_mix (P := P) (w := w) (base := base) T
  have C__law_shape := c__law_shape (P := P) (w := w) (base := base) T
  have C__law_corners := c__law_corners (P := P) (w := w) (base := base) T
  have C__law_size := c__law_size (P := P) (w := w) (base := base) T
  have C__law_ray := c__law_ray (P := P) (w := w) (base := base) T
  have C__law_due := c__law_due (P := P) (w := w) (base := base) T
  have C_size_of := c_size_of (P := P) (w := w) (base := base) T
  have C_is_within := c_is_within (P := P) (w := w) (base := base) T
  refine F.okB sc_law (fun vs H Q E h => ?_) (fun cdv A outer s H vs Q E hr h => ?_)
  · obtain ⟨a, ns, rfl, _⟩ := h; rfl
  obtain ⟨a, ns, rfl, hS, h63, q⟩ := h
  refine ⟨_, (pss_cons (ps_for PassesOwn.never rfl (pi_list (pe_op op_cat (pe_slice sl_list (pv 0) (po_some pe_int) (po_some pe_int)) (pe_lst (pa_bin (pe_op op_add pe_int (pe_callB call_len_seq rfl T.len bt_len (pa_name (pv 0) pa_nil))) pa_nil)))) (pg_name (i := 1) sc_law.nd rfl (by first | exact Or.inl rfl | exact Or.inr rfl)) (pss_one (ps_if (pt_not (pt_val (pe_cB C__law_arc_good (hr.mono (by decide)) pass01 (pa_name (pv 1) pa_nil)))) (pss_one (ps_ret pe_bl)) pss_nil))) (pss_cons (ps_for PassesOwn.never rfl (pi_list (pe_op op_cat (pe_slice sl_list (pv 0) po_none (po_some pe_int)) (pe_lst (pa_call (pe_callB call_len_seq rfl T.len bt_len (pa_name (pv 0) pa_nil)) pa_nil)))) (pg_name (i := 1) sc_law.nd rfl (by first | exact Or.inl rfl | exact Or.inr rfl)) (pss_cons (ps_set (i := 2) sc_law.nd rfl (Or.inl rfl) (pe_cB C__law_mix (hr.mono (by decide)) pass01 (pa_name (pv 1) (pa_const pe_int (pa_const pe_int pa_nil))))) (pss_cons (ps_set (i := 3) sc_law.nd rfl (Or.inl rfl) (pe_cB C__law_shape (hr.mono (by decide)) pass01 (pa_name (pv 1) pa_nil))) (pss_cons (ps_asg (pv 3) (pg_tup (n := 5) rfl (pgs_cons (pg_name (i := 4) sc_law.nd rfl (by first | exact Or.inl rfl | exact Or.inr rfl)) (pgs_cons (pg_name (i := 5) sc_law.nd rfl (by first | exact Or.inl rfl | exact Or.inr rfl)) (pgs_cons (pg_name (i := 6) sc_law.nd rfl (by first | exact Or.inl rfl | exact Or.inr rfl)) (pgs_cons (pg_name (i := 7) sc_law.nd rfl (by first | exact Or.inl rfl | exact Or.inr rfl)) (pgs_cons (pg_name (i := 8) sc_law.nd rfl (by first | exact Or.inl rfl | exact Or.inr rfl)) pgs_nil))))))) (pss_cons (ps_set (i := 9) sc_law.nd rfl (Or.inl rfl) (pe_cB C__law_corners (hr.mono (by decide)) pass01 (pa_name (pv 2) (pa_name (pv 3) pa_nil)))) (pss_cons (ps_if (pt_cmpR (op_neD hr.units) (pe_cB C_size_of (hr.mono (by decide)) pass01 (pa_call (pe_callTy call_list_of rfl T.list bt_list (pa_name (pv 9) pa_nil)) pa_nil)) (pe_cB C__law_size (hr.mono (by decide)) pass01 (pa_name (pv 2) (pa_name (pv 3) pa_nil))) (nomark _)) (pss_one (ps_ret pe_bl)) pss_nil) (pss_one (ps_for PassesOwn.never rfl (pi_range1 rfl T.range (pa_const pe_int pa_nil)) (pg_name (i := 10) sc_law.nd rfl (by first | exact Or.inl rfl | exact Or.inr rfl)) (pss_cons (ps_set (i := 11) sc_law.nd rfl (Or.inl rfl) (pe_ix ix_list (pe_lst (pa_const pe_int (pa_name (pv 6) (pa_bin (pe_op op_fdiv (pv 6) pe_int) (pa_bin (pe_op op_sub (pe_cB C__law_mix (hr.mono (by decide)) pass01 (pa_bin (pe_op op_add (pv 1) (pv 10)) (pa_const pe_int (pa_bin (pe_op op_add (pv 6) pe_int) pa_nil)))) pe_int) pa_nil))))) (pe_op op_mod (pe_op op_add (pv 1) (pv 10)) pe_int) (fun _ _ => rfl))) (pss_cons (ps_set (i := 12) sc_law.nd rfl (Or.inl rfl) (pe_ix ix_list (pe_lst (pa_const pe_int (pa_name (pv 7) (pa_bin (pe_op op_fdiv (pv 7) pe_int) (pa_bin (pe_op op_sub (pe_cB C__law_mix (hr.mono (by decide)) pass01 (pa_bin (pe_op op_add (pv 1) (pv 10)) (pa_const pe_int (pa_bin (pe_op op_add (pv 7) pe_int) pa_nil)))) pe_int) pa_nil))))) (pe_op op_mod (pe_op op_fdiv (pe_op op_add (pv 1) (pv 10)) pe_int) pe_int) (fun _ _ => rfl))) (pss_cons (ps_set (i := 13) sc_law.nd rfl (Or.inl rfl) (pe_cB C_is_within (hr.mono (by decide)) pass01 (pa_name (pv 9) (pa_call (pe_cB C__law_ray (hr.mono (by decide)) pass01 (pa_bin (pe_op op_add (pv 4) (pv 11)) (pa_bin (pe_op op_add (pe_op op_add (pv 5) (pe_op op_mul (pv 8) (pv 11))) (pv 12)) pa_nil))) pa_nil)))) (pss_one (ps_if (PW.pt (pw_or (pt_not (pt_val (pe_callB call_isiD rfl T.isinstance bt_isinstance (pa_name (pv 13) (pa_name (pe_bltn (v := .ty "bool") rfl T.bool bt_bool rfl) pa_nil))))) (pw_or1 (pt_cmpR op_ne (pv 13) (pe_cB C__law_due (hr.mono (by decide)) pass01 (pa_name (pv 2) (pa_name (pv 3) (pa_name (pv 11) (pa_name (pv 12) pa_nil))))) (nomark _))))) (pss_one (ps_ret pe_bl)) pss_nil))))))))))))) (pss_one (ps_ret pe_bl)))), ?_⟩
  -- the arcs
  refine ⟨_, rfl, _, rfl, _, rfl, a, _, rfl, hS, fun p1 hp1 => ?_⟩
  have v1 := same_new hp1 (.lst (cutV (ns.map V.int) (some 16) (some 21)))
  have i1 := cut_ints ns (some 16) (some 21)
  have z1 : (cutV (ns.map V.int) (some 16) (some 21)).length ≤ 63 := Nat.le_trans (cutV_le (ns.map V.int) 16 21) (by decide)
  generalize cutV (ns.map V.int) (some 16) (some 21) = L1 at v1 z1 i1 ⊢
  refine ⟨_, rfl, a, _, rfl, .inl (hS.keep v1), _, _, rfl, rfl, (by show 1 ≤ sizeLine; decide), fun p2 hp2 => ?_⟩
  generalize (((ns.map V.int).length : Nat) : Int) = n0
  have v2 := same_new hp2 (.lst [.int (3 + n0)])
  refine ⟨p1, p2, _, _, rfl, rfl, v2 _ _ upd_same, upd_same, Nat.le_of_lt (small1000 (by simp only [List.length_cons, List.length_nil]; omega)), fun p3 hp3 => ⟨p3, rfl, ⟨_, SqL.of upd_same⟩, ?_⟩⟩
  have v3 := same_new hp3 (.lst (L1 ++ [.int (3 + n0)]))
  have s0 := v1.trans (v2.trans v3)
  have hL : ∀ x ∈ L1 ++ [V.int (3 + n0)], ∃ z : Int, x = .int z := fun x hx => by
    rcases List.mem_append.mp hx with h | h
    · exact i1 x h
    · exact ⟨_, List.mem_singleton.mp h⟩
  have hp30 : upd (upd (upd H p1 (.lst L1)) p2 (.lst [.int (3 + n0)])) p3 (.lst (L1 ++ [.int (3 + n0)])) p3 = some (.lst (L1 ++ [.int (3 + n0)])) := upd_same
  generalize upd (upd (upd H p1 (.lst L1)) p2 (.lst [.int (3 + n0)])) p3 (.lst (L1 ++ [.int (3 + n0)])) = H0 at hp30 s0 ⊢
  generalize L1 ++ [V.int (3 + n0)] = LL at hL hp30 ⊢
  refine for_list (K := K) (a := p3) (xs := LL) (fun i σ H2 => ∃ c1, σ = [some (.ref a), c1, none, none, none, none, none, none, none, none, none, none, none, none] ∧ Same H0 H2) ⟨_, rfl, Same.refl _⟩ ?_ ?_ ?_
  · rintro i σ H2 hi ⟨c1, rfl, s2⟩
    exact SqL.of (s2 _ _ hp30)
  · rintro i x σ H2 hi ⟨c1, rfl, s2⟩
    obtain ⟨z, rfl⟩ := hL x (List.mem_of_getElem? hi)
    exact ⟨_, rfl, z, rfl, fun H3 s3 => ⟨_, rfl, iteF ⟨_, rfl, s2.trans s3⟩⟩⟩
  rintro σ H2 ⟨c1, rfl, s2⟩
  have s02 := s0.trans s2
  have hS := hS.keep s02
  -- the shapes
  refine ⟨_, rfl, _, rfl, a, _, rfl, hS, fun p4 hp4 => ?_⟩
  have v4 := same_new hp4 (.lst (cutV (ns.map V.int) none (some 16)))
  have i4 := cut_ints ns none (some 16)
  have z4 : (cutV (ns.map V.int) none (some 16)).length ≤ 63 := Nat.le_trans (cutV_le0 (ns.map V.int) 16) (by decide)
  generalize cutV (ns.map V.int) none (some 16) = L4 at v4 z4 i4 ⊢
  refine ⟨_, rfl, a, _, rfl, .inl (hS.keep v4), (by show 1 ≤ sizeLine; decide), fun p5 hp5 => ?_⟩
  generalize (((ns.map V.int).length : Nat) : Int) = n5
  have v5 := same_new hp5 (.lst [.int n5])
  refine ⟨p4, p5, _, _, rfl, rfl, v5 _ _ upd_same, upd_same, Nat.le_of_lt (small1000 (by simp only [List.length_cons, List.length_nil]; omega)), fun p6 hp6 => ⟨p6, rfl, ⟨_, SqL.of upd_same⟩, ?_⟩⟩
  have hL6 : ∀ x ∈ L4 ++ [V.int n5], ∃ z : Int, x = .int z := fun x hx => by
    rcases List.mem_append.mp hx with h | h
    · exact i4 x h
    · exact ⟨n5, List.mem_singleton.mp h⟩
  have hp60 : upd (upd (upd H2 p4 (.lst L4)) p5 (.lst [.int n5])) p6 (.lst (L4 ++ [.int n5])) p6 = some (.lst (L4 ++ [.int n5])) := upd_same
  generalize upd (upd (upd H2 p4 (.lst L4)) p5 (.lst [.int n5])) p6 (.lst (L4 ++ [.int n5])) = H6 at hp60 ⊢
  generalize L4 ++ [V.int n5] = LL6 at hL6 hp60 ⊢
  refine for_list (K := K) (a := p6) (xs := LL6) (fun i σ H7 => ∃ c1 c2 c3 c4 c5 c6 c7 c8 c9 c10 c11 c12 c13, σ = [some (.ref a), c1, c2, c3, c4, c5, c6, c7, c8, c9, c10, c11, c12, c13] ∧ Same H6 H7) ⟨_, _, _, _, _, _, _, _, _, _, _, _, _, rfl, Same.refl _⟩ ?_ ?_ ?_
  · rintro i σ H7 hi ⟨c1, c2, c3, c4, c5, c6, c7, c8, c9, c10, c11, c12, c13, rfl, s7⟩
    exact SqL.of (s7 _ _ hp60)
  · rintro i x σ H7 hi ⟨c1, c2, c3, c4, c5, c6, c7, c8, c9, c10, c11, c12, c13, rfl, s7⟩
    obtain ⟨z, rfl⟩ := hL6 x (List.mem_of_getElem? hi)
    refine ⟨_, rfl, z, _, _, rfl, by decide, by decide, by decide, fun k k0 k1 => ?_⟩
    refine ⟨_, rfl, z, rfl, fun ps H8 y u w_ s_ l sh s8 hps => ?_⟩
    refine ⟨_, rfl, ps, _, rfl, SqT.of hps, rfl, _, _, rfl, _, _, rfl, _, _, rfl, _, _, rfl, _, _, rfl, rfl, ?_⟩
    refine ⟨_, rfl, _, rfl, k, ps, y, u, w_, s_, l, rfl, k0, k1, sh, hps, fun lc H9 xs s9 hlc hxs => ?_⟩
    obtain ⟨cb, cl⟩ := corn_bd (k := k) sh
    -- its size
    refine ⟨_, rfl, lc, _, rfl, .inl (SqL.of hlc), fun p10 hp10 => ?_⟩
    have u10 := same_new hp10 (.lst xs)
    refine ⟨_, _, .cons (.lst (SqL.of upd_same) (hxs.keep u10)) .nil, ⟨_, 34, rfl, cb, by decide, by omega, rfl⟩, fun v11 H11 s11 hv11 => ?_⟩
    have t11 := s9.trans (u10.trans s11)
    refine ⟨_, rfl, _, rfl, k, ps, y, u, w_, s_, l, rfl, k0, k1, sh, t11 _ _ hps, fun v12 H12 s12 hv12 => ?_⟩
    refine ne_same (hv11.keep s12) (by rw [size_H k y u w_ s_ l ⟨k0, k1⟩]; exact hv12) (flat_fr _) ⟨_, rfl, iteF ?_⟩
    have t12 := u10.trans (s11.trans s12)
    have hps12 := (s9.trans t12) _ _ hps
    have hlc12 := t12 _ _ hlc
    have hxs12 := hxs.keep t12
    have s612 := s7.trans (s8.trans (s9.trans t12))
    obtain ⟨y0, y1, u0, u1, w0, w1, d0, d1, l0, l1⟩ := id sh
    refine ⟨_, rfl, by decide, by decide, ?_⟩
    refine for_range (lo := 0) (n := Int.toNat 8) (fun i σ H' => ∃ c10 c11 c12 c13, σ = [some (.ref a), some (.int z), some (.int k), some (.ref ps), some (.int y), some (.int u), some (.int w_), some (.int s_), some (.int l), some (.ref lc), c10, c11, c12, c13] ∧ Same H12 H') ⟨_, _, _, _, rfl, Same.refl _⟩ ?_ ?_
    · rintro j σ H13 hj ⟨c10, c11, c12, c13, rfl, s13⟩
      -- right
      refine ⟨_, rfl, _, rfl, _, _, rfl, rfl, ⟨by decide, by decide⟩, _, rfl, _, rfl, _, _, rfl, rfl, _, rfl, _, _, rfl, rfl, _, _, _, rfl, by decide, by decide, (by show (0 : Int) < w_ + 3; omega), fun x x0 x1 => ⟨_, _, rfl, rfl, (by show 4 ≤ sizeLine; decide), fun q1 hq1 => ?_⟩⟩
      dsimp only at x1 ⊢
      have e1 := same_new hq1 (.lst [.int 0, .int w_, .int (w_ / 2), .int (x - 1)])
      obtain ⟨v, hv, hm⟩ := atI_in (xs := [V.int 0, V.int w_, V.int (w_ / 2), V.int (x - 1)]) (r := (z + (0 + (j : Int))) % 4) (by omega) (by simp only [List.length_cons, List.length_nil]; omega)
      obtain ⟨r, rfl, r0, r1⟩ : ∃ r : Int, v = .int r ∧ -1 ≤ r ∧ r ≤ 102 := by
        simp only [List.mem_cons, List.not_mem_nil, or_false] at hm
        rcases hm with rfl | rfl | rfl | rfl
        · exact ⟨_, rfl, by omega, by omega⟩
        · exact ⟨_, rfl, by omega, by omega⟩
        · exact ⟨_, rfl, by omega, by omega⟩
        · exact ⟨_, rfl, by omega, by omega⟩
      refine ⟨_, rfl, _, rfl, _, _, rfl, rfl, _, _, rfl, rfl, (by show (0 : Int) < 4; decide), q1, _, _, .int r, rfl, rfl, SqL.of upd_same, hv, ?_⟩
      have s14 := s13.trans e1
      generalize upd H13 q1 (.lst [.int 0, .int w_, .int (w_ / 2), .int (x - 1)]) = H14 at s14 ⊢
      -- up
      refine ⟨_, rfl, _, rfl, _, _, rfl, rfl, ⟨by decide, by decide⟩, _, rfl, _, rfl, _, _, rfl, rfl, _, rfl, _, _, rfl, rfl, _, _, _, rfl, by decide, by decide, (by show (0 : Int) < s_ + 3; omega), fun x' x0' x1' => ⟨_, _, rfl, rfl, (by show 4 ≤ sizeLine; decide), fun q2 hq2 => ?_⟩⟩
      dsimp only at x1' ⊢
      have e2 := same_new hq2 (.lst [.int 0, .int s_, .int (s_ / 2), .int (x' - 1)])
      obtain ⟨v', hv', hm'⟩ := atI_in (xs := [V.int 0, V.int s_, V.int (s_ / 2), V.int (x' - 1)]) (r := (z + (0 + (j : Int))) / 4 % 4) (by omega) (by simp only [List.length_cons, List.length_nil]; omega)
      obtain ⟨up, rfl, up0, up1⟩ : ∃ r : Int, v' = .int r ∧ -1 ≤ r ∧ r ≤ 102 := by
        simp only [List.mem_cons, List.not_mem_nil, or_false] at hm'
        rcases hm' with rfl | rfl | rfl | rfl
        · exact ⟨_, rfl, by omega, by omega⟩
        · exact ⟨_, rfl, by omega, by omega⟩
        · exact ⟨_, rfl, by omega, by omega⟩
        · exact ⟨_, rfl, by omega, by omega⟩
      refine ⟨_, rfl, _, rfl, _, _, rfl, rfl, _, _, rfl, rfl, ⟨by decide, by decide⟩, _, _, rfl, rfl, (by show (0 : Int) < 4; decide), q2, _, _, .int up, rfl, rfl, SqL.of upd_same, hv', ?_⟩
      have s15 := s14.trans e2
      generalize upd H14 q2 (.lst [.int 0, .int s_, .int (s_ / 2), .int (x' - 1)]) = H15 at s15 ⊢
      -- within
      have ml : CMul l r := .inl ⟨by omega, by omega⟩
      have lr := lin_le l0 l1 r0 (show r ≤ 200 by omega)
      have p34 : (2 : Nat) ^ 34 = 17179869184 := by decide
      refine ⟨_, rfl, _, rfl, _, rfl, _, _, rfl, rfl, _, rfl, _, rfl, _, rfl, _, _, rfl, rfl, ml, _, _, rfl, rfl, _, rfl, _, _, rfl, rfl, _, _, rfl, fun v16 H16 s16 hv16 => ?_⟩
      have s1216 := s15.trans s16
      refine ⟨_, _, .cons (.lst (SqL.of (s1216 _ _ hlc12)) (hxs12.keep s1216)) (.cons hv16 .nil), ⟨_, _, 34, rfl, cb, rn_H (by omega) (by omega), by decide, by omega, rfl⟩, fun v17 H17 s17 hv17 => ?_⟩
      obtain rfl := hv17.bl_of
      rw [within_H k y u w_ s_ l r up ⟨k0, k1⟩ (by omega) (by omega)]
      have s1217 := s1216.trans s17
      refine ⟨_, rfl, _, _, _, true, rfl, .bl _, rfl, _, rfl, iteF ?_⟩
      refine ⟨_, rfl, _, rfl, _, rfl, _, rfl, _, rfl, k, ps, y, u, w_, s_, l, r, up, rfl, k0, k1, sh, s1217 _ _ hps12, ?_⟩
      exact ⟨rfl, _, rfl, iteF' (by simp) ⟨_, _, _, _, rfl, s1217⟩⟩
    · rintro σ H13 ⟨c10, c11, c12, c13, rfl, s13⟩
      exact ⟨_, _, _, _, _, _, _, _, _, _, _, _, _, rfl, s612.trans s13⟩
  · rintro σ H7 ⟨c1, c2, c3, c4, c5, c6, c7, c8, c9, c10, c11, c12, c13, rfl, s7⟩
    exact q _
theorem law_fd {fa : Addr} (F : TopFn K mg "law" s_law) (hmg : mg "law" = some (.ref fa)) : ∃ fd, Fun K "law" "law" s_law fa fd ∧ ∀ (s : Shared) (u : Value), BindsTo s fd ⟨[u], []⟩ [("_law_script", u)] := by
  obtain ⟨f, fd, F, hm⟩ := F.ex
  cases hmg.symm.trans hm
  obtain ⟨oc, od, kV, doc, pm, an, cdv, ct, osl, rfl, l, c⟩ := id F.ex
  exact ⟨_, F, fun s u => .of_eq rfl⟩
end
end K45
namespace K45
open PySem L2 Lib
theorem walk {l : PySem.W.OpenLaw} {q : Program} {loose : List Str} {XP : (Str → Option Value) → Heap → Prop} {YP : World → Heap → Prop} {d : DefRec} {K : Params → PySem.W.Frag} (hn : l.most = some 63) (hdf : d.params.defaults = [])
    (hY : ∀ (w : World) (h : Heap), YP w h → (K w.params).In h)
    (F : ∀ (w : World) (mg : Str → Option Value) (fa : Addr) (h : Heap), (K w.params).In h → h.Ns mainGlobals mg → mg d.name = some (.ref fa) →
      ∃ fd : FuncData, (∀ (s : Shared) (u : Value), BindsTo s fd ⟨[u], []⟩ [("_law_script", u)]) ∧ ∀ base : Heap, (K w.params).In base → base.Ns mainGlobals mg → FnOk l.prog w (K w.params) mg base (CX1 l.prog w) 11 fa fd ["_law_script"] (spLaw (K w.params))) :
    PySem.W.WalkO q loose XP YP l.row.toRowW d [] (fun f vs => PySem.call f vs) :=
  L2.walk_of (n := 63) (k := 11) (x := "_law_script") (CX := fun w => CX1 l.prog w) (sp := fun w => spLaw (K w.params)) hn (by decide) hdf ⟨rfl, by decide, by decide⟩ hY F (fun _ _ a ns hl _ hS => ⟨a, ns, rfl, hS, hl, fun _ => rfl⟩) fun _ _ _ _ _ z => by
    obtain ⟨_, _, _, _, _, _, _, _, _, _, _, _, q⟩ := z
    exact q
end K45
def PySem.W.Fast.tw12719885087323682169 : Unit := ()
def PySem.W.Fast.tw16205866560854632176 : Unit := ()
def PySem.W.Fast.tw11637654048906991854 : Unit := ()
def PySem.W.Fast.tw17335782922463219024 : Unit := ()
def PySem.W.Fast.tw14809284693186206079 : Unit := ()
def PySem.W.Fast.tw14442948942236341159 : Unit := ()
def PySem.W.Fast.tw2131885615297026804 : Unit := ()
def PySem.W.Fast.tw16729921477806119733 : Unit := ()
def PySem.W.Fast.tw14262777349559070067 : Unit := ()
def PySem.W.Fast.tw4920665256819445463 : Unit := ()
def PySem.W.Fast.tw4380683837307102581 : Unit := ()
def PySem.W.Fast.tw6147902686845175658 : Unit := ()
def PySem.W.Fast.tw10332849177642763599 : Unit := ()
def PySem.W.Fast.tw14149740002647306057 : Unit := ()
def PySem.W.Fast.tw11917679511385158110 : Unit := ()
def PySem.W.Fast.tw7474995366743831071 : Unit := ()
def PySem.W.Fast.tw3549927954665922260 : Unit := ()
def PySem.W.Fast.tw15205278867801382752 : Unit := ()
open PySem PySem.W PyProof.Rows
set_option maxRecDepth 100000 in
set_option maxHeartbeats 0 in
theorem PySem.Challenge.cw_grindbench_k45_within_and_size_by_hand_holds : PySem.Challenge.rw_grindbench_k45_within_and_size_by_hand.Holds := by
  w_on; o_law; k_head; (case hw => w_witness2)
  k_fill
  refine K45.walk (l := PySem.Challenge.rw_grindbench_k45_within_and_size_by_hand) rfl rfl (fun w h Y => PySem.W.kIn_of Y) ?F
  case F =>
    intro w mg fa h KX G hmg
    have t_is_whole : L2.TopFn (L2.KOf KX) mg "is_whole" K45.s_is_whole := by
      dsimp only [L2.KOf]
      refine' L2.topFn_mk KX G ?a ?l ?c ?k
      (case a => k_is); (case l => k_is); (case c => k_is); (case k => k_is)
    have t_common_divisor : L2.TopFn (L2.KOf KX) mg "common_divisor" K45.s_common_divisor := by
      dsimp only [L2.KOf]
      refine' L2.topFn_mk KX G ?a ?l ?c ?k
      (case a => k_is); (case l => k_is); (case c => k_is); (case k => k_is)
    have t_ratio_of : L2.TopFn (L2.KOf KX) mg "ratio_of" K45.s_ratio_of := by
      dsimp only [L2.KOf]
      refine' L2.topFn_mk KX G ?a ?l ?c ?k
      (case a => k_is); (case l => k_is); (case c => k_is); (case k => k_is)
    have t_sum_of : L2.TopFn (L2.KOf KX) mg "sum_of" K45.s_sum_of := by
      dsimp only [L2.KOf]
      refine' L2.topFn_mk KX G ?a ?l ?c ?k
      (case a => k_is); (case l => k_is); (case c => k_is); (case k => k_is)
    have t_less_by : L2.TopFn (L2.KOf KX) mg "less_by" K45.s_less_by := by
      dsimp only [L2.KOf]
      refine' L2.topFn_mk KX G ?a ?l ?c ?k
      (case a => k_is); (case l => k_is); (case c => k_is); (case k => k_is)
    have t_product_of : L2.TopFn (L2.KOf KX) mg "product_of" K45.s_product_of := by
      dsimp only [L2.KOf]
      refine' L2.topFn_mk KX G ?a ?l ?c ?k
      (case a => k_is); (case l => k_is); (case c => k_is); (case k => k_is)
    have t_quotient_of : L2.TopFn (L2.KOf KX) mg "quotient_of" K45.s_quotient_of := by
      dsimp only [L2.KOf]
      refine' L2.topFn_mk KX G ?a ?l ?c ?k
      (case a => k_is); (case l => k_is); (case c => k_is); (case k => k_is)
    have t_is_less : L2.TopFn (L2.KOf KX) mg "is_less" K45.s_is_less := by
      dsimp only [L2.KOf]
      refine' L2.topFn_mk KX G ?a ?l ?c ?k
      (case a => k_is); (case l => k_is); (case c => k_is); (case k => k_is)
    have t_is_before : L2.TopFn (L2.KOf KX) mg "is_before" K45.s_is_before := by
      dsimp only [L2.KOf]
      refine' L2.topFn_mk KX G ?a ?l ?c ?k
      (case a => k_is); (case l => k_is); (case c => k_is); (case k => k_is)
    have t_turn_of : L2.TopFn (L2.KOf KX) mg "turn_of" K45.s_turn_of := by
      dsimp only [L2.KOf]
      refine' L2.topFn_mk KX G ?a ?l ?c ?k
      (case a => k_is); (case l => k_is); (case c => k_is); (case k => k_is)
    have t_is_within : L2.TopFn (L2.KOf KX) mg "is_within" K45.s_is_within := by
      dsimp only [L2.KOf]
      refine' L2.topFn_mk KX G ?a ?l ?c ?k
      (case a => k_is); (case l => k_is); (case c => k_is); (case k => k_is)
    have t_size_of : L2.TopFn (L2.KOf KX) mg "size_of" K45.s_size_of := by
      dsimp only [L2.KOf]
      refine' L2.topFn_mk KX G ?a ?l ?c ?k
      (case a => k_is); (case l => k_is); (case c => k_is); (case k => k_is)
    have t__law_mix : L2.TopFn (L2.KOf KX) mg "_law_mix" K45.s__law_mix := by
      dsimp only [L2.KOf]
      refine' L2.topFn_mk KX G ?a ?l ?c ?k
      (case a => k_is); (case l => k_is); (case c => k_is); (case k => k_is)
    have t__law_halves : L2.TopFn (L2.KOf KX) mg "_law_halves" K45.s__law_halves := by
      dsimp only [L2.KOf]
      refine' L2.topFn_mk KX G ?a ?l ?c ?k
      (case a => k_is); (case l => k_is); (case c => k_is); (case k => k_is)
    have t__law_far : L2.TopFn (L2.KOf KX) mg "_law_far" K45.s__law_far := by
      dsimp only [L2.KOf]
      refine' L2.topFn_mk KX G ?a ?l ?c ?k
      (case a => k_is); (case l => k_is); (case c => k_is); (case k => k_is)
    have t__law_ray : L2.TopFn (L2.KOf KX) mg "_law_ray" K45.s__law_ray := by
      dsimp only [L2.KOf]
      refine' L2.topFn_mk KX G ?a ?l ?c ?k
      (case a => k_is); (case l => k_is); (case c => k_is); (case k => k_is)
    have t__law_shape : L2.TopFn (L2.KOf KX) mg "_law_shape" K45.s__law_shape := by
      dsimp only [L2.KOf]
      refine' L2.topFn_mk KX G ?a ?l ?c ?k
      (case a => k_is); (case l => k_is); (case c => k_is); (case k => k_is)
    have t__law_corners : L2.TopFn (L2.KOf KX) mg "_law_corners" K45.s__law_corners := by
      dsimp only [L2.KOf]
      refine' L2.topFn_mk KX G ?a ?l ?c ?k
      (case a => k_is); (case l => k_is); (case c => k_is); (case k => k_is)
    have t__law_due : L2.TopFn (L2.KOf KX) mg "_law_due" K45.s__law_due := by
      dsimp only [L2.KOf]
      refine' L2.topFn_mk KX G ?a ?l ?c ?k
      (case a => k_is); (case l => k_is); (case c => k_is); (case k => k_is)
    have t__law_size : L2.TopFn (L2.KOf KX) mg "_law_size" K45.s__law_size := by
      dsimp only [L2.KOf]
      refine' L2.topFn_mk KX G ?a ?l ?c ?k
      (case a => k_is); (case l => k_is); (case c => k_is); (case k => k_is)
    have t__law_arc_good : L2.TopFn (L2.KOf KX) mg "_law_arc_good" K45.s__law_arc_good := by
      dsimp only [L2.KOf]
      refine' L2.topFn_mk KX G ?a ?l ?c ?k
      (case a => k_is); (case l => k_is); (case c => k_is); (case k => k_is)
    have t_law : L2.TopFn (L2.KOf KX) mg "law" K45.s_law := by
      dsimp only [L2.KOf]
      refine' L2.topFn_mk KX G ?a ?l ?c ?k
      (case a => k_is); (case l => k_is); (case c => k_is); (case k => k_is)
    have z_abs : mg "abs" = none := by
      refine' PySem.W.mg_none_of KX G ?a
      (case a => k_is)
    have z_bool : mg "bool" = none := by
      refine' PySem.W.mg_none_of KX G ?a
      (case a => k_is)
    have z_enumerate : mg "enumerate" = none := by
      refine' PySem.W.mg_none_of KX G ?a
      (case a => k_is)
    have z_int : mg "int" = none := by
      refine' PySem.W.mg_none_of KX G ?a
      (case a => k_is)
    have z_isinstance : mg "isinstance" = none := by
      refine' PySem.W.mg_none_of KX G ?a
      (case a => k_is)
    have z_len : mg "len" = none := by
      refine' PySem.W.mg_none_of KX G ?a
      (case a => k_is)
    have z_list : mg "list" = none := by
      refine' PySem.W.mg_none_of KX G ?a
      (case a => k_is)
    have z_range : mg "range" = none := by
      refine' PySem.W.mg_none_of KX G ?a
      (case a => k_is)
    have X0 : ∃ ad, K45.Exc (L2.KOf KX) mg ad := by
      dsimp only [L2.KOf]
      refine' ⟨_, K45.exc_mk KX G ?m_BenchError ?m_NoNumber ?m_NOUGHT ?lk_NOUGHT⟩
      (case m_BenchError => k_is); (case m_NoNumber => k_is); (case m_NOUGHT => k_is); (case lk_NOUGHT => k_is)
    obtain ⟨ad, X0⟩ := X0
    obtain ⟨fd, FL, bL⟩ := K45.law_fd t_law hmg
    exact ⟨fd, bL, fun base _ _ => L2.FnB.ok (K45.ok_law ⟨X0, z_abs, z_bool, z_enumerate, z_int, z_isinstance, z_len, z_list, z_range, t_is_whole, t_common_divisor, t_ratio_of, t_sum_of, t_less_by, t_product_of, t_quotient_of, t_is_less, t_is_before, t_turn_of, t_is_within, t_size_of, t__law_mix, t__law_halves, t__law_far, t__law_ray, t__law_shape, t__law_corners, t__law_due, t__law_size, t__law_arc_good⟩ FL)⟩
#print axioms PySem.Challenge.cw_grindbench_k45_within_and_size_by_hand_holds
