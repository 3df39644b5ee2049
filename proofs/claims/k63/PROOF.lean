import PyProof.Rows.All
import Wide.All
import OpenK.AllK
import Wide.FinOn
import Lean
import PyProof.EqAt
import PyProof.EqKinds
import PyProof.TupleCall
import PySem.Challenge.RW_grindbench_k63_stocks
set_option Elab.async false
set_option linter.all false
set_option maxRecDepth 100000
set_option maxHeartbeats 1000000
namespace L2
open PySem PySem.Spec PyProof.Rows
abbrev Key := Sum Int Str
def keyIs : Key → Value → Bool
  | .inl k, v => Value.isInt k v
  | .inr x, v => Value.isStrOf x v
def keyH (w : World) : Key → Int
  | .inl k => hashInt k
  | .inr x => hashStr w x
theorem keyIs_shape : ∀ {k : Key} {v : Value}, keyIs k v = true → (∃ i t, k = Sum.inl i ∧ v = Value.int i t) ∨ (∃ x t, k = Sum.inr x ∧ v = Value.str x t)
  | .inl i, v, h => by
    obtain ⟨t, e⟩ := Value.isInt_shape (k := i) (v := v) h
    exact .inl ⟨i, t, rfl, e⟩
  | .inr x, v, h => by
    obtain ⟨t, e⟩ := Value.isStrOf_shape (x := x) (v := v) h
    exact .inr ⟨x, t, rfl, e⟩
theorem keyIs_str (x : Str) (t : Tok) : keyIs (.inr x) (.str x t) = true := by simp [keyIs, Value.isStrOf]
theorem key_ll (a b : Int) : decide ((Sum.inl a : Key) = Sum.inl b) = (a == b) := by
  by_cases e : a = b
  · subst e; simp
  · have h : ¬ (Sum.inl a : Key) = Sum.inl b := fun q => e (Sum.inl.inj q)
    rw [decide_eq_false h]
    exact (beq_eq_false_iff_ne.mpr e).symm
theorem key_rr (a b : Str) : decide ((Sum.inr a : Key) = Sum.inr b) = decide (a = b) := by
  by_cases e : a = b
  · subst e; simp
  · have h : ¬ (Sum.inr a : Key) = Sum.inr b := fun q => e (Sum.inr.inj q)
    rw [decide_eq_false h, decide_eq_false e]
theorem key_lr (a : Int) (b : Str) : decide ((Sum.inl a : Key) = Sum.inr b) = false := decide_eq_false (fun q => nomatch q)
theorem key_rl (a : Str) (b : Int) : decide ((Sum.inr a : Key) = Sum.inl b) = false := decide_eq_false (fun q => nomatch q)
def mixKind (prog : Program) (w : World) : PySem.KeyKind prog w Key where
  is := keyIs
  hash := keyH w
  inj := fun v a b ha hb => by
    rcases keyIs_shape ha with ⟨i, t, rfl, rfl⟩ | ⟨x, t, rfl, rfl⟩
    · rcases keyIs_shape hb with ⟨j, u, rfl, e⟩ | ⟨y, u, rfl, e⟩
      · injection e with e1 _; rw [e1]
      · exact nomatch e
    · rcases keyIs_shape hb with ⟨j, u, rfl, e⟩ | ⟨y, u, rfl, e⟩
      · exact nomatch e
      · injection e with e1 _; rw [e1]
  byValue := fun k v h => by
    rcases keyIs_shape h with ⟨i, t, rfl, rfl⟩ | ⟨x, t, rfl, rfl⟩ <;> rfl
  pyHash := fun hv h => by
    rcases keyIs_shape hv with ⟨i, t, rfl, rfl⟩ | ⟨x, t, rfl, rfl⟩
    · exact wpAny_pyHash_int h
    · exact wpAny_pyHash_str h
  eqBool := fun hu hv h => by
    rcases keyIs_shape hu with ⟨i, t, rfl, rfl⟩ | ⟨x, t, rfl, rfl⟩
    · rcases keyIs_shape hv with ⟨j, u, rfl, rfl⟩ | ⟨y, u, rfl, rfl⟩
      · rw [key_ll] at h; exact wpAny_eqBool_int h
      · rw [key_lr] at h; exact SeqAt.EqAt.int_str i t y u _ _ _ _ h
    · rcases keyIs_shape hv with ⟨j, u, rfl, rfl⟩ | ⟨y, u, rfl, rfl⟩
      · rw [key_rl] at h; exact SeqAt.EqAt.str_int x t j u _ _ _ _ h
      · rw [key_rr] at h; exact wpAny_eqBool_str h
  «strs» := fun k x t v h => by
    rcases keyIs_shape h with ⟨i, u, rfl, e⟩ | ⟨y, u, rfl, e⟩
    · exact nomatch e
    · injection e with e1 _
      subst e1
      cases v <;> rfl
theorem mixKind_str (prog : Program) (w : World) (x : Str) (t : Tok) : (mixKind prog w).is (.inr x) (.str x t) = true := keyIs_str x t
end L2
namespace L2
open PySem PySem.Spec PyProof.Rows
inductive V where
  | non | bl (b : Bool) | int (i : Int) | str (x : Str) | byt (b : Array UInt8) | flt (b : UInt64) | ref (a : Addr) | ty (n : String)
  deriving DecidableEq
def RelV : V → Value → Prop
  | .non, u => u = Value.none
  | .bl b, u => u = Value.bool b
  | .int i, u => ∃ t, u = Value.int i t
  | .str x, u => ∃ t, u = Value.str x t
  | .byt b, u => ∃ t, u = Value.bytes b t
  | .flt b, u => ∃ t, u = Value.float b t
  | .ref a, u => u = Value.ref a
  | .ty n, u => u = Value.type n
abbrev Vals : List V → List Value → Prop := Paired RelV
theorem Vals.length {xs : List V} {us : List Value} (r : Vals xs us) : xs.length = us.length := Paired.length r
theorem Vals.get : ∀ {xs : List V} {us : List Value} {i : Nat} {x : V}, Vals xs us → xs[i]? = some x → ∃ u, us[i]? = some u ∧ RelV x u
  | _, _, _, _, .nil, e => by simp at e
  | _, _, 0, _, .cons r _, e => by simp at e; subst e; exact ⟨_, rfl, r⟩
  | _, _, i + 1, x, .cons _ t, e => by
    obtain ⟨u, h1, h2⟩ := Vals.get (i := i) (x := x) t (by simpa using e)
    exact ⟨u, by simpa using h1, h2⟩
theorem Vals.set {x : V} {u : Value} (r : RelV x u) : ∀ {xs : List V} {us : List Value} (i : Nat), Vals xs us → Vals (xs.set i x) (us.set i u)
  | _, _, _, .nil => .nil
  | _, _, 0, .cons _ t => .cons r t
  | _, _, i + 1, .cons q t => .cons q (Vals.set r i t)
theorem Vals.append : ∀ {xs ys : List V} {us ws : List Value}, Vals xs us → Vals ys ws → Vals (xs ++ ys) (us ++ ws)
  | _, _, _, _, .nil, s => s
  | _, _, _, _, .cons r t, s => .cons r (Vals.append t s)
theorem Vals.take : ∀ {xs : List V} {us : List Value} (n : Nat), Vals xs us → Vals (xs.take n) (us.take n)
  | _, _, 0, _ => .nil
  | _, _, _ + 1, .nil => .nil
  | _, _, n + 1, .cons r t => .cons r (Vals.take n t)
theorem Vals.drop : ∀ {xs : List V} {us : List Value} (n : Nat), Vals xs us → Vals (xs.drop n) (us.drop n)
  | _, _, 0, r => r
  | _, _, _ + 1, .nil => .nil
  | _, _, n + 1, .cons _ t => Vals.drop n t
def RelO : Option V → Option Value → Prop
  | some v, some u => RelV v u
  | none, none => True
  | _, _ => False
def KV {κ : Type} : List (κ × V) → List (κ × Value) → Prop := Paired fun (p : κ × V) (q : κ × Value) => p.1 = q.1 ∧ RelV p.2 q.2
def kV : Key → V
  | .inl i => .int i
  | .inr x => .str x
inductive HO where
  /-- a list -/
  | lst (xs : List V)
  /-- a tuple (never changes) -/
  | tup (xs : List V)
  /-- a dict whose keys are ints and texts; one whose keys are tuples of ints and texts (the empty one is both) -/
  | dK (kvs : List (Key × V)) | dT (kvs : List (List Key × V))
  /-- a set of ints: its members, its size -/
  | set (S : Int → Bool) (n : Nat)
  /-- an instance of the class at C, its dict at dx, its attributes -/
  | ins (C dx : Addr) (fs : List (Str × V))
  /-- the dict of the instance at x -/
  | own (x : Addr)
  /-- the dict of an exception -/
  | xd (fs : List (Str × V))
  /-- a bound method, f of x -/
  | met (f x : Addr)
  /-- a range object lo, lo + 1, .. below hi -/
  | rng (lo hi : Int)
  /-- a thing that is known to the object (the script; a dict while a loop walks it): read, never written while it is so -/
  | frz (o : Obj) (u : HO)
  /-- a code object's table -/
  | tbl (ps : Array Value)
  /-- any other thing, by what is true of its one object (a def of one's own: SetO a S n := HO.ext fun h => ..) -/
  | ext (φ : Heap → Prop)
abbrev Hp := Addr → Option HO
def upd (H : Hp) (a : Addr) (o : HO) : Hp := fun b => if b = a then some o else H b
theorem upd_same {H : Hp} {a : Addr} {o : HO} : upd H a o a = some o := by unfold upd; rw [if_pos rfl]
theorem upd_ne {H : Hp} {a b : Addr} {o : HO} (h : b ≠ a) : upd H a o b = H b := by unfold upd; rw [if_neg h]
theorem ne_of_none {H : Hp} {a b : Addr} {o : HO} (h : H a = some o) (h' : H b = none) : a ≠ b := by
  intro e; subst e; rw [h] at h'; cases h'
section
variable (P : Program) (w : World)
def ObjOk (H : Hp) (h : Heap) (a : Addr) : HO → Prop
  | .lst xs => xs.length ≤ sizeLine ∧ ∃ (its : List Value) (n : Nat), Vals xs its ∧ h.get? a = some { cls := .type "list", data := .seq its.toArray n }
  | .tup xs => xs.length ≤ sizeLine ∧ ∃ its : List Value, Vals xs its ∧ IsTup h a its.toArray
  | .dK kvs => kvs.length ≤ sizeLine ∧ (a == sysModules) = false ∧ ∃ vs, KV kvs vs ∧ h.DictOf (mixKind P w) a vs
  | .dT kvs => kvs.length ≤ sizeLine ∧ (a == sysModules) = false ∧ ∃ xs : List (List Key × Addr × Value),
      Paired (fun (p : List Key × V) (q : List Key × Addr × Value) => p.1 = q.1 ∧ H q.2.1 = some (.tup (p.1.map kV)) ∧ RelV p.2 q.2.2) kvs xs ∧
      ∃ o es ep, h.get? a = some o ∧ o.ExactDict ∧ o.data = .dict es ep ∧ es.toList = xs.map (entryOfKey (tupleKind (mixKind P w))) ∧ (xs.map (·.1)).Nodup
  | .set S n => h.SetOf (intKind P w) a S n
  | .ins C dx fs => H dx = some (.own a) ∧ fs.length ≤ 1000 ∧ dx ≠ a ∧ h.get? a = some (PySem.W.instObj C dx) ∧
      ∃ mA, h.Ns1 dx mA ∧ (∀ f, RelO (fs.lookup f) (mA f)) ∧ PySem.Within mA (fs.map (·.1))
  | .own _ => ∃ o, h.get? a = some o
  | .xd fs => ∃ mA, h.Ns1 a mA ∧ ∀ f, RelO (fs.lookup f) (mA f)
  | .rng lo hi => ∃ t u v, h.get? a = some { cls := .type "range", data := .fields #[.int lo t, .int hi u, .int 1 v] }
  | .frz o u => h.get? a = some o ∧ ObjOk H h a u
  | .tbl ps => h.get? a = some { cls := .none, data := .fields ps }
  | .met f x => h.get? a = some (PySem.W.methodObj (.ref f) (.ref x))
  | .ext φ => φ h ∧ (∃ o, h.get? a = some o) ∧ ∀ h1 h2 : Heap, φ h1 → (∀ o, h1.get? a = some o → h2.get? a = some o) → φ h2
def HOk (H : Hp) (h : Heap) : Prop := ∀ a o, H a = some o → ObjOk P w H h a o
end
section
variable {P : Program} {w : World} {H H' : Hp} {h h' : Heap} {a : Addr} {o : HO}
theorem ObjOk.lt (x : ObjOk P w H h a o) : a < h.objs.size := by
  cases o with
  | lst xs => obtain ⟨_, _, _, _, e⟩ := x; exact Heap.lt_size e
  | tup xs => obtain ⟨_, _, _, p⟩ := x; exact p.lt
  | dK kvs => obtain ⟨_, _, _, _, o, _, _, e, _⟩ := x; exact Heap.lt_size e
  | dT kvs => obtain ⟨_, _, _, _, o, _, _, e, _⟩ := x; exact Heap.lt_size e
  | set S n => obtain ⟨o, _, _, _, e, _⟩ := x; exact Heap.lt_size e
  | ins C dx fs => obtain ⟨_, _, _, e, _⟩ := x; exact Heap.lt_size e
  | own y => obtain ⟨_, e⟩ := x; exact Heap.lt_size e
  | xd fs => obtain ⟨_, ⟨_, _, _, e, _⟩, _⟩ := x; exact Heap.lt_size e
  | rng lo hi => obtain ⟨_, _, _, e⟩ := x; exact Heap.lt_size e
  | frz ob u => obtain ⟨e, _⟩ := x; exact Heap.lt_size e
  | tbl ps => exact Heap.lt_size (show h.get? a = some _ from x)
  | met f y => exact Heap.lt_size (show h.get? a = some _ from x)
  | ext φ => obtain ⟨_, ⟨_, e⟩, _⟩ := x; exact Heap.lt_size e
theorem Paired.mapP {α β : Type} {F G : α → β → Prop} : ∀ {l₁ : List α} {l₂ : List β}, Paired F l₁ l₂ → (∀ a b, F a b → G a b) → Paired G l₁ l₂
  | _, _, .nil, _ => .nil
  | _, _, .cons r t, f => .cons (f _ _ r) (Paired.mapP t f)
theorem ObjOk.stay (x : ObjOk P w H h a o) (k : ∀ b u, (b = a ∨ H b = some (.own a)) → h.get? b = some u → h'.get? b = some u)
    (ho : ∀ b, H b = some (.own a) → H' b = some (.own a)) (ht : ∀ b xs, H b = some (.tup xs) → H' b = some (.tup xs)) : ObjOk P w H' h' a o := by
  induction o with
  | lst xs => obtain ⟨z, its, n, r, e⟩ := x; exact ⟨z, its, n, r, k _ _ (.inl rfl) e⟩
  | tup xs => obtain ⟨z, its, r, ob, e, c⟩ := x; exact ⟨z, its, r, ob, k _ _ (.inl rfl) e, c⟩
  | dK kvs => obtain ⟨z, y, vs, r, ob, es, ep, e, c⟩ := x; exact ⟨z, y, vs, r, ob, es, ep, k _ _ (.inl rfl) e, c⟩
  | dT kvs =>
    obtain ⟨z, y, xs, r, ob, es, ep, e, c⟩ := x
    exact ⟨z, y, xs, Paired.mapP r fun p q z => ⟨z.1, ht _ _ z.2.1, z.2.2⟩, ob, es, ep, k _ _ (.inl rfl) e, c⟩
  | set S n => obtain ⟨ob, es, ep, t, e, c⟩ := x; exact ⟨ob, es, ep, t, k _ _ (.inl rfl) e, c⟩
  | ins C dx fs =>
    obtain ⟨d, z, ne, e, mA, ⟨od, es, ep, e2, c⟩, r⟩ := x
    exact ⟨ho _ d, z, ne, k _ _ (.inl rfl) e, mA, ⟨od, es, ep, k _ _ (.inr d) e2, c⟩, r⟩
  | own y => obtain ⟨ob, e⟩ := x; exact ⟨ob, k _ _ (.inl rfl) e⟩
  | xd fs => obtain ⟨mA, ⟨od, es, ep, e, c⟩, r⟩ := x; exact ⟨mA, ⟨od, es, ep, k _ _ (.inl rfl) e, c⟩, r⟩
  | rng lo hi => obtain ⟨t, u, v, e⟩ := x; exact ⟨t, u, v, k _ _ (.inl rfl) e⟩
  | frz ob u ih => obtain ⟨e, q⟩ := x; exact ⟨k _ _ (.inl rfl) e, ih q⟩
  | tbl ps =>
    have e : h.get? a = some { cls := .none, data := .fields ps } := x
    show h'.get? a = some { cls := .none, data := .fields ps }
    exact k a _ (.inl rfl) e
  | met f y =>
    have e : h.get? a = some (PySem.W.methodObj (.ref f) (.ref y)) := x
    show h'.get? a = some (PySem.W.methodObj (.ref f) (.ref y))
    exact k a _ (.inl rfl) e
  | ext φ => obtain ⟨p, ⟨o, e⟩, st⟩ := x; exact ⟨st _ _ p fun o q => k _ _ (.inl rfl) q, ⟨o, k _ _ (.inl rfl) e⟩, st⟩
theorem HOk.lt (x : HOk P w H h) (e : H a = some o) : a < h.objs.size := (x a o e).lt
theorem HOk.fresh (x : HOk P w H h) (e : h.objs.size ≤ a) : H a = none := by
  cases q : H a with
  | none => rfl
  | some u => exact absurd (Nat.lt_of_lt_of_le (x.lt q) e) (Nat.lt_irrefl _)
theorem HOk.kept (x : HOk P w H h) (k : ∀ b u, h.get? b = some u → h'.get? b = some u) : HOk P w H h' := fun a o e =>
  (x a o e).stay (fun b u _ q => k b u q) (fun _ q => q) fun _ _ q => q
theorem HOk.laid (x : HOk P w H h) (k : ∀ b u, h.get? b = some u → h'.get? b = some u) (hp : h.objs.size ≤ a) (new : ObjOk P w (upd H a o) h' a o) : HOk P w (upd H a o) h' := fun b u e => by
  have hn := x.fresh hp
  by_cases hb : b = a
  · subst hb; rw [upd_same] at e; cases e; exact new
  · rw [upd_ne hb] at e
    exact (x b u e).stay (fun c v _ q => k c v q) (fun c q => by rw [upd_ne (ne_of_none q hn)]; exact q) fun c xs q => by rw [upd_ne (ne_of_none q hn)]; exact q
end
def Rd (H : Hp) (a : Addr) (u : HO) : Prop := H a = some u ∨ ∃ o, H a = some (.frz o u)
theorem Rd.ok {P : Program} {w : World} {H : Hp} {h : Heap} {a : Addr} {u : HO} (r : Rd H a u) (x : HOk P w H h) : ObjOk P w H h a u := by
  rcases r with r | ⟨o, r⟩
  · exact x a u r
  · obtain ⟨_, q⟩ := x a _ r
    exact q
def Mut : Option HO → Prop
  | some (.lst _) => True
  | some (.dK _) => True
  | some (.dT _) => True
  | some (.set _ _) => True
  | some (.ins _ _ _) => True
  | some (.ext _) => True
  | _ => False
section
variable {P : Program} {w : World} {H : Hp} {h h' : Heap} {x e : Addr} {o' : HO}
theorem HOk.write (ok : HOk P w H h) (mu : Mut (H x)) (he : e = x ∨ H e = some (.own x)) (k : ∀ b u, b ≠ e → h.get? b = some u → h'.get? b = some u) (heo : ∃ u, h'.get? e = some u)
    (new : ObjOk P w (upd H x o') h' x o') : HOk P w (upd H x o') h' := fun b u q => by
  have nown : ∀ c y, H c = some (.own y) → c ≠ x := fun c y r z => by subst z; rw [r] at mu; exact mu
  have ntup : ∀ c xs, H c = some (.tup xs) → c ≠ x := fun c xs r z => by subst z; rw [r] at mu; exact mu
  by_cases hb : b = x
  · subst hb; rw [upd_same] at q; cases q; exact new
  · rw [upd_ne hb] at q
    by_cases hbe : b = e
    · have q' : H b = some (.own x) := by
        rcases he with z | z
        · exact absurd (hbe.trans z) hb
        · rw [hbe]; exact z
      rw [q] at q'; cases q'
      obtain ⟨v, hv⟩ := heo
      exact ⟨v, by rw [hbe]; exact hv⟩
    · refine (ok b u q).stay (fun c v hc r => k c v ?_ r) (fun c r => by rw [upd_ne (nown c b r)]; exact r) fun c xs r => by rw [upd_ne (ntup c xs r)]; exact r
      rcases hc with rfl | hc
      · exact hbe
      · rintro rfl
        rcases he with z | z
        · exact nown c b hc z
        · rw [hc] at z; cases z; exact hb rfl
end
structure Un (fs ex : List Addr) (H H' : Hp) (h h' : Heap) : Prop where
  keep : ∀ b o, h.get? b = some o → H b = none → b ∉ fs → b ∉ ex → h'.get? b = some o
  slot : ∀ b o, h.get? b = some o → H b = none → b ∈ fs → b ∉ ex → ∃ sl, h'.get? b = some { o with slots := sl }
  free : ∀ b o, h.get? b = some o → H b = none → b ∉ ex → H' b = none
  there : ∀ b o, h.get? b = some o → b ∉ ex → ∃ o', h'.get? b = some o'
  tups : ∀ b xs, H b = some (.tup xs) → H' b = some (.tup xs)
  frzs : ∀ b o u, H b = some (.frz o u) → H' b = some (.frz o u)
  tbls : ∀ b ps, H b = some (.tbl ps) → ∃ more, H' b = some (.tbl (ps ++ more))
section
variable {fs fs' ex ex' : List Addr} {H H1 H2 : Hp} {h h1 h2 h' : Heap} {a x e : Addr} {o : HO}
theorem Un.any (u : Un fs ex H H1 h h1) {b : Addr} {ob : Obj} (q : h.get? b = some ob) (n : H b = none) (hx : b ∉ ex) : ∃ sl, h1.get? b = some { ob with slots := sl } := by
  by_cases hb : b ∈ fs
  · exact u.slot b ob q n hb hx
  · exact ⟨ob.slots, u.keep b ob q n hb hx⟩
theorem Un.kept (k : ∀ b u, h.get? b = some u → h'.get? b = some u) : Un fs ex H H h h' :=
  ⟨fun b ob q _ _ _ => k b ob q, fun b ob q _ _ _ => ⟨ob.slots, k b ob q⟩, fun _ _ _ n _ => n, fun b ob q _ => ⟨ob, k b ob q⟩, fun _ _ q => q, fun _ _ _ q => q, fun _ ps q => ⟨#[], by rw [q]; simp⟩⟩
theorem Un.refl : Un fs ex H H h h := Un.kept fun _ _ q => q
theorem Un.laid (k : ∀ b u, h.get? b = some u → h'.get? b = some u) (hp : h.objs.size ≤ a) (hn : H a = none) : Un fs ex H (upd H a o) h h' where
  keep := fun b u q _ _ _ => k b u q
  slot := fun b u q _ _ _ => ⟨u.slots, k b u q⟩
  free := fun b u q n _ => by rw [upd_ne (Nat.ne_of_lt (Nat.lt_of_lt_of_le (Heap.lt_size q) hp))]; exact n
  there := fun b u q _ => ⟨u, k b u q⟩
  tups := fun b xs q => by rw [upd_ne (ne_of_none q hn)]; exact q
  frzs := fun b u xs q => by rw [upd_ne (ne_of_none q hn)]; exact q
  tbls := fun b ps q => ⟨#[], by rw [upd_ne (ne_of_none q hn), q]; simp⟩
theorem Un.write (mu : Mut (H x)) (he : e = x ∨ H e = some (.own x)) (k : ∀ b u, b ≠ e → h.get? b = some u → h'.get? b = some u) (heo : ∃ u, h'.get? e = some u) : Un fs ex H (upd H x o) h h' := by
  have hx : ∀ b, H b = none → b ≠ x := fun b n z => by subst z; rw [n] at mu; exact mu
  have hb : ∀ b, H b = none → b ≠ e := fun b n z => by
    subst z
    rcases he with r | r
    · exact hx b n r
    · rw [n] at r; cases r
  have hm : ∀ b u, H b = some u → ¬ Mut (some u) → b ≠ x := fun b u q nm z => by subst z; rw [q] at mu; exact nm mu
  refine ⟨fun b u q n _ _ => k b u (hb b n) q, fun b u q n _ _ => ⟨u.slots, k b u (hb b n) q⟩, fun b u q n _ => by rw [upd_ne (hx b n)]; exact n, fun b u q _ => ?_,
    fun b xs q => by rw [upd_ne (hm b _ q fun z => z)]; exact q, fun b u xs q => by rw [upd_ne (hm b _ q fun z => z)]; exact q, fun b ps q => ⟨#[], by rw [upd_ne (hm b _ q fun z => z), q]; simp⟩⟩
  by_cases hbe : b = e
  · subst hbe; exact heo
  · exact ⟨u, k b u hbe q⟩
end
def trk (h : Heap) (H : Hp) : List Addr := (List.range h.objs.size).filter fun a => (H a).isSome
def hidT (h : Heap) (H : Hp) : Heap := PySem.W.hideAll h (trk h H)
theorem hidT_size (h : Heap) (H : Hp) : (hidT h H).objs.size = h.objs.size := PySem.W.hideAll_size _ _
theorem hidT_get {h : Heap} {H : Hp} {b : Addr} {o : Obj} (e : h.get? b = some o) (n : H b = none) : (hidT h H).get? b = some o :=
  PySem.W.hideAll_get _ e fun hm => by
    have q : (H b).isSome = true := (List.mem_filter.mp hm).2
    rw [n] at q; simp at q
theorem of_hidT {h : Heap} {H : Hp} {b : Addr} {o : Obj} (e : (hidT h H).get? b = some o) : h.get? b = some o ∧ H b = none := by
  have e' : h.get? b = some o := PySem.W.of_hideAll (trk h H) e
  refine ⟨e', ?_⟩
  cases q : H b with
  | none => rfl
  | some x =>
    have hm : b ∈ trk h H := List.mem_filter.mpr ⟨List.mem_range.mpr (Heap.lt_size e'), by simp [q]⟩
    have z : (hidT h H).get? b = none := PySem.W.hideAll_none (trk h H) hm
    rw [z] at e; cases e
end L2
namespace L2
open PySem PySem.Spec PyProof.Rows
structure Mod (K : PySem.W.Frag) (mg : Str → Option Value) (base : Heap) : Prop where
  kin : K.In base
  glob : base.Ns mainGlobals mg
  blt : ∃ mb, base.Ns builtinsNs mb ∧ ∀ x : Str, x ≠ "__name__" → mb x = bootBuiltins x
  nolimit : base.NoLimit
structure Cx where
  prog : Program
  w : World
  K : PySem.W.Frag
  mg : Str → Option Value
  base : Heap
  A : Around
  N : List Str
  s₀ : Shared
  H₀ : Hp
  env : Env
  outer : List Env
  stack : List Env
  ex : List Addr
  fn : Str → Bool
  calm : Bool
  pn : List (Addr × Obj)
  xe : Value → Shared → Prop
def frs (l : List Env) : List Addr := l.filterMap (·.frame)
abbrev Cx.fs (X : Cx) : List Addr := frs X.outer
def Vis (sc : Scope) (x : Str) : Prop := sc.names.lookup x = some .local ∨ sc.names.lookup x = some .cell ∨ sc.names.lookup x = some .free
def Loc (sc : Scope) (x : Str) : Prop := sc.names.lookup x = some .local ∨ sc.names.lookup x = some .cell
def Look (env : Env) (h : Heap) (m : Str → Option Value) (x : Str) (u : Value) : Prop :=
  (env.kindOf x = some .local ∧ m x = some u) ∨ ((env.kindOf x = some .cell ∨ env.kindOf x = some .free) ∧ ∃ c, env.cells.lookup x = some c ∧ h.IsCell c (some u))
structure Cx.Ok (X : Cx) : Prop where
  mod : Mod X.K X.mg X.base
  kind : X.env.scope.kind = .function
  glob : X.env.globals = mainGlobals
  blt : X.env.builtins = builtinsNs
  above : X.s₀.heap.objs.size ≤ X.env.locals
  inj : ∀ x y c, X.env.cells.lookup x = some c → X.env.cells.lookup y = some c → x = y
  has : ∀ x, (X.env.kindOf x = some .cell ∨ X.env.kindOf x = some .free) → ∃ c, X.env.cells.lookup x = some c
  cab : ∀ x c, X.fn x = true → X.env.cells.lookup x = some c → X.s₀.heap.objs.size ≤ c
  hd : X.calm = true → X.A.handled = none
  frames : X.A.frames = some X.stack
  stk : X.stack = X.outer ∨ (X.stack = X.env :: X.outer ∧ X.env.frame = some X.env.locals)
  exf : ∀ b ∈ X.ex, b ≠ X.env.locals ∧ ∀ x c, X.env.cells.lookup x = some c → c ≠ b
  bs : ∀ b o, X.base.get? b = some o → X.s₀.heap.get? b = some o ∧ X.H₀ b = none
  bsz : X.base.objs.size ≤ X.s₀.heap.objs.size
  noex : ∀ b o, X.base.get? b = some o → b ∉ X.ex
  exfs : ∀ b ∈ X.ex, b ∉ X.fs
  funs : X.s₀.heap.FunFrames X.base X.outer
  frf : ∀ b ∈ X.fs, X.H₀ b = none
structure Inv (X : Cx) (pins : List (Addr × Obj)) (σ : List (Option V)) (H : Hp) (s : Shared) : Prop where
  ok : X.Ok
  os : s.os = X.s₀.os
  bare : AllBare s.gens
  base : Un X.fs X.ex X.H₀ H X.s₀.heap s.heap
  loc : ∃ m, s.heap.Ns X.env.locals m ∧ ∀ (i : Nat) (x : Str) (v : V), X.N[i]? = some x → σ[i]? = some (some v) → Vis X.env.scope x → ∃ u, RelV v u ∧ Look X.env s.heap m x u
  cell : ∀ x c, X.env.cells.lookup x = some c → ∃ v, s.heap.IsCell c v
  free : H X.env.locals = none
  freeC : ∀ x c, X.env.cells.lookup x = some c → H c = none
  pin : ∀ p ∈ X.pn ++ pins, s.heap.get? p.1 = some p.2 ∧ H p.1 = none ∧ p.1 ≠ X.env.locals ∧ p.1 ∉ X.fs ∧ ∀ v, p.2.data ≠ .cell v
  hok : HOk X.prog X.w H s.heap
  len : σ.length = X.N.length
section
variable {X : Cx} {pins : List (Addr × Obj)} {σ : List (Option V)} {H H' : Hp} {s : Shared} {h' : Heap}
theorem Cx.Ok.nofr (ok : X.Ok) {b : Addr} {o : Obj} (e : X.base.get? b = some o) : b ∉ X.fs := fun hb => by
  have := (ok.funs.mem hb).1
  rw [e] at this; cases this
theorem Inv.bs (I : Inv X pins σ H s) : ∀ b o, X.base.get? b = some o → s.heap.get? b = some o ∧ H b = none := fun b o e =>
  ⟨I.base.keep b o (I.ok.bs b o e).1 (I.ok.bs b o e).2 (I.ok.nofr e) (I.ok.noex b o e), I.base.free b o (I.ok.bs b o e).1 (I.ok.bs b o e).2 (I.ok.noex b o e)⟩
theorem Inv.bk (I : Inv X pins σ H s) : ∀ b o, X.base.get? b = some o → s.heap.get? b = some o := fun b o e => (I.bs b o e).1
theorem Inv.mod (I : Inv X pins σ H s) : Mod X.K X.mg X.base := I.ok.mod
theorem Inv.kIn (I : Inv X pins σ H s) : X.K.In s.heap := I.ok.mod.kin.keeps I.bk
theorem Inv.lt (I : Inv X pins σ H s) : X.env.locals < s.heap.objs.size := let ⟨_, hn, _⟩ := I.loc; hn.lt
theorem Inv.sz (I : Inv X pins σ H s) : X.s₀.heap.objs.size ≤ s.heap.objs.size := Nat.le_trans I.ok.above (Nat.le_of_lt I.lt)
theorem Inv.nofs (I : Inv X pins σ H s) {a : Addr} (h : s.heap.objs.size ≤ a) : a ∉ X.fs := fun hb => by
  obtain ⟨_, o, ho, _⟩ := I.ok.funs.mem hb
  exact absurd (Nat.lt_of_lt_of_le (Heap.lt_size ho) (Nat.le_trans I.sz h)) (Nat.lt_irrefl _)
theorem Inv.cne (I : Inv X pins σ H s) : ∀ x c, X.env.cells.lookup x = some c → c ≠ X.env.locals := fun x c e z => by
  obtain ⟨v, o, ho, hd⟩ := I.cell x c e
  obtain ⟨m, ⟨o', es, ep, ho', hd', _⟩, _⟩ := I.loc
  rw [z, ho'] at ho; cases ho; rw [hd'] at hd; cases hd
theorem Inv.funs (I : Inv X pins σ H s) : s.heap.FunFrames X.base X.outer := by
  have all : ∀ (l : List Env), (∀ b ∈ frs l, b ∈ X.fs) → X.s₀.heap.FunFrames X.base l → s.heap.FunFrames X.base l := by
    intro l
    induction l with
    | nil => intro _ _; trivial
    | cons env r ih =>
      intro hs hl
      obtain ⟨hk, ⟨L, o, hf, hn, ho, hd⟩, hr⟩ := hl
      have hL : L ∈ X.fs := hs L (by unfold frs; rw [List.filterMap_cons, hf]; exact List.mem_cons_self)
      obtain ⟨sl, e⟩ := I.base.slot L o ho (I.ok.frf L hL) hL fun z => I.ok.exfs L z hL
      exact ⟨hk, ⟨L, _, hf, hn, e, hd⟩, ih (fun b hb => hs b (by unfold frs; rw [List.filterMap_cons, hf]; exact List.mem_cons_of_mem _ hb)) hr⟩
  exact all X.outer (fun _ hb => hb) I.ok.funs
theorem Inv.stack (I : Inv X pins σ H s) : s.heap.FunFrames X.base X.stack := by
  rcases I.ok.stk with e | ⟨e, hf⟩
  · rw [e]; exact I.funs
  · rw [e]
    obtain ⟨m, hn, _⟩ := I.loc
    refine .cons (by rw [I.ok.kind]; decide) hf hn ?_ I.funs
    exact Heap.get?_none_of_le (Nat.le_trans I.ok.bsz I.ok.above)
theorem Inv.stkSub (I : Inv X pins σ H s) : ∀ b ∈ frs X.stack, b ∈ X.env.locals :: X.fs := fun b hb => by
  rcases I.ok.stk with e | ⟨e, hf⟩
  · rw [e] at hb; exact List.mem_cons_of_mem _ hb
  · rw [e] at hb
    unfold frs at hb
    rw [List.filterMap_cons, hf] at hb
    exact hb
theorem Inv.stkFree (I : Inv X pins σ H s) : ∀ b ∈ frs X.stack, H b = none := fun b hb => by
  rcases List.mem_cons.mp (I.stkSub b hb) with e | hb
  · rw [e]; exact I.free
  · obtain ⟨_, o, ho, _⟩ := I.ok.funs.mem hb
    exact I.base.free b o ho (I.ok.frf b hb) fun z => I.ok.exfs b z hb
theorem Inv.step {g' : Array GenState} {t' : Nat} {d' : Drawn} {ch : List Addr} (I : Inv X pins σ H s)
    (hch : ∀ b ∈ ch, (b ∈ X.ex ∨ X.s₀.heap.objs.size ≤ b) ∧ b ≠ X.env.locals ∧ (∀ x c, X.env.cells.lookup x = some c → c ≠ b) ∧ ∀ p ∈ X.pn ++ pins, p.1 ≠ b)
    (keep : ∀ b o, b ≠ X.env.locals → b ∉ X.fs → b ∉ ch → s.heap.get? b = some o → H b = none → h'.get? b = some o)
    (slot : ∀ b o, b ≠ X.env.locals → b ∈ X.fs → b ∉ ch → s.heap.get? b = some o → H b = none → ∃ sl, h'.get? b = some { o with slots := sl }) (free : ∀ b o, b ∉ ch → s.heap.get? b = some o → H b = none → H' b = none)
    (there : ∀ b o, b ∉ ch → s.heap.get? b = some o → ∃ o', h'.get? b = some o')
    (tups : ∀ b xs, H b = some (.tup xs) → H' b = some (.tup xs)) (frzs : ∀ b o u, H b = some (.frz o u) → H' b = some (.frz o u)) (tbls : ∀ b ps, H b = some (.tbl ps) → ∃ more, H' b = some (.tbl (ps ++ more)))
    (ns : ∀ m, s.heap.Ns X.env.locals m → h'.Ns X.env.locals m) (hok : HOk X.prog X.w H' h') (hg : AllBare g') :
    Inv X pins σ H' { s with heap := h', gens := g', drawn := d', toks := t' } := by
  have neL : ∀ b o, X.s₀.heap.get? b = some o → b ≠ X.env.locals := fun b o e => Nat.ne_of_lt (Nat.lt_of_lt_of_le (Heap.lt_size e) I.ok.above)
  have neC : ∀ b o, X.s₀.heap.get? b = some o → b ∉ X.ex → b ∉ ch := fun b o e hx hb => by
    rcases (hch b hb).1 with z | z
    · exact hx z
    · exact absurd (Nat.lt_of_lt_of_le (Heap.lt_size e) z) (Nat.lt_irrefl _)
  have cellK : ∀ x c, X.env.cells.lookup x = some c → ∀ v, s.heap.IsCell c v → h'.IsCell c v := fun x c e v ⟨o, ho, hd⟩ => by
    have nch : c ∉ ch := fun z => (hch c z).2.2.1 x c e rfl
    by_cases hc : c ∈ X.fs
    · obtain ⟨sl, q⟩ := slot c o (I.cne x c e) hc nch ho (I.freeC x c e)
      exact ⟨_, q, hd⟩
    · exact ⟨o, keep c o (I.cne x c e) hc nch ho (I.freeC x c e), hd⟩
  refine ⟨I.ok, I.os, hg, ⟨fun b o e n hb hx => ?_, fun b o e n hb hx => ?_, fun b o e n hx => ?_, fun b o e hx => ?_, fun b xs e => tups b xs (I.base.tups b xs e), fun b o xs e => frzs b o xs (I.base.frzs b o xs e), fun b ps e => ?_⟩, ?_, fun x c e => ?_, ?_, fun x c e => ?_, fun p hp => ?_, hok, I.len⟩
  · exact keep b o (neL b o e) hb (neC b o e hx) (I.base.keep b o e n hb hx) (I.base.free b o e n hx)
  · obtain ⟨sl, e1⟩ := I.base.slot b o e n hb hx
    obtain ⟨sl', e2⟩ := slot b _ (neL b o e) hb (neC b o e hx) e1 (I.base.free b o e n hx)
    exact ⟨sl', e2⟩
  · obtain ⟨o', e1⟩ := I.base.there b o e hx
    exact free b o' (neC b o e hx) e1 (I.base.free b o e n hx)
  · obtain ⟨o', e1⟩ := I.base.there b o e hx
    exact there b o' (neC b o e hx) e1
  · obtain ⟨m1, e1⟩ := I.base.tbls b ps e
    obtain ⟨m2, e2⟩ := tbls b _ e1
    exact ⟨m1 ++ m2, by rw [e2, Array.append_assoc]⟩
  · obtain ⟨m, hn, hl⟩ := I.loc
    refine ⟨m, ns m hn, fun i x v e1 e2 e3 => ?_⟩
    obtain ⟨u, r, l⟩ := hl i x v e1 e2 e3
    refine ⟨u, r, ?_⟩
    rcases l with l | ⟨k, c, e, z⟩
    · exact .inl l
    · exact .inr ⟨k, c, e, cellK x c e _ z⟩
  · obtain ⟨v, z⟩ := I.cell x c e
    exact ⟨v, cellK x c e v z⟩
  · obtain ⟨m, ⟨o, _, _, ho, _⟩, _⟩ := I.loc
    exact free _ o (fun z => (hch _ z).2.1 rfl) ho I.free
  · obtain ⟨v, o, ho, hd⟩ := I.cell x c e
    exact free c o (fun z => (hch c z).2.2.1 x c e rfl) ho (I.freeC x c e)
  · obtain ⟨e, n, ne, nf, d⟩ := I.pin p hp
    have nch : p.1 ∉ ch := fun z => (hch p.1 z).2.2.2 p hp rfl
    exact ⟨keep p.1 p.2 ne nf nch e n, free p.1 p.2 nch e n, ne, nf, d⟩
theorem Inv.un {t' : Nat} (I : Inv X pins σ H s) (u : Un X.fs [] H H' s.heap h') (hok : HOk X.prog X.w H' h') : Inv X pins σ H' { s with heap := h', toks := t' } := by
  obtain ⟨m, ⟨o, es, ep, ho, r⟩, _⟩ := id I.loc
  obtain ⟨sl, hL⟩ := u.any ho I.free (by simp)
  exact I.step (g' := s.gens) (d' := s.drawn) (ch := []) (fun _ z => nomatch z) (fun b o _ hb _ e n => u.keep b o e n hb (by simp)) (fun b o _ hb _ e n => u.slot b o e n hb (by simp)) (fun b o _ e n => u.free b o e n (by simp)) (fun b o _ e => u.there b o e (by simp)) u.tups u.frzs u.tbls (fun m' hm => by
    obtain ⟨o', es', ep', ho', r'⟩ := hm
    rw [ho] at ho'; cases ho'
    exact ⟨_, es', ep', hL, r'⟩) hok I.bare
theorem Inv.call {g' : Array GenState} {t' : Nat} {d' : Drawn} {ch : List Addr} (I : Inv X pins σ H s) (u : Un (frs X.stack) ch H H' s.heap h') (hok : HOk X.prog X.w H' h') (hg : AllBare g')
    (hch : ∀ b ∈ ch, (b ∈ X.ex ∨ X.s₀.heap.objs.size ≤ b) ∧ b ≠ X.env.locals ∧ (∀ x c, X.env.cells.lookup x = some c → c ≠ b) ∧ ∀ p ∈ X.pn ++ pins, p.1 ≠ b) :
    Inv X pins σ H' { s with heap := h', gens := g', drawn := d', toks := t' } := by
  obtain ⟨m, ⟨o, es, ep, ho, r⟩, _⟩ := id I.loc
  obtain ⟨sl, hL⟩ := u.any ho I.free fun z => (hch _ z).2.1 rfl
  exact I.step (ch := ch) hch (fun b o hL hb hc e n => u.keep b o e n (fun z => (List.mem_cons.mp (I.stkSub b z)).elim hL hb) hc) (fun b o _ _ hc e n => u.any e n hc) (fun b o hc e n => u.free b o e n hc) (fun b o hc e => u.there b o e hc) u.tups u.frzs u.tbls (fun m' hm => by
    obtain ⟨o', es', ep', ho', r'⟩ := hm
    rw [ho] at ho'; cases ho'
    exact ⟨_, es', ep', hL, r'⟩) hok hg
theorem Inv.turned {t' : Nat} {it : Addr} (I : Inv X pins σ H s) (k : ∀ b o, b ≠ it → s.heap.get? b = some o → h'.get? b = some o) (hn : H it = none) (hL : it ≠ X.env.locals)
    (h1 : it ∈ X.ex ∨ X.s₀.heap.objs.size ≤ it) (h2 : ∀ x c, X.env.cells.lookup x = some c → c ≠ it) (h3 : ∀ p ∈ X.pn ++ pins, p.1 ≠ it) : Inv X pins σ H { s with heap := h', toks := t' } := by
  have nit : ∀ b u, H b = some u → b ≠ it := fun b u e z => by rw [z, hn] at e; cases e
  refine I.step (g' := s.gens) (d' := s.drawn) (ch := [it]) (fun b hb => ?_) (fun b o _ _ hc e _ => k b o (fun z => hc (by simp [z])) e) (fun b o _ _ hc e _ => ⟨o.slots, k b o (fun z => hc (by simp [z])) e⟩) (fun _ _ _ _ n => n)
    (fun b o hc e => ⟨o, k b o (fun z => hc (by simp [z])) e⟩) (fun _ _ e => e) (fun _ _ _ e => e) (fun b ps e => ⟨#[], by rw [e]; simp⟩) (fun m hm => ?_) (fun b u e => ?_) I.bare
  · have e : b = it := by simpa using hb
    subst e
    exact ⟨h1, hL, h2, h3⟩
  · obtain ⟨o, es, ep, ho, r⟩ := hm
    exact ⟨o, es, ep, k _ o (Ne.symm hL) ho, r⟩
  · refine (I.hok b u e).stay (fun c v hc q => k c v ?_ q) (fun _ q => q) fun _ _ q => q
    rcases hc with z | z
    · rw [z]; exact nit b u e
    · exact nit c _ z
theorem Inv.tok (I : Inv X pins σ H s) (t : Nat) : Inv X pins σ H { s with toks := t } := I.un (h' := s.heap) (t' := t) Un.refl I.hok
theorem Inv.kept {t' : Nat} (I : Inv X pins σ H s) (k : ∀ b u, s.heap.get? b = some u → h'.get? b = some u) : Inv X pins σ H { s with heap := h', toks := t' } := I.un (Un.kept k) (I.hok.kept k)
theorem Inv.laid {a : Addr} {o : HO} {t' : Nat} (I : Inv X pins σ H s) (k : ∀ b u, s.heap.get? b = some u → h'.get? b = some u) (hp : s.heap.objs.size ≤ a) (new : ObjOk X.prog X.w (upd H a o) h' a o) :
    Inv X pins σ (upd H a o) { s with heap := h', toks := t' } := I.un (Un.laid k hp (I.hok.fresh hp)) (I.hok.laid k hp new)
theorem Inv.write {x e : Addr} {o : HO} {t' : Nat} (I : Inv X pins σ H s) (mu : Mut (H x)) (he : e = x ∨ H e = some (.own x)) (k : ∀ b u, b ≠ e → s.heap.get? b = some u → h'.get? b = some u) (heo : ∃ u, h'.get? e = some u)
    (new : ObjOk X.prog X.w (upd H x o) h' x o) : Inv X pins σ (upd H x o) { s with heap := h', toks := t' } := I.un (Un.write mu he k heo) (I.hok.write mu he k heo new)
theorem Inv.pins_of {pins' : List (Addr × Obj)} (I : Inv X pins σ H s) (h : ∀ p ∈ pins', s.heap.get? p.1 = some p.2 ∧ H p.1 = none ∧ p.1 ≠ X.env.locals ∧ p.1 ∉ X.fs ∧ ∀ v, p.2.data ≠ .cell v) : Inv X pins' σ H s :=
  ⟨I.ok, I.os, I.bare, I.base, I.loc, I.cell, I.free, I.freeC, fun p hp => (List.mem_append.mp hp).elim (fun z => I.pin p (List.mem_append_left _ z)) (h p), I.hok, I.len⟩
theorem nodup_ix {N : List Str} (hN : N.Nodup) {i j : Nat} {x : Str} (a : N[i]? = some x) (b : N[j]? = some x) : i = j := by
  obtain ⟨h1, e1⟩ := List.getElem?_eq_some_iff.mp a
  obtain ⟨h2, e2⟩ := List.getElem?_eq_some_iff.mp b
  exact (List.getElem_inj hN).mp (e1.trans e2.symm)
theorem store_ok2 {M : Model} {A : Around} {E : Value → Shared → Prop} {i : Nat} {x : Str} {v : V} {u : Value} {Q : Unit → Shared → Prop} (I : Inv X pins σ H s) (hN : X.N.Nodup) (hi : X.N[i]? = some x) (hx : Loc X.env.scope x) (r : RelV v u)
    (h : ∀ s', Inv X pins (σ.set i (some v)) H s' → (∃ a, Heap.SameBut a s.heap s'.heap ∧ (a = X.env.locals ∨ X.env.cells.lookup x = some a)) → Q () s') (hf : X.fn x = true ∨ X.env.scope.names.lookup x = some .local := by first | exact .inl rfl | exact .inr rfl | assumption) : wpAny M A (storeName X.env x u) Q E s := by
  obtain ⟨m, hn, hl⟩ := id I.loc
  have hcls : (X.env.scope.kind == .class || (X.env.scope.kind == .module && X.env.locals != X.env.globals)) = false := by rw [I.ok.kind]; rfl
  have hiσ : i < σ.length := by rw [I.len]; exact (List.getElem?_eq_some_iff.mp hi).1
  have cne := I.cne
  have tracked : ∀ {a : Addr} {h' : Heap}, (∃ o, s.heap.get? a = some o ∧ H a = none) → Heap.SameBut a s.heap h' → HOk X.prog X.w H h' := fun {a h'} ha hs b ob e => by
    obtain ⟨_, _, hfree⟩ := ha
    refine (I.hok b ob e).stay (fun c w' hc q => (hs.2 c ?_).trans q) (fun _ q => q) fun _ _ q => q
    rintro rfl
    rcases hc with rfl | hc
    · rw [hfree] at e; cases e
    · rw [hfree] at hc; cases hc
  rcases hx with hk | hk
  · refine wpAny_storeName_local hk hn (fun h' hn' hs => ?_) hcls
    obtain ⟨oL, _, _, hoL, _⟩ := id hn
    refine h _ ⟨I.ok, I.os, I.bare, ⟨fun b o e n hb hx => ?_, fun b o e n hb hx => ?_, I.base.free, fun b o e hx => ?_, I.base.tups, I.base.frzs, I.base.tbls⟩, ⟨_, hn', fun j y v' e1 e2 e3 => ?_⟩, fun y c e => ?_, I.free, I.freeC, fun p hp => ?_, tracked ⟨oL, hoL, I.free⟩ hs, by simpa using I.len⟩ ⟨_, hs, .inl rfl⟩
    · exact (hs.2 b (Nat.ne_of_lt (Nat.lt_of_lt_of_le (Heap.lt_size e) I.ok.above))).trans (I.base.keep b o e n hb hx)
    · obtain ⟨sl, e1⟩ := I.base.slot b o e n hb hx
      exact ⟨sl, (hs.2 b (Nat.ne_of_lt (Nat.lt_of_lt_of_le (Heap.lt_size e) I.ok.above))).trans e1⟩
    · obtain ⟨o', e1⟩ := I.base.there b o e hx
      exact ⟨o', (hs.2 b (Nat.ne_of_lt (Nat.lt_of_lt_of_le (Heap.lt_size e) I.ok.above))).trans e1⟩
    · by_cases hj : j = i
      · subst hj
        rw [hi] at e1; cases e1
        rw [List.getElem?_set_self hiσ] at e2
        cases e2
        exact ⟨u, r, .inl ⟨hk, by simp⟩⟩
      · rw [List.getElem?_set_ne (Ne.symm hj)] at e2
        obtain ⟨u', r', q⟩ := hl j y v' e1 e2 e3
        refine ⟨u', r', ?_⟩
        rcases q with ⟨k, e⟩ | ⟨k, c, e, z⟩
        · refine .inl ⟨k, ?_⟩
          have : y ≠ x := fun e => hj (nodup_ix hN e1 (e ▸ hi))
          simp [this, e]
        · exact .inr ⟨k, c, e, z.sameBut hs (cne y c e)⟩
    · obtain ⟨w', z⟩ := I.cell y c e
      exact ⟨w', z.sameBut hs (cne y c e)⟩
    · obtain ⟨e, n, ne, nf, d⟩ := I.pin p hp
      exact ⟨(hs.2 p.1 ne).trans e, n, ne, nf, d⟩
  · have hfn : X.fn x = true := by
      rcases hf with z | z
      · exact z
      · rw [z] at hk; cases hk
    obtain ⟨c, hc⟩ := I.ok.has x (.inl hk)
    obtain ⟨w', z⟩ := I.cell x c hc
    refine wpAny_storeName_cell I.ok.kind hk hc z (fun h' hc' hs => ?_)
    obtain ⟨oc, hoc, hocd⟩ := id z
    refine h { s with heap := h' } ⟨I.ok, I.os, I.bare, ⟨fun b o e n hb hx => ?_, fun b o e n hb hx => ?_, I.base.free, fun b o e hx => ?_, I.base.tups, I.base.frzs, I.base.tbls⟩, ⟨m, hn.sameBut hs (Ne.symm (cne x c hc)), fun j y v' e1 e2 e3 => ?_⟩, fun y c' e => ?_, I.free, I.freeC, fun p hp => ?_, tracked ⟨oc, hoc, I.freeC x c hc⟩ hs, by simpa using I.len⟩ ⟨c, hs, .inr hc⟩
    · exact (hs.2 b (Nat.ne_of_lt (Nat.lt_of_lt_of_le (Heap.lt_size e) (I.ok.cab x c hfn hc)))).trans (I.base.keep b o e n hb hx)
    · obtain ⟨sl, e1⟩ := I.base.slot b o e n hb hx
      exact ⟨sl, (hs.2 b (Nat.ne_of_lt (Nat.lt_of_lt_of_le (Heap.lt_size e) (I.ok.cab x c hfn hc)))).trans e1⟩
    · obtain ⟨o', e1⟩ := I.base.there b o e hx
      exact ⟨o', (hs.2 b (Nat.ne_of_lt (Nat.lt_of_lt_of_le (Heap.lt_size e) (I.ok.cab x c hfn hc)))).trans e1⟩
    · by_cases hj : j = i
      · subst hj
        rw [hi] at e1; cases e1
        rw [List.getElem?_set_self hiσ] at e2
        cases e2
        exact ⟨u, r, .inr ⟨.inl hk, c, hc, hc'⟩⟩
      · rw [List.getElem?_set_ne (Ne.symm hj)] at e2
        obtain ⟨u', r', q⟩ := hl j y v' e1 e2 e3
        refine ⟨u', r', ?_⟩
        rcases q with q | ⟨k, c', e, z'⟩
        · exact .inl q
        · refine .inr ⟨k, c', e, z'.sameBut hs ?_⟩
          rintro rfl
          exact hj (nodup_ix hN e1 (I.ok.inj _ _ _ e hc ▸ hi))
    · by_cases hcc : c' = c
      · subst hcc; exact ⟨_, hc'⟩
      · obtain ⟨w2, z2⟩ := I.cell y c' e
        exact ⟨w2, z2.sameBut hs hcc⟩
    · obtain ⟨e, n, ne, nf, d⟩ := I.pin p hp
      refine ⟨(hs.2 p.1 ?_).trans e, n, ne, nf, d⟩
      intro q
      rw [q, hoc] at e
      have q' : oc = p.2 := Option.some.inj e
      exact d w' (by rw [← q']; exact hocd)
theorem store_ok {M : Model} {A : Around} {E : Value → Shared → Prop} {i : Nat} {x : Str} {v : V} {u : Value} {Q : Unit → Shared → Prop} (I : Inv X pins σ H s) (hN : X.N.Nodup) (hi : X.N[i]? = some x) (hx : Loc X.env.scope x) (r : RelV v u)
    (h : ∀ s', Inv X pins (σ.set i (some v)) H s' → Q () s') (hf : X.fn x = true ∨ X.env.scope.names.lookup x = some .local := by first | exact .inl rfl | exact .inr rfl | assumption) : wpAny M A (storeName X.env x u) Q E s :=
  store_ok2 I hN hi hx r (fun s' I' _ => h s' I') hf
theorem Inv.call' {s' : Shared} {ch : List Addr} (I : Inv X pins σ H s) (ho : s'.os = s.os) (u : Un (frs X.stack) ch H H' s.heap s'.heap) (hok : HOk X.prog X.w H' s'.heap) (hg : AllBare s'.gens)
    (hch : ∀ b ∈ ch, (b ∈ X.ex ∨ X.s₀.heap.objs.size ≤ b) ∧ b ≠ X.env.locals ∧ (∀ x c, X.env.cells.lookup x = some c → c ≠ b) ∧ ∀ p ∈ X.pn ++ pins, p.1 ≠ b) : Inv X pins σ H' s' := by
  obtain ⟨h', g', d', t', o'⟩ := s'
  have e : o' = s.os := ho
  subst e
  exact I.call (g' := g') (t' := t') (d' := d') u hok hg hch
end
abbrev XK := Value → Option Addr → Hp → Prop
abbrev St := List (Option V)
abbrev VK := V → Hp → Prop
abbrev TE := St → Hp → VK → Prop
abbrev TT := St → Hp → (Bool → Hp → Prop) → Prop
abbrev TA := St → Hp → (List V → Hp → Prop) → Prop
structure Ends where
  nx : St → Hp → Prop
  rt : VK
  bk : St → Hp → Prop := fun _ _ => False
  ct : St → Hp → Prop := fun _ _ => False
abbrev TS := Ends → St → Hp → Prop
def EP (X : Cx) (pins : List (Addr × Obj)) (σ : St) (Q : VK) (u : Value) (s' : Shared) : Prop := ∃ v H', Inv X pins σ H' s' ∧ RelV v u ∧ Q v H'
def TP (X : Cx) (pins : List (Addr × Obj)) (σ : St) (Q : Bool → Hp → Prop) (b : Bool) (s' : Shared) : Prop := ∃ H', Inv X pins σ H' s' ∧ Q b H'
def AP (X : Cx) (pins : List (Addr × Obj)) (σ : St) (Q : List V → Hp → Prop) (us : List Value) (s' : Shared) : Prop := ∃ vs H', Inv X pins σ H' s' ∧ Vals vs us ∧ Q vs H'
def SP (X : Cx) (pins : List (Addr × Obj)) (D : Ends) (f : Flow) (s' : Shared) : Prop :=
  match f with
  | .next => ∃ σ' H', Inv X pins σ' H' s' ∧ D.nx σ' H'
  | .brk => ∃ σ' H', Inv X pins σ' H' s' ∧ D.bk σ' H'
  | .cont => ∃ σ' H', Inv X pins σ' H' s' ∧ D.ct σ' H'
  | .ret u => ∃ v σ' H', Inv X pins σ' H' s' ∧ RelV v u ∧ D.rt v H'
def PE (X : Cx) (e : Expr) (t : TE) : Prop :=
  ∀ (pins : List (Addr × Obj)) (s : Shared) (σ : St) (H : Hp) (Q : VK), Inv X pins σ H s → t σ H Q → wpAny (model X.prog X.w) X.A (eval e X.env) (EP X pins σ Q) X.xe s
def PT (X : Cx) (e : Expr) (t : TT) : Prop :=
  ∀ (pins : List (Addr × Obj)) (s : Shared) (σ : St) (H : Hp) (Q : Bool → Hp → Prop), Inv X pins σ H s → t σ H Q → wpAny (model X.prog X.w) X.A (isTrue e X.env (eval e X.env)) (TP X pins σ Q) X.xe s
def PW (X : Cx) (e : Expr) (t : TT) : Prop :=
  ∀ (whole : Sem Value) (pins : List (Addr × Obj)) (s : Shared) (σ : St) (H : Hp) (Q : Bool → Hp → Prop), Inv X pins σ H s → t σ H Q → wpAny (model X.prog X.w) X.A (isTrue e X.env whole) (TP X pins σ Q) X.xe s
theorem PW.pt {X : Cx} {e : Expr} {t : TT} (h : PW X e t) : PT X e t := h _
def PA (X : Cx) (es : List Expr) (t : TA) : Prop :=
  ∀ (pos : Pos) (pins : List (Addr × Obj)) (s : Shared) (σ : St) (H : Hp) (Q : List V → Hp → Prop), Inv X pins σ H s → t σ H Q → wpAny (model X.prog X.w) X.A (spliced (backTo pos (starEach es X.env))) (AP X pins σ Q) X.xe s
def PS (X : Cx) (st : Stmt) (t : TS) : Prop :=
  ∀ (pins : List (Addr × Obj)) (s : Shared) (σ : St) (H : Hp) (D : Ends), Inv X pins σ H s → t D σ H → wpAny (model X.prog X.w) X.A (exec st X.env) (SP X pins D) X.xe s
def PSs (X : Cx) (st : List Stmt) (t : TS) : Prop :=
  ∀ (pins : List (Addr × Obj)) (s : Shared) (σ : St) (H : Hp) (D : Ends), Inv X pins σ H s → t D σ H → wpAny (model X.prog X.w) X.A (execs st X.env) (SP X pins D) X.xe s
theorem thn {α : Type} {t : Sem α} {Q Q' : α → Shared → Prop} {M : Model} {A : Around} {E : Value → Shared → Prop} {s : Shared} (h : wpAny M A t Q E s) (hQ : ∀ a s, Q a s → Q' a s) : wpAny M A t Q' E s := wpAny_mono h hQ fun _ _ x => x
end L2
namespace L2
open PySem PySem.Spec PyProof.Rows
section
variable {X : Cx}
def tVar (i : Nat) : TE := fun σ H Q => ∃ v, σ[i]? = some (some v) ∧ Q v H
def tC (v : V) : TE := fun _ H Q => Q v H
theorem pe_var {i : Nat} {x : Str} {pos : Pos} (hN : X.N[i]? = some x) (hv : Vis X.env.scope x) (hd : (x == ("__debug__" : Str)) = false := by decide) (hcd : (x == ("__classdict__" : Str)) = false := by decide) : PE X (.Name x pos) (tVar i) := by
  intro pins s σ H Q I h
  obtain ⟨v, e, h⟩ := h
  obtain ⟨m, hn, hl⟩ := I.loc
  obtain ⟨u, r, l⟩ := hl i x v hN e hv
  have fin : EP X pins σ Q u s := ⟨v, H, I, r, h⟩
  rcases l with ⟨hk, hm⟩ | ⟨hk, c, hc, hcell⟩
  · exact wpAny_Name (wpAny_loadName_local I.ok.kind hk hn hm fin) hd
  · rcases hk with hk | hk
    · exact wpAny_Name (wpAny_loadName_cell I.ok.kind hk hc hcell fin) hd
    · exact wpAny_Name (wpAny_loadName_free I.ok.kind hk hc hcell fin hcd) hd
theorem pe_int {i j pos} : PE X (.Constant (.int i) j pos) (tC (.int i)) := fun _ _ _ H _ I h => wpAny_Constant_int ⟨.int i, H, I.tok _, ⟨_, rfl⟩, h⟩
theorem pe_bl {b j pos} : PE X (.Constant (.bool b) j pos) (tC (.bl b)) := fun _ _ _ H _ I h => Constant_bool ⟨.bl b, H, I, rfl, h⟩
theorem pe_non {j pos} : PE X (.Constant .none j pos) (tC .non) := fun _ _ _ H _ I h => Constant_none ⟨.non, H, I, rfl, h⟩
theorem pe_str {x j pos} : PE X (.Constant (.str x) j pos) (tC (.str x)) := fun _ _ _ H _ I h => Calls.Constant_str ⟨.str x, H, I.tok _, ⟨_, rfl⟩, h⟩
def Gl (X : Cx) (x : Str) : Prop := X.env.kindOf x = some .globalImplicit
theorem ld_glob {E : Value → Shared → Prop} {pins : List (Addr × Obj)} {s : Shared} {σ : St} {H : Hp} {x : Str} {u : Value} {pos : Pos} {Q : Value → Shared → Prop} (I : Inv X pins σ H s) (hg : Gl X x) (hm : X.mg x = some u) (h : Q u s)
    (hd : (x == ("__debug__" : Str)) = false := by decide) : wpAny (model X.prog X.w) X.A (eval (.Name x pos) X.env) Q E s :=
  Calls.Name_function_global I.ok.kind hg (Calls.loadGlobal_global (by rw [I.ok.glob]; exact I.mod.glob.keeps I.bk) hm h) hd
theorem ld_blt {E : Value → Shared → Prop} {pins : List (Addr × Obj)} {s : Shared} {σ : St} {H : Hp} {x : Str} {u : Value} {pos : Pos} {Q : Value → Shared → Prop} (I : Inv X pins σ H s) (hg : Gl X x) (hm : X.mg x = none) (hv : bootBuiltins x = some u) (h : Q u s)
    (hn : x ≠ "__name__" := by decide) (hd : (x == ("__debug__" : Str)) = false := by decide) : wpAny (model X.prog X.w) X.A (eval (.Name x pos) X.env) Q E s := by
  obtain ⟨mb, h1, h2⟩ := I.mod.blt
  exact Calls.Name_function_global I.ok.kind hg (Calls.loadGlobal_builtin (by rw [I.ok.glob]; exact I.mod.glob.keeps I.bk) hm (by rw [I.ok.blt]; exact h1.keeps I.bk) ((h2 x hn).trans hv) h) hd
theorem pe_glob {x : Str} {v : V} {u : Value} {pos : Pos} (hg : Gl X x) (hm : X.mg x = some u) (r : RelV v u) (hd : (x == ("__debug__" : Str)) = false := by decide) : PE X (.Name x pos) (tC v) :=
  fun _ _ _ H _ I h => ld_glob I hg hm ⟨v, H, I, r, h⟩ hd
theorem pe_bltn {x : Str} {v : V} {u : Value} {pos : Pos} (hg : Gl X x) (hm : X.mg x = none) (hv : bootBuiltins x = some u) (r : RelV v u) (hn : x ≠ "__name__" := by decide) (hd : (x == ("__debug__" : Str)) = false := by decide) : PE X (.Name x pos) (tC v) :=
  fun _ _ _ H _ I h => ld_blt I hg hm hv ⟨v, H, I, r, h⟩ hn hd
variable {a b : Expr} {ta tb : TE} {pos : Pos}
def tB (t : TE) : TT := fun σ H Q => t σ H fun x H1 => ∃ c, x = .bl c ∧ Q c H1
theorem pt_val {e : Expr} {t : TE} (h : PE X e t) (he : ∀ whole, isTrue e X.env whole = (do let v ← whole; standAt e.pos; holding [v] (truthy v)) := by intro _; rfl) : PT X e (tB t) := by
  intro pins s σ H Q I hw
  refine isTrue_plain (thn (h pins s σ H _ I hw) fun v s1 ⟨x, H1, I1, r1, q1⟩ => ?_) (he _)
  obtain ⟨d, rfl, q⟩ := q1
  cases r1
  exact wpAny_truthy_bool ⟨H1, I1, q⟩
variable {tA tB' : TT} {rest : List Expr}
def tOr (t u : TT) : TT := fun σ H Q => t σ H fun c H1 => if c = true then Q true H1 else u σ H1 Q
def tNot (t : TT) : TT := fun σ H Q => t σ H fun c H1 => Q (!c) H1
theorem pw_or1 (ha : PT X a tA) : PW X (.BoolOp .Or [a] pos) tA := by
  intro wh pins s σ H Q I h
  refine isTrue_or (thn (ha pins s σ H Q I h) fun c s1 e => ?_)
  cases c with
  | false => exact isTrue_or_nil e
  | true => exact e
theorem pw_or (ha : PT X a tA) (hb : PW X (.BoolOp .Or (b :: rest) pos) tB') : PW X (.BoolOp .Or (a :: b :: rest) pos) (tOr tA tB') := by
  intro wh pins s σ H Q I h
  refine isTrue_or (thn (ha pins s σ H _ I h) fun c s1 ⟨H1, I1, q1⟩ => ?_)
  cases c with
  | true => exact ⟨H1, I1, q1⟩
  | false => exact hb wh pins s1 σ H1 Q I1 q1
theorem pt_not (ha : PT X a tA) : PT X (.UnaryOp .Not a pos) (tNot tA) := by
  intro pins s σ H Q I h
  exact isTrue_not (ha pins s σ H (fun c H1 => Q (!c) H1) I h)
def tAndV (ta tb : TE) : TE := fun σ H Q => ta σ H fun x H1 => ∃ c, x = .bl c ∧ if c = true then tb σ H1 Q else Q (.bl false) H1
def tNotV (ta : TE) : TE := fun σ H Q => ta σ H fun x H1 => ∃ c, x = .bl c ∧ Q (.bl (!c)) H1
theorem pe_one {op} {t : TE} (h : PE X a t) : PE X (.BoolOp op [a] pos) t := fun pins s σ H Q I hw => BoolOp_one (h pins s σ H Q I hw)
theorem pe_and (ha : PE X a ta) (hb : PE X (.BoolOp .And (b :: rest) pos) tb) : PE X (.BoolOp .And (a :: b :: rest) pos) (tAndV ta tb) := by
  intro pins s σ H Q I h
  refine BoolOp_and (thn (ha pins s σ H _ I h) fun v s1 ⟨x, H1, I1, r1, q1⟩ => ?_)
  obtain ⟨c, rfl, q1⟩ := q1
  cases r1
  refine wpAny_truthy_bool ?_
  cases c with
  | true => exact hb pins s1 σ H1 Q I1 q1
  | false => exact ⟨.bl false, H1, I1, rfl, q1⟩
theorem pe_not (ha : PE X a ta) : PE X (.UnaryOp .Not a pos) (tNotV ta) := by
  intro pins s σ H Q I h
  refine UnaryOp_ (thn (ha pins s σ H _ I h) fun v s1 ⟨x, H1, I1, r1, q1⟩ => ?_)
  obtain ⟨c, rfl, q1⟩ := q1
  cases r1
  exact not_of (wpAny_truthy_bool ⟨.bl (!c), H1, I1, rfl, q1⟩)
end
end L2
namespace L2
open PySem PySem.Spec PyProof.Rows
def SqL (K : PySem.W.Frag) (H : Hp) (a : Addr) (xs : List V) : Prop :=
  Rd H a (.lst xs) ∨
    ∃ (o : Obj) (its : Array Value) (n : Nat), K.lookup a = some o ∧ o.cls = .type "list" ∧ o.dict = none ∧ o.data = .seq its n ∧ its.size ≤ sizeLine ∧ Vals xs its.toList
def SqT (K : PySem.W.Frag) (H : Hp) (a : Addr) (xs : List V) : Prop :=
  Rd H a (.tup xs) ∨
    ∃ (o : Obj) (its : Array Value) (n : Nat), K.lookup a = some o ∧ o.cls = .type "tuple" ∧ o.data = .seq its n ∧ its.size ≤ sizeLine ∧ Vals xs its.toList
def absV : Value → Option V
  | .none => some .non
  | .bool b => some (.bl b)
  | .int i _ => some (.int i)
  | .str x _ => some (.str x)
  | .bytes b _ => some (.byt b)
  | .float b _ => some (.flt b)
  | .ref a => some (.ref a)
  | .type n => some (.ty n)
  | _ => none
theorem RelV.abs {x : V} {u : Value} (r : RelV x u) : absV u = some x := by
  cases x with
  | non => cases r; rfl
  | bl _ => cases r; rfl
  | int _ => obtain ⟨t, rfl⟩ := r; rfl
  | str _ => obtain ⟨t, rfl⟩ := r; rfl
  | byt _ => obtain ⟨t, rfl⟩ := r; rfl
  | flt _ => obtain ⟨t, rfl⟩ := r; rfl
  | ref _ => cases r; rfl
  | ty _ => cases r; rfl
theorem RelV.inj {x y : V} {u : Value} (r : RelV x u) (q : RelV y u) : x = y := Option.some.inj (r.abs.symm.trans q.abs)
theorem Vals.inj : ∀ {xs ys : List V} {us : List Value}, Vals xs us → Vals ys us → xs = ys
  | _, _, _, .nil, .nil => rfl
  | _, _, _, .cons r t, .cons r' t' => by rw [r.inj r', Vals.inj t t']
section
variable {X : Cx} {pins : List (Addr × Obj)} {σ : St} {H : Hp} {s : Shared} {a : Addr} {xs ys : List V}
theorem SqL.of {K : PySem.W.Frag} (h : H a = some (.lst xs)) : SqL K H a xs := .inl (.inl h)
theorem SqT.of {K : PySem.W.Frag} (h : H a = some (.tup xs)) : SqT K H a xs := .inl (.inl h)
theorem Inv.list (I : Inv X pins σ H s) (h : SqL X.K H a xs) : ∃ its : List Value, Vals xs its ∧ PlainL s.heap a its.toArray ∧ xs.length ≤ sizeLine := by
  rcases h with h | ⟨o, its, n, hk, hc, hd, hs, hz, r⟩
  · obtain ⟨z, its, n, r, e⟩ := h.ok I.hok
    exact ⟨its, r, ⟨_, n, e, rfl, rfl, rfl⟩, z⟩
  · refine ⟨its.toList, r, ⟨o, n, I.kIn a o hk, hc, hd, by simpa using hs⟩, ?_⟩
    have e := r.length
    simp only [Array.length_toList] at e
    omega
theorem Inv.tuple (I : Inv X pins σ H s) (h : SqT X.K H a xs) : ∃ its : List Value, Vals xs its ∧ IsTup s.heap a its.toArray ∧ xs.length ≤ sizeLine := by
  rcases h with h | ⟨o, its, n, hk, hc, hs, hz, r⟩
  · obtain ⟨z, its, r, p⟩ := h.ok I.hok
    exact ⟨its, r, p, z⟩
  · refine ⟨its.toList, r, ⟨o, I.kIn a o hk, hc, n, by simpa using hs⟩, ?_⟩
    have e := r.length
    simp only [Array.length_toList] at e
    omega
theorem Inv.list_inj (I : Inv X pins σ H s) (h : SqL X.K H a xs) (h' : SqL X.K H a ys) : xs = ys := by
  obtain ⟨its, r, ⟨o, n, e, _, _, d⟩, _⟩ := I.list h
  obtain ⟨its', r', ⟨o', n', e', _, _, d'⟩, _⟩ := I.list h'
  rw [e] at e'; cases e'
  rw [d] at d'
  injection d' with d1 _
  have : its = its' := by simpa using congrArg Array.toList d1
  subst this
  exact r.inj r'
end
abbrev Cx.wish (X : Cx) (E : Value → Shared → Prop) : Cx := { X with xe := E }
abbrev Cx.nox (X : Cx) : Cx := X.wish fun _ _ => False
theorem Cx.Ok.wish {X : Cx} (ok : X.Ok) (E : Value → Shared → Prop) : (X.wish E).Ok :=
  ⟨ok.mod, ok.kind, ok.glob, ok.blt, ok.above, ok.inj, ok.has, ok.cab, ok.hd, ok.frames, ok.stk, ok.exf, ok.bs, ok.bsz, ok.noex, ok.exfs, ok.funs, ok.frf⟩
theorem Cx.Ok.unwish {X : Cx} {E : Value → Shared → Prop} (ok : (X.wish E).Ok) : X.Ok :=
  ⟨ok.mod, ok.kind, ok.glob, ok.blt, ok.above, ok.inj, ok.has, ok.cab, ok.hd, ok.frames, ok.stk, ok.exf, ok.bs, ok.bsz, ok.noex, ok.exfs, ok.funs, ok.frf⟩
section
variable {X : Cx} {pins : List (Addr × Obj)} {σ : St} {H : Hp} {s : Shared} {E : Value → Shared → Prop}
theorem Inv.wish (I : Inv X pins σ H s) (E : Value → Shared → Prop) : Inv (X.wish E) pins σ H s := ⟨I.ok.wish E, I.os, I.bare, I.base, I.loc, I.cell, I.free, I.freeC, I.pin, I.hok, I.len⟩
theorem Inv.unwish (I : Inv (X.wish E) pins σ H s) : Inv X pins σ H s := ⟨I.ok.unwish, I.os, I.bare, I.base, I.loc, I.cell, I.free, I.freeC, I.pin, I.hok, I.len⟩
theorem SP.unwish {D : Ends} {f : Flow} {s' : Shared} (h : SP (X.wish E) pins D f s') : SP X pins D f s' := by
  cases f with
  | next => obtain ⟨σ', H', I, q⟩ := h; exact ⟨σ', H', I.unwish, q⟩
  | brk => obtain ⟨σ', H', I, q⟩ := h; exact ⟨σ', H', I.unwish, q⟩
  | cont => obtain ⟨σ', H', I, q⟩ := h; exact ⟨σ', H', I.unwish, q⟩
  | ret u => obtain ⟨v, σ', H', I, r, q⟩ := h; exact ⟨v, σ', H', I.unwish, r, q⟩
theorem PSs.nox {st : List Stmt} {t : TS} (h : PSs X.nox st t) : PSs X st t := fun pins s σ H D I hw =>
  wpAny_mono (h pins s σ H D (I.wish _) hw) (fun _ _ q => q.unwish) fun _ _ z => False.elim z
end
section
variable {X : Cx} {st : Stmt} {rest : List Stmt} {t u : TS} {e : Expr} {te : TE} {pos : Pos}
def tNext : TS := fun D σ H => D.nx σ H
def tSeq (t u : TS) : TS := fun D σ H => t { D with nx := u D } σ H
theorem pss_nil : PSs X [] tNext := fun _ _ σ H _ I h => wpAny_execs_nil ⟨σ, H, I, h⟩
theorem pss_cons (h1 : PS X st t) (h2 : PSs X rest u) : PSs X (st :: rest) (tSeq t u) := by
  intro pins s σ H D I h
  refine wpAny_execs_cons (thn (h1 pins s σ H { D with nx := u D } I h) fun f s1 q => ?_)
  cases f with
  | next =>
    obtain ⟨σ', H', I', q⟩ := q
    exact h2 pins s1 σ' H' D I' q
  | ret v => exact q
  | brk => exact q
  | cont => exact q
theorem pss_one (h1 : PS X st t) : PSs X [st] t := by
  intro pins s σ H D I h
  refine wpAny_execs_cons (thn (h1 pins s σ H D I h) fun f s1 q => ?_)
  cases f with
  | next => exact wpAny_execs_nil q
  | ret v => exact q
  | brk => exact q
  | cont => exact q
theorem Inv.quiet {pins : List (Addr × Obj)} {σ : St} {H : Hp} {s : Shared} (I : Inv X pins σ H s) : interactive X.env = false := by simp [interactive, I.ok.kind]
def tDrop (te : TE) : TS := fun D σ H => te σ H fun _ H1 => D.nx σ H1
theorem ps_expr (he : PE X e te) (hs : swapsWith e none pos.line X.env = pure false := by rfl) : PS X (.Expr e pos) (tDrop te) := by
  intro pins s σ H D I h
  exact wpAny_Expr_any (thn (he pins s σ H _ I h) fun v s1 ⟨x, H1, I1, r1, q1⟩ => ⟨σ, H1, I1, q1⟩) I.quiet hs
def tRet (te : TE) : TS := fun D σ H => te σ H D.rt
theorem ps_ret (he : PE X e te) : PS X (.Return (some e) pos) (tRet te) := by
  intro pins s σ H D I h
  exact wpAny_Return_some (thn (he pins s σ H _ I h) fun v s1 ⟨x, H1, I1, r1, q1⟩ => ⟨x, σ, H1, I1, r1, q1⟩)
def tIfS (c : TT) (t u : TS) : TS := fun D σ H => c σ H fun b H1 => if b = true then t D σ H1 else u D σ H1
theorem ps_if {c : Expr} {a b : List Stmt} {tc : TT} (hc : PT X c tc) (ha : PSs X a t) (hb : PSs X b u) : PS X (.If c a b pos) (tIfS tc t u) := by
  intro pins s σ H D I h
  refine wpAny_If (thn (hc pins s σ H _ I h) fun d s1 ⟨H1, I1, q1⟩ => ?_)
  cases d with
  | true => exact ha pins s1 σ H1 D I1 q1
  | false => exact hb pins s1 σ H1 D I1 q1
def tNever : TS := fun _ _ _ => False
theorem ps_never : PS X st tNever := fun _ _ _ _ _ _ h => h.elim
end
abbrev TG := V → St → Hp → (St → Hp → Prop) → Prop
abbrev TGs := List V → St → Hp → (St → Hp → Prop) → Prop
def PG (X : Cx) (target : Expr) (t : TG) : Prop :=
  ∀ (pins : List (Addr × Obj)) (s : Shared) (σ : St) (H : Hp) (v : V) (u : Value) (Q : St → Hp → Prop), Inv X pins σ H s → RelV v u → t v σ H Q →
    wpAny (model X.prog X.w) X.A (assign target X.env u) (fun _ s' => ∃ σ' H', Inv X pins σ' H' s' ∧ Q σ' H') X.xe s
def PGs (X : Cx) (ts : List Expr) (t : TGs) : Prop :=
  ∀ (pins : List (Addr × Obj)) (s : Shared) (σ : St) (H : Hp) (vs : List V) (us : List Value) (Q : St → Hp → Prop), Inv X pins σ H s → Vals vs us → t vs σ H Q →
    wpAny (model X.prog X.w) X.A (assignInOrder ((assignEach ts X.env).map (·.2)) us) (fun _ s' => ∃ σ' H', Inv X pins σ' H' s' ∧ Q σ' H') X.xe s
abbrev TSet := V → V → V → Hp → (Hp → Prop) → Prop
def PSet (X : Cx) (t : TSet) : Prop :=
  ∀ (pins : List (Addr × Obj)) (s : Shared) (σ : St) (H : Hp) (o i v : V) (ov iv u : Value) (Q : Hp → Prop), Inv X pins σ H s → RelV o ov → RelV i iv → RelV v u → t o i v H Q →
    wpAny (model X.prog X.w) X.A (setItem ov iv u) (fun _ s' => ∃ H', Inv X pins σ H' s' ∧ Q H') X.xe s
section
variable {X : Cx} {pos : Pos}
def gName (i : Nat) : TG := fun v σ H Q => Q (σ.set i (some v)) H
theorem pg_name {i : Nat} {x : Str} (hN : X.N.Nodup) (hi : X.N[i]? = some x) (hx : Loc X.env.scope x) (hf : X.fn x = true ∨ X.env.scope.names.lookup x = some .local := by first | exact .inl rfl | exact .inr rfl | assumption) : PG X (.Name x pos) (gName i) := by
  intro pins s σ H v u Q I r h
  exact wpAny_assign_Name (store_ok I hN hi hx r (fun s' I' => ⟨_, H, I', h⟩) hf)
def gNil : TGs := fun vs σ H Q => vs = [] ∧ Q σ H
def gCons (t : TG) (u : TGs) : TGs := fun vs σ H Q => ∃ v r, vs = v :: r ∧ t v σ H fun σ' H' => u r σ' H' Q
theorem pgs_nil : PGs X [] gNil := by
  intro pins s σ H vs us Q I r h
  obtain ⟨e, h⟩ := h
  subst e
  cases r
  exact assignInOrder_nil ⟨σ, H, I, h⟩
theorem pgs_cons {e : Expr} {es : List Expr} {t : TG} {u : TGs} (h1 : PG X e t) (h2 : PGs X es u)
    (hs : (assignEach (e :: es) X.env).map (·.2) = assign e X.env :: (assignEach es X.env).map (·.2) := by rfl) : PGs X (e :: es) (gCons t u) := by
  intro pins s σ H vs us Q I r h
  obtain ⟨v, vr, e1, h⟩ := h
  subst e1
  cases r with
  | cons r rr =>
    rw [hs]
    refine assignInOrder_cons (thn (h1 pins s σ H _ _ _ I r h) fun _ s1 ⟨σ1, H1, I1, q1⟩ => ?_)
    exact h2 pins s1 σ1 H1 _ _ Q I1 rr q1
def gTup (K : PySem.W.Frag) (n : Nat) (t : TGs) : TG := fun v σ H Q => ∃ a xs, v = .ref a ∧ SqT K H a xs ∧ xs.length = n ∧ t xs σ H Q
theorem pg_tup {es : List Expr} {k : Nat} {t : TGs} {n : Nat} (hc : X.calm = true) (h : PGs X es t)
    (hn : (assignEach es X.env).length = n := by rfl) (hst : (assignEach es X.env).findIdx? (·.1) = none := by rfl) : PG X (.Tuple es k pos) (gTup X.K n t) := by
  intro pins s σ H v u Q I r hw
  obtain ⟨a, xs, e1, hq, hl, hw⟩ := hw
  subst e1
  cases r
  obtain ⟨its, rv, ht, hz⟩ := I.tuple hq
  refine assign_Tuple_tuple (I.ok.hd hc) ht (by simp [hn, ← hl, rv.length]) hst fun h' hx => ?_
  have I1 : Inv X pins σ H { s with heap := h' } := I.kept (t' := s.toks) fun b o e => hx b o (Nat.ne_of_lt (Heap.lt_size e)) e
  exact h pins _ σ H xs _ Q I1 (by simpa using rv) hw
def gSub (to ti : TE) (t : TSet) : TG := fun v σ H Q => to σ H fun o H1 => ti σ H1 fun i H2 => t o i v H2 fun H3 => Q σ H3
theorem pg_sub {o i : Expr} {to ti : TE} {t : TSet} (ho : PE X o to) (hi : PE X i ti) (hs : PSet X t)
    (ha : ∀ v, assign (.Subscript o i pos) X.env v = (do
      let ov ← holding [v] (eval o X.env)
      let iv ← holding [v, ov] (eval i X.env)
      standAt pos
      holding [v, ov, iv] (setItem ov iv v)
      release [v, ov, iv] []) := by intro _; rfl) : PG X (.Subscript o i pos) (gSub to ti t) := by
  intro pins s σ H v u Q I r h
  rw [ha]
  refine wpAny_bind (wpAny_holding (thn (ho pins s σ H _ I h) fun ov s1 ⟨x, H1, I1, r1, q1⟩ => ?_))
  refine wpAny_bind (wpAny_holding (thn (hi pins s1 σ H1 _ I1 q1) fun iv s2 ⟨y, H2, I2, r2, q2⟩ => ?_))
  refine wpAny_bind (wpAny_standAt (wpAny_bind (wpAny_holding (thn (hs pins s2 σ H2 x y v ov iv u _ I2 r1 r2 r q2) fun _ s3 ⟨H3, I3, q3⟩ => ?_))))
  exact wpAny_release ⟨σ, H3, I3, q3⟩
def tAsg (te : TE) (g : TG) : TS := fun D σ H => te σ H fun x H1 => g x σ H1 D.nx
theorem ps_asg {tg e : Expr} {te : TE} {g : TG} (he : PE X e te) (hg : PG X tg g) (hs : swapsWithSole [tg] e pos.line X.env = pure false := by rfl) (hw : swappedStores [tg] e X.env = pure none := by rfl)
    (h1 : (assignEach [tg] X.env).map (·.2) = [assign tg X.env] := by rfl) : PS X (.Assign [tg] e pos) (tAsg te g) := by
  intro pins s σ H D I h
  refine wpAny_Assign_stores (thn (he pins s σ H _ I h) fun v s1 ⟨x, H1, I1, r1, q1⟩ => ?_) hs hw
  rw [h1]
  exact thn (hg pins s1 σ H1 x v _ I1 r1 q1) fun _ s2 q => q
theorem ps_set {i : Nat} {x : Str} {e : Expr} {te : TE} {pos' : Pos} (hN : X.N.Nodup) (hi : X.N[i]? = some x) (hx : Loc X.env.scope x) (he : PE X e te) (hs : swapsWith e (some (.Name x pos')) pos.line X.env = pure false := by rfl) (hf : X.fn x = true ∨ X.env.scope.names.lookup x = some .local := by first | exact .inl rfl | exact .inr rfl | assumption) :
    PS X (.Assign [.Name x pos'] e pos) (tAsg te (gName i)) := by
  intro pins s σ H D I h
  refine wpAny_Assign_Name (thn (he pins s σ H _ I h) fun v s1 ⟨y, H1, I1, r1, q1⟩ => ?_) hs
  exact store_ok I1 hN hi hx r1 (fun s2 I2 => ⟨_, H1, I2, q1⟩) hf
def tPar (i j : Nat) (ta : TA) : TS := fun D σ H => ta σ H fun vs H1 => ∃ v w, vs = [v, w] ∧ D.nx ((σ.set i (some v)).set j (some w)) H1
theorem ps_par {i j : Nat} {x y : Str} {a b : Expr} {ta : TA} {px py pt : Pos} {kt k2 pt2} (hc : X.calm = true) (hN : X.N.Nodup) (hi : X.N[i]? = some x) (hj : X.N[j]? = some y) (hij : i ≠ j)
    (hx : X.env.scope.names.lookup x = some .local) (hy : X.env.scope.names.lookup y = some .local) (ha : PA X [a, b] ta)
    (hw : swappedStores [.Tuple [.Name x px, .Name y py] kt pt] (.Tuple [a, b] k2 pt2) X.env = pure (some [x, y]))
    (hs : swapsWithSole [.Tuple [.Name x px, .Name y py] kt pt] (.Tuple [a, b] k2 pt2) pos.line X.env = pure false := by rfl) :
    PS X (.Assign [.Tuple [.Name x px, .Name y py] kt pt] (.Tuple [a, b] k2 pt2) pos) (tPar i j ta) := by
  intro pins s σ H D I h
  rw [exec_Assign_arm]
  refine wpAny_bind (wpAny_standAt ?_)
  rw [hs]
  refine wpAny_bind (wpAny_pure ?_)
  rw [if_neg (by decide)]
  refine wpAny_bind (Tuple_ (thn (ha _ pins s σ H _ I h) fun us s1 ⟨vs, H1, I1, r1, q1⟩ => ?_))
  obtain ⟨v, w, e1, q1⟩ := q1
  subst e1
  obtain ⟨u1, u2, rfl, rv, rw'⟩ : ∃ u1 u2, us = [u1, u2] ∧ RelV v u1 ∧ RelV w u2 := by
    cases r1 with
    | cons p q =>
      cases q with
      | cons p' q' =>
        cases q'
        exact ⟨_, _, rfl, p, p'⟩
  refine wpAny_newObj_type ?_ (by show 2 ≤ sizeLine; decide)
  have I2 : Inv X pins σ H1 { s1 with heap := s1.heap.push { cls := .type "tuple", data := .seq [u1, u2].toArray } } := I1.kept (t' := s1.toks) fun b o e => Heap.get?_push_of_some _ e
  rw [hw]
  refine wpAny_bind (wpAny_pure ?_)
  show wpAny (model X.prog X.w) X.A (do rule "assign.swapped-stores"; let items ← unpackItems (.ref s1.heap.objs.size) 2 none; assignInOrder [fun v => bindName X.env y v, fun v => bindName X.env x v] items.reverse; pure Flow.next) _ _ _
  refine wpAny_bind (wpAny_rule (wpAny_bind (unpackItems_tuple (items := #[u1, u2]) (I.ok.hd hc) (IsTup.new s1.heap _) fun h' hx' => ?_)))
  have I3 := I2.kept (h' := h') (t' := s1.toks) fun b o e => hx' b o (Nat.ne_of_lt (Heap.lt_size e)) e
  show wpAny _ _ (assignInOrder [fun v => bindName X.env y v, fun v => bindName X.env x v] [u2, u1] >>= fun _ => pure Flow.next) _ _ _
  refine wpAny_bind (assignInOrder_cons (wpAny_bindName (store_ok I3 hN hj (.inl hy) rw' (fun s2 I4 => ?_) (.inr hy))))
  refine assignInOrder_cons (wpAny_bindName (store_ok I4 hN hi (.inl hx) rv (fun s3 I5 => assignInOrder_nil (wpAny_pure ?_)) (.inr hx)))
  rw [List.set_comm _ _ (Ne.symm hij)] at I5
  exact ⟨_, H1, I5, q1⟩
end
section
variable {X : Cx} {pos : Pos}
def tWhile (c : TT) (tb : TS) : TS := fun D σ H => ∃ W : Nat → St → Hp → Prop, (∃ m, W m σ H) ∧ ∀ m σ H, W m σ H →
  c σ H fun b H1 => if b = true then ∃ N : St → Hp → Prop, (∀ σ' H', N σ' H' → ∃ m', m' < m ∧ W m' σ' H') ∧ tb { D with nx := N, ct := N, bk := D.nx } σ H1 else D.nx σ H1
theorem ps_while {c : Expr} {body : List Stmt} {tc : TT} {tb : TS} (hp : PassesOwn (model X.prog X.w) X.A X.env X.xe) (hc : PT X c tc) (hb : PSs X body tb) : PS X (.While c body [] pos) (tWhile tc tb) := by
  intro pins s σ H D I h
  obtain ⟨W, ⟨m0, w0⟩, turn⟩ := h
  refine wpAny_While (codeAny_whileLoop (fun n s' => ∃ σ' H', Inv X pins σ' H' s' ∧ W n σ' H') ?_ m0 ⟨σ, H, I, w0⟩)
  rintro n s1 ⟨σ1, H1, I1, w1⟩
  refine wpAny_passesOwn hp (thn (hc pins s1 σ1 H1 _ I1 (turn n σ1 H1 w1)) fun b s2 ⟨H2, I2, q2⟩ => ?_)
  cases b with
  | true =>
    obtain ⟨N, hN, q2⟩ := q2
    rw [if_pos rfl]
    refine wpAny_passesOwn hp (thn (hb pins s2 σ1 H2 _ I2 q2) fun f s3 q3 => ?_)
    cases f with
    | next =>
      obtain ⟨σ3, H3, I3, n3⟩ := q3
      obtain ⟨m', hm, w3⟩ := hN σ3 H3 n3
      exact ⟨m', hm, σ3, H3, I3, w3⟩
    | cont =>
      obtain ⟨σ3, H3, I3, n3⟩ := q3
      obtain ⟨m', hm, w3⟩ := hN σ3 H3 n3
      exact ⟨m', hm, σ3, H3, I3, w3⟩
    | brk => exact q3
    | ret v => exact q3
  | false =>
    rw [if_neg Bool.false_ne_true]
    exact wpAny_execs_nil ⟨σ1, H2, I2, q2⟩
end
structure It where
  go : Nat → Hp → Prop
  yld : Nat → Hp → V → Hp → Prop
  stop : Nat → Hp → Prop
def FpOk (X : Cx) (pins : List (Addr × Obj)) (H : Hp) (b : Addr) : Prop :=
  H b = none ∧ b ≠ X.env.locals ∧ b ∉ X.fs ∧ (b ∈ X.ex ∨ X.s₀.heap.objs.size ≤ b) ∧ (∀ x c, X.env.cells.lookup x = some c → c ≠ b) ∧ ∀ p ∈ X.pn ++ pins, p.1 ≠ b
theorem Inv.fpOk {X : Cx} {pins : List (Addr × Obj)} {σ : St} {H H' : Hp} {s : Shared} {b : Addr} (I : Inv X pins σ H s) (hb : s.heap.objs.size ≤ b) (hn : H' b = none) : FpOk X pins H' b := by
  refine ⟨hn, Nat.ne_of_gt (Nat.lt_of_lt_of_le I.lt hb), I.nofs hb, .inr (Nat.le_trans I.sz hb), fun x c e z => ?_, fun p hp z => ?_⟩
  · obtain ⟨v, q⟩ := I.cell x c e
    exact absurd (Nat.lt_of_lt_of_le q.lt (by rw [z]; exact hb)) (Nat.lt_irrefl _)
  · exact absurd (Nat.lt_of_lt_of_le (Heap.lt_size (I.pin p hp).1) (by rw [z]; exact hb)) (Nat.lt_irrefl _)
structure Turn (P : Program) (w : World) (K : PySem.W.Frag) (tg : Expr) (J : It) (fp : List Addr) (it : Addr) (tn : Nat → Heap → Prop) : Prop where
  mem : it ∈ fp
  obj : ∀ i h, tn i h → ∀ b ∈ fp, ∃ o, h.get? b = some o ∧ ∀ v, o.data ≠ .cell v
  keep : ∀ i h h', tn i h → (∀ b ∈ fp, ∀ o, h.get? b = some o → h'.get? b = some o) → tn i h'
  item : ∀ (X : Cx), X.prog = P → X.w = w → X.K = K → X.calm = true → ∀ (i : Nat) (pins : List (Addr × Obj)) (s : Shared) (σ : St) (H : Hp) (E : Value → Shared → Prop), Inv X pins σ H s → (∀ b ∈ fp, FpOk X pins H b) → tn i s.heap → J.go i H →
    wpAny (model P w) X.A (pyNext (.ref it)) (fun r s1 => ∃ u, r = some u ∧
      wpAny (model P w) X.A (letOwnedTupleGo tg (.ref it) u) (fun _ s2 => ∃ x H', Inv X pins σ H' s2 ∧ RelV x u ∧ J.yld i H x H' ∧ tn (i + 1) s2.heap ∧ ∀ b ∈ fp, H' b = none) E s1) E s
  done : ∀ (X : Cx), X.prog = P → X.w = w → X.K = K → X.calm = true → ∀ (i : Nat) (pins : List (Addr × Obj)) (s : Shared) (σ : St) (H : Hp) (E : Value → Shared → Prop), Inv X pins σ H s → (∀ b ∈ fp, FpOk X pins H b) → tn i s.heap → J.stop i H →
    wpAny (model P w) X.A (pyNext (.ref it)) (fun r s1 => r = none ∧ Inv X pins σ H s1) E s
  self : ∀ (A : Around) (i : Nat) (s : Shared) (Q : Value → Shared → Prop) (E : Value → Shared → Prop), tn i s.heap → Q (.ref it) s → wpAny (model P w) A (pyIter (.ref it)) Q E s
abbrev TI := St → Hp → (It → Hp → Prop) → Prop
def PIE (X : Cx) (pins : List (Addr × Obj)) (σ : St) (tg : Expr) (R : It → Hp → Prop) (itv : Value) (s2 : Shared) : Prop :=
  ∃ (it : Addr) (fp : List Addr) (tn : Nat → Heap → Prop) (J : It) (H' : Hp), itv = .ref it ∧ Inv X pins σ H' s2 ∧ Turn X.prog X.w X.K tg J fp it tn ∧ tn 0 s2.heap ∧ (∀ b ∈ fp, FpOk X pins H' b) ∧ R J H'
def PI (X : Cx) (tg iter : Expr) (wi : TI) : Prop :=
  ∀ (pins : List (Addr × Obj)) (s : Shared) (σ : St) (H : Hp) (R : It → Hp → Prop), Inv X pins σ H s → wi σ H R →
    wpAny (model X.prog X.w) X.A (eval iter X.env) (fun v s1 => wpAny (model X.prog X.w) X.A (pyIter v) (PIE X pins σ tg R) X.xe s1) X.xe s
theorem go_of {M : Model} {A : Around} {E : Value → Shared → Prop} {s : Shared} {tg : Expr} {it : Addr} {u : Value} {o : Obj} {n : String} {vs : Array Value} {Q : Unit → Shared → Prop} (ho : s.heap.get? it = some o) (hc : o.cls = .type n) (hd : o.data = .fields vs)
    (hn : ["enumerate", "zip", "dict_itemiterator", "dict_reverseitemiterator", "odict_iterator", "itertools.zip_longest", "itertools.pairwise"].contains n = false) (hQ : Q () s) : wpAny M A (letOwnedTupleGo tg (.ref it) u) Q E s := by
  unfold letOwnedTupleGo
  cases tg <;> first
    | exact wpAny_pure hQ
    | (cases u <;> first
        | exact wpAny_pure hQ
        | (refine wpAny_bind (wpAny_load ho ?_)
           rw [hc, hd]
           show wpAny M A (if (["enumerate", "zip", "dict_itemiterator", "dict_reverseitemiterator", "odict_iterator", "itertools.zip_longest", "itertools.pairwise"].contains n && vs[0]? == some (rawInt _)) = true then _ else _) Q E s
           rw [if_neg (by intro h; rw [hn, Bool.false_and] at h; cases h)]
           exact wpAny_pure hQ))
def Itl (K : PySem.W.Frag) (a : Addr) : It :=
  ⟨fun i H => ∃ xs x, SqL K H a xs ∧ xs[i]? = some x, fun i H x H' => H' = H ∧ ∀ xs, SqL K H a xs → xs[i]? = some x, fun i H => ∃ xs, SqL K H a xs ∧ xs.length ≤ i⟩
def Itr (lo : Int) (n : Nat) : It := ⟨fun i _ => i < n, fun i H x H' => H' = H ∧ x = .int (lo + i), fun i _ => n ≤ i⟩
theorem turn_list {P : Program} {w : World} {K : PySem.W.Frag} {tg : Expr} (a it : Addr) : Turn P w K tg (Itl K a) [it] it (fun i h => h.IsListIter it a i) where
  mem := by simp
  obj := fun i h st b hb => by
    have e : b = it := by simpa using hb
    subst e
    obtain ⟨o, e, c, d⟩ := st
    exact ⟨o, e, fun v z => by rw [d] at z; cases z⟩
  keep := fun i h h' st k => st.at fun o e => k it (by simp) o e
  item := by
    intro X hP hw hK hc i pins s σ H E I hf st hg
    subst hP hw hK
    obtain ⟨xs, x, hq, hx⟩ := hg
    obtain ⟨its, rv, p, hz⟩ := I.list hq
    obtain ⟨u, hu, ru⟩ := rv.get hx
    obtain ⟨f0, f1, f2, f3, f4, f5⟩ := hf it (by simp)
    refine wpAny_pyNext_list_item st p.isList (x := u) (by simpa using hu) fun h' st' sb => ?_
    have I1 : Inv X pins σ H { s with heap := h' } := I.turned (t' := s.toks) (fun b o hb e => (sb.2 b hb).trans e) f0 f1 f3 f4 f5
    obtain ⟨o, e, c, d⟩ := id st'
    exact ⟨u, rfl, go_of (s := { s with heap := h' }) e c d (by decide) ⟨x, H, I1, ru, ⟨rfl, fun ys hy => by rw [I.list_inj hy hq]; exact hx⟩, st', fun b hb => (hf b hb).1⟩⟩
  done := by
    intro X hP hw hK hc i pins s σ H E I hf st hg
    subst hP hw hK
    obtain ⟨xs, hq, hx⟩ := hg
    obtain ⟨its, rv, p, hz⟩ := I.list hq
    obtain ⟨f0, f1, f2, f3, f4, f5⟩ := hf it (by simp)
    have hl := rv.length
    exact wpAny_pyNext_list_end (I.ok.hd hc) st p.isList (by simp; omega) fun h' eb => ⟨rfl, I.turned (t' := s.toks) (fun b o hb e => eb b o hb e) f0 f1 f3 f4 f5⟩
  self := fun _ _ _ _ _ st h => wpAny_pyIter_listiter st h
theorem turn_range {P : Program} {w : World} {K : PySem.W.Frag} {tg : Expr} (it : Addr) (lo : Int) (n : Nat) : Turn P w K tg (Itr lo n) [it] it (fun i h => IsRangeIter h it (lo + (i : Nat) * 1) ((n : Int) - (i : Nat)) 1) where
  mem := by simp
  obj := fun i h st b hb => by
    have e : b = it := by simpa using hb
    subst e
    exact ⟨_, st, fun v z => by
      have z' : Data.fields _ = Data.cell v := z
      cases z'⟩
  keep := fun i h h' st k => k it (by simp) _ st
  item := by
    intro X hP hw hK hc i pins s σ H E I hf st hg
    subst hP hw hK
    obtain ⟨f0, f1, f2, f3, f4, f5⟩ := hf it (by simp)
    have W := Walks.range (prog := X.prog) (w := X.w) (I.ok.hd hc) it lo 1 n
    refine W.item i s _ _ hg st fun v h' tk hv st' kk => ?_
    obtain ⟨t, rfl⟩ := hv
    have I1 : Inv X pins σ H { s with heap := h', toks := tk } := I.turned (fun b o hb e => kk b o (by simpa using hb) e) f0 f1 f3 f4 f5
    refine ⟨_, rfl, go_of (s := { s with heap := h', toks := tk }) (n := "range_iterator") st' rfl rfl (by decide) ⟨.int (lo + i), H, I1, ⟨t, ?_⟩, ⟨rfl, rfl⟩, st', fun b hb => (hf b hb).1⟩⟩
    rw [Int.mul_one]
  done := by
    intro X hP hw hK hc i pins s σ H E I hf st hg
    subst hP hw hK
    obtain ⟨f0, f1, f2, f3, f4, f5⟩ := hf it (by simp)
    exact wpAny_pyNext_range_end (I.ok.hd hc) st (by have : n ≤ i := hg; omega) fun h' eb => ⟨rfl, I.turned (t' := s.toks) (fun b o hb e => eb b o hb e) f0 f1 f3 f4 f5⟩
  self := fun _ _ _ _ _ st h => wpAny_pyIter_rangeiter st h
end L2
namespace L2
open PySem PySem.Spec PyProof.Rows
section
variable {X : Cx} {tg : Expr}
def iList (K : PySem.W.Frag) (tl : TE) : TI := fun σ H R => tl σ H fun x H1 => ∃ a, x = .ref a ∧ (∃ xs, SqL K H1 a xs) ∧ R (Itl K a) H1
theorem pi_list {l : Expr} {tl : TE} (hl : PE X l tl) : PI X tg l (iList X.K tl) := by
  intro pins s σ H R I h
  refine thn (hl pins s σ H _ I h) fun v s1 ⟨x, H1, I1, r1, q1⟩ => ?_
  obtain ⟨a, e, ⟨xs, hq⟩, q⟩ := q1
  subst e
  cases r1
  obtain ⟨its, rv, p, hz⟩ := I1.list hq
  refine wpAny_pyIter_list p.isList ?_
  refine ⟨s1.heap.objs.size, [s1.heap.objs.size], _, _, H1, rfl, I1.kept (t' := s1.toks) fun b o e => Heap.get?_push_of_some _ e, turn_list a _, ⟨_, Heap.get?_push_size _ rfl, rfl, rfl⟩, fun b hb => ?_, q⟩
  have e : b = s1.heap.objs.size := by simpa using hb
  subst e
  exact I1.fpOk (Nat.le_refl _) (I1.hok.fresh (Nat.le_refl _))
theorem range_it {pins : List (Addr × Obj)} {σ : St} {H : Hp} {s : Shared} {R : It → Hp → Prop} {E : Value → Shared → Prop} {lo hi : Int} {t u v : Tok} {tk : Nat} (I : Inv X pins σ H s) (h1 : -(2 ^ 62) ≤ lo) (h2 : lo < 2 ^ 62) (h3 : -(2 ^ 62) ≤ hi) (h4 : hi < 2 ^ 62)
    (q : R (Itr lo (hi - lo).toNat) H) : wpAny (model X.prog X.w) X.A (pyIter (.ref s.heap.objs.size)) (PIE X pins σ tg R) E { s with heap := s.heap.push { cls := .type "range", data := .fields #[.int lo t, .int hi u, .int 1 v] }, toks := tk } := by
  refine wpAny_pyIter_range (IsRange.new ..) (small_one h1 h2 h3 h4) ?_
  have I1 : Inv X pins σ H { s with heap := s.heap.push { cls := .type "range", data := .fields #[.int lo t, .int hi u, .int 1 v] }, toks := tk } := I.kept fun b o e => Heap.get?_push_of_some _ e
  refine ⟨(s.heap.push { cls := .type "range", data := .fields #[.int lo t, .int hi u, .int 1 v] }).objs.size, [(s.heap.push { cls := .type "range", data := .fields #[.int lo t, .int hi u, .int 1 v] }).objs.size], _, _, H, rfl,
    I1.kept (t' := tk) fun b o e => Heap.get?_push_of_some _ e, turn_range _ lo (hi - lo).toNat, ?_, fun b hb => ?_, q⟩
  · have e1 : lo + ((0 : Nat) : Int) * 1 = lo := by simp
    have e2 : (((hi - lo).toNat : Nat) : Int) - ((0 : Nat) : Int) = Builtin.Range.rangeSize lo hi 1 := by rw [rangeSize_one]; split <;> omega
    show IsRangeIter _ _ (lo + ((0 : Nat) : Int) * 1) ((((hi - lo).toNat : Nat) : Int) - ((0 : Nat) : Int)) 1
    rw [e1, e2]
    exact Heap.get?_push_size _ rfl
  · have e : b = (s.heap.push { cls := .type "range", data := .fields #[.int lo t, .int hi u, .int 1 v] }).objs.size := by simpa using hb
    subst e
    exact I1.fpOk (Nat.le_refl _) (I1.hok.fresh (Nat.le_refl _))
def iRng1 (ta : TA) : TI := fun σ H R => ta σ H fun vs H1 => ∃ j : Int, vs = [.int j] ∧ -(2 ^ 62) ≤ j ∧ j < 2 ^ 62 ∧ R (Itr 0 j.toNat) H1
theorem pi_range1 {a : Expr} {ta : TA} {p pos : Pos} (hg : Gl X "range") (hm : X.mg "range" = none) (ha : PA X [a] ta) (hs : starEach [a] X.env = [(false, eval a X.env)] := by rfl) : PI X tg (.Call (.Name "range" p) [a] [] pos) (iRng1 ta) := by
  intro pins s σ H R I h
  refine Call_ (ld_blt I hg hm boot_range (PyProof.Rows.callWith_type1 (thn (ha pos pins s σ H _ I h) fun us s1 ⟨vs, H1, I1, r1, q1⟩ => ?_) hs rfl))
  obtain ⟨j, e, q1, q2, q⟩ := q1
  subst e
  cases r1 with
  | cons r rr =>
    cases rr
    obtain ⟨t, rfl⟩ := r
    exact call_range_1 (range_it I1 (by omega) (by omega) q1 q2 (by simpa using q))
def tFor (wi : TI) (g : TG) (tb : TS) : TS := fun D σ H => wi σ H fun J H1 => ∃ W : Nat → Nat → St → Hp → Prop, (∃ m, W 0 m σ H1) ∧ ∀ i m σ H, W i m σ H →
  (J.stop i H ∧ D.nx σ H) ∨ (J.go i H ∧ ∃ N : St → Hp → Prop, (∀ σ' H', N σ' H' → ∃ m', m' < m ∧ W (i + 1) m' σ' H') ∧ ∀ x H', J.yld i H x H' → g x σ H' fun σ2 H2 => tb { D with nx := N, ct := N, bk := D.nx } σ2 H2)
def pinsAt (fp : List Addr) (h : Heap) : List (Addr × Obj) := fp.filterMap fun b => (h.get? b).map fun o => (b, o)
theorem mem_pinsAt {fp : List Addr} {h : Heap} {b : Addr} {o : Obj} (hb : b ∈ fp) (e : h.get? b = some o) : (b, o) ∈ pinsAt fp h := List.mem_filterMap.mpr ⟨b, hb, by rw [e]; rfl⟩
theorem of_pinsAt {fp : List Addr} {h : Heap} {p : Addr × Obj} (hp : p ∈ pinsAt fp h) : p.1 ∈ fp ∧ h.get? p.1 = some p.2 := by
  obtain ⟨b, hb, e⟩ := List.mem_filterMap.mp hp
  cases q : h.get? b with
  | none => rw [q] at e; cases e
  | some o =>
    rw [q] at e
    have e' : (b, o) = p := Option.some.inj e
    subst e'
    exact ⟨hb, q⟩
theorem Inv.pinned {pins : List (Addr × Obj)} {σ : St} {H : Hp} {s : Shared} {fp : List Addr} (I : Inv X pins σ H s) (hf : ∀ b ∈ fp, FpOk X pins H b) (ho : ∀ b ∈ fp, ∃ o, s.heap.get? b = some o ∧ ∀ v, o.data ≠ .cell v) : Inv X (pins ++ pinsAt fp s.heap) σ H s :=
  I.pins_of fun p hp => (List.mem_append.mp hp).elim (fun z => I.pin p (List.mem_append_right _ z)) fun z => by
    obtain ⟨hb, e⟩ := of_pinsAt z
    obtain ⟨f0, f1, f2, _⟩ := hf p.1 hb
    obtain ⟨o, e', d⟩ := ho p.1 hb
    rw [e] at e'; cases e'
    exact ⟨e, f0, f1, f2, d⟩
theorem Inv.unpinned {pins pl : List (Addr × Obj)} {σ : St} {H : Hp} {s : Shared} (I : Inv X (pins ++ pl) σ H s) : Inv X pins σ H s := I.pins_of fun p hp => I.pin p (List.mem_append_right _ (List.mem_append_left _ hp))
theorem ps_for {iter : Expr} {body : List Stmt} {wi : TI} {g : TG} {tb : TS} {pos : Pos} (hp : PassesOwn (model X.prog X.w) X.A X.env X.xe) (hc : X.calm = true) (hi : PI X tg iter wi) (hg : PG X tg g) (hb : PSs X body tb)
    (hs : ∀ x, foldedSetIterable iter X.env x = pure x := by intro _; rfl) : PS X (.For tg iter body [] pos) (tFor wi g tb) := by
  intro pins s σ H D I h
  refine wpAny_For (thn (hi pins s σ H _ I h) fun v s1 h1 => thn h1 fun itv s2 h2 => ?_) hs
  obtain ⟨it, fp, tn, J, H2, e, I2, T, st2, f2, W, ⟨m0, w0⟩, turn⟩ := h2
  subst e
  -- what stays true of the iterator's objects through the loop
  have stat : ∀ {H' : Hp}, (∀ b ∈ fp, H' b = none) → ∀ b ∈ fp, FpOk X pins H' b := fun hn b hb => ⟨hn b hb, (f2 b hb).2⟩
  refine codeAny_forLoop_any (fun n s' => ∃ i σ' H', Inv X pins σ' H' s' ∧ tn i s'.heap ∧ (∀ b ∈ fp, H' b = none) ∧ W i n σ' H') ?_ m0 ⟨0, σ, H2, I2, st2, fun b hb => (f2 b hb).1, w0⟩
  rintro n s3 ⟨i, σ3, H3, I3, st3, fr3, w3⟩
  rcases turn i n σ3 H3 w3 with ⟨stop, qn⟩ | ⟨go, N, hN, step⟩
  · refine wpAny_passesOwn hp (thn (T.done X rfl rfl rfl hc i pins s3 σ3 H3 X.xe I3 (stat fr3) st3 stop) fun r s4 ⟨hr, I4⟩ => ?_)
    subst hr
    exact wpAny_execs_nil ⟨σ3, H3, I4, qn⟩
  · refine wpAny_passesOwn hp (thn (T.item X rfl rfl rfl hc i pins s3 σ3 H3 X.xe I3 (stat fr3) st3 go) fun r s4 ⟨u, hr, h4⟩ => ?_)
    subst hr
    refine wpAny_passesOwn hp (thn h4 fun _ s5 ⟨x, H5, I5, r5, y5, st5, fr5⟩ => ?_)
    have I5' := I5.pinned (stat fr5) (T.obj _ _ st5)
    refine wpAny_passesOwn hp (thn (hg _ s5 σ3 H5 x u _ I5' r5 (step x H5 y5)) fun _ s6 ⟨σ6, H6, I6, q6⟩ => ?_)
    refine wpAny_passesOwn hp (thn (hb _ s6 σ6 H6 _ I6 q6) fun f s7 q7 => ?_)
    have again : ∀ {σ7 : St} {H7 : Hp}, Inv X (pins ++ pinsAt fp s5.heap) σ7 H7 s7 → N σ7 H7 → ∃ m, m < n ∧ ∃ i σ' H', Inv X pins σ' H' s7 ∧ tn i s7.heap ∧ (∀ b ∈ fp, H' b = none) ∧ W i m σ' H' := fun {σ7 H7} I7 n7 => by
      obtain ⟨m', hm, w7⟩ := hN σ7 H7 n7
      refine ⟨m', hm, i + 1, σ7, H7, I7.unpinned, T.keep _ _ _ st5 fun b hb o e => (I7.pin (b, o) (List.mem_append_right _ (List.mem_append_right _ (mem_pinsAt hb e)))).1, fun b hb => ?_, w7⟩
      obtain ⟨o, e, d⟩ := T.obj _ _ st5 b hb
      exact (I7.pin (b, o) (List.mem_append_right _ (List.mem_append_right _ (mem_pinsAt hb e)))).2.1
    cases f with
    | next => obtain ⟨σ7, H7, I7, n7⟩ := q7; exact again I7 n7
    | cont => obtain ⟨σ7, H7, I7, n7⟩ := q7; exact again I7 n7
    | brk => obtain ⟨σ7, H7, I7, q7⟩ := q7; exact ⟨σ7, H7, I7.unpinned, q7⟩
    | ret v => obtain ⟨x7, σ7, H7, I7, r7, q7⟩ := q7; exact ⟨x7, σ7, H7, I7.unpinned, r7, q7⟩
end
theorem for_list {K : PySem.W.Frag} {a : Addr} {xs : List V} {g : TG} {tb : TS} {D : Ends} {σ : St} {H : Hp} (Pv : Nat → St → Hp → Prop) (h0 : Pv 0 σ H) (hl : ∀ i σ H, i ≤ xs.length → Pv i σ H → SqL K H a xs)
    (hs : ∀ i x σ H, xs[i]? = some x → Pv i σ H → g x σ H fun σ2 H2 => tb { D with nx := Pv (i + 1), ct := Pv (i + 1), bk := D.nx } σ2 H2) (hd : ∀ σ H, Pv xs.length σ H → D.nx σ H) :
    ∃ W : Nat → Nat → St → Hp → Prop, (∃ m, W 0 m σ H) ∧ ∀ i m σ H, W i m σ H →
      ((Itl K a).stop i H ∧ D.nx σ H) ∨ ((Itl K a).go i H ∧ ∃ N : St → Hp → Prop, (∀ σ' H', N σ' H' → ∃ m', m' < m ∧ W (i + 1) m' σ' H') ∧ ∀ x H', (Itl K a).yld i H x H' → g x σ H' fun σ2 H2 => tb { D with nx := N, ct := N, bk := D.nx } σ2 H2) := by
  refine ⟨fun i m σ H => m = xs.length - i ∧ i ≤ xs.length ∧ Pv i σ H, ⟨xs.length, by simp, Nat.zero_le _, h0⟩, ?_⟩
  rintro i m σ H ⟨rfl, hi, p⟩
  have q := hl i σ H hi p
  by_cases hlt : i < xs.length
  · refine .inr ⟨⟨xs, xs[i], q, by simp [hlt]⟩, Pv (i + 1), fun σ' H' p' => ⟨xs.length - (i + 1), by omega, rfl, hlt, p'⟩, fun x H' y => ?_⟩
    obtain ⟨e, y⟩ := y
    subst e
    exact hs i x σ _ (y xs q) p
  · have e : i = xs.length := by omega
    subst e
    exact .inl ⟨⟨xs, q, Nat.le_refl _⟩, hd σ H p⟩
theorem for_range {lo : Int} {n : Nat} {g : TG} {tb : TS} {D : Ends} {σ : St} {H : Hp} (Pv : Nat → St → Hp → Prop) (h0 : Pv 0 σ H)
    (hs : ∀ i σ H, i < n → Pv i σ H → g (.int (lo + i)) σ H fun σ2 H2 => tb { D with nx := Pv (i + 1), ct := Pv (i + 1), bk := D.nx } σ2 H2) (hd : ∀ σ H, Pv n σ H → D.nx σ H) :
    ∃ W : Nat → Nat → St → Hp → Prop, (∃ m, W 0 m σ H) ∧ ∀ i m σ H, W i m σ H →
      ((Itr lo n).stop i H ∧ D.nx σ H) ∨ ((Itr lo n).go i H ∧ ∃ N : St → Hp → Prop, (∀ σ' H', N σ' H' → ∃ m', m' < m ∧ W (i + 1) m' σ' H') ∧ ∀ x H', (Itr lo n).yld i H x H' → g x σ H' fun σ2 H2 => tb { D with nx := N, ct := N, bk := D.nx } σ2 H2) := by
  refine ⟨fun i m σ H => m = n - i ∧ i ≤ n ∧ Pv i σ H, ⟨n, by simp, Nat.zero_le _, h0⟩, ?_⟩
  rintro i m σ H ⟨rfl, hi, p⟩
  by_cases hlt : i < n
  · refine .inr ⟨hlt, Pv (i + 1), fun σ' H' p' => ⟨n - (i + 1), by omega, rfl, hlt, p'⟩, fun x H' y => ?_⟩
    obtain ⟨e, y⟩ := y
    subst e y
    exact hs i σ _ hlt p
  · have e : i = n := by omega
    subst e
    exact .inl ⟨Nat.le_refl _, hd σ H p⟩
end L2
namespace L2
open PySem PySem.Spec PyProof.Rows
abbrev R2 := V → V → Hp → VK → Prop
def OpR (X : Cx) (f : Value → Value → Sem Value) (r : R2) : Prop :=
  ∀ (pins : List (Addr × Obj)) (s : Shared) (σ : St) (H : Hp) (x y : V) (v u : Value) (Q : VK), Inv X pins σ H s → RelV x v → RelV y u → r x y H Q →
    wpAny (model X.prog X.w) X.A (f v u) (EP X pins σ Q) X.xe s
def UnR (X : Cx) (f : Value → Sem Value) (r : V → Hp → VK → Prop) : Prop :=
  ∀ (pins : List (Addr × Obj)) (s : Shared) (σ : St) (H : Hp) (x : V) (v : Value) (Q : VK), Inv X pins σ H s → RelV x v → r x H Q →
    wpAny (model X.prog X.w) X.A (f v) (EP X pins σ Q) X.xe s
def CallR (X : Cx) (f : Value) (r : List V → Hp → VK → Prop) : Prop :=
  ∀ (pins : List (Addr × Obj)) (s : Shared) (σ : St) (H : Hp) (xs : List V) (us : List Value) (Q : VK), Inv X pins σ H s → Vals xs us → r xs H Q →
    wpAny (model X.prog X.w) X.A (call f us) (EP X pins σ Q) X.xe s
def tOp (r : R2) (ta tb : TE) : TE := fun σ H Q => ta σ H fun x H1 => tb σ H1 fun y H2 => r x y H2 Q
def tUn (r : V → Hp → VK → Prop) (ta : TE) : TE := fun σ H Q => ta σ H fun x H1 => r x H1 Q
def rI (C : Int → Int → Prop) (g : Int → Int → V) : R2 := fun x y H Q => ∃ i j, x = .int i ∧ y = .int j ∧ C i j ∧ Q (g i j) H
def rI0 (g : Int → Int → V) : R2 := fun x y H Q => ∃ i j, x = .int i ∧ y = .int j ∧ Q (g i j) H
def rU (g : Int → V) : V → Hp → VK → Prop := fun x H Q => ∃ i, x = .int i ∧ Q (g i) H
section
variable {X : Cx} {a b c : Expr} {ta tb tc : TE} {pos : Pos}
theorem binT (ha : PE X a ta) (hb : PE X b tb) {pins : List (Addr × Obj)} {s : Shared} {σ : St} {H : Hp} {R : V → V → Hp → Prop} (I : Inv X pins σ H s)
    (h : ta σ H fun x H1 => tb σ H1 fun y H2 => R x y H2) {Q : Value → Shared → Prop} {f : Value → Value → Sem Value}
    (hf : ∀ v u s2 x y H2, Inv X pins σ H2 s2 → RelV x v → RelV y u → R x y H2 → wpAny (model X.prog X.w) X.A (f v u) Q X.xe s2) :
    wpAny (model X.prog X.w) X.A (eval a X.env) (fun v s₁ => wpAny (model X.prog X.w) X.A (eval b X.env) (fun u s₂ => wpAny (model X.prog X.w) X.A (f v u) Q X.xe s₂) X.xe s₁) X.xe s := by
  refine thn (ha pins s σ H _ I h) fun v s1 ⟨x, H1, I1, r1, q1⟩ => ?_
  refine thn (hb pins s1 σ H1 _ I1 q1) fun u s2 ⟨y, H2, I2, r2, q2⟩ => ?_
  exact hf v u s2 x y H2 I2 r1 r2 q2
theorem pe_op {op : Operator} {r : R2} (ho : OpR X (binaryOp op) r) (ha : PE X a ta) (hb : PE X b tb) : PE X (.BinOp a op b pos) (tOp r ta tb) := by
  intro pins s σ H Q I h
  exact wpAny_BinOp (binT ha hb I h fun v u s2 x y H2 I2 rx ry q => ho pins s2 σ H2 x y v u Q I2 rx ry q)
theorem pe_un {op : UnaryOp} {r : V → Hp → VK → Prop} (ho : UnR X (unaryOp op) r) (ha : PE X a ta) : PE X (.UnaryOp op a pos) (tUn r ta) := by
  intro pins s σ H Q I h
  exact UnaryOp_ (thn (ha pins s σ H _ I h) fun v s1 ⟨x, H1, I1, r1, q1⟩ => ho pins s1 σ H1 x v Q I1 r1 q1)
theorem opI {f : Value → Value → Sem Value} {C : Int → Int → Prop} {g : Int → Int → Int}
    (rule : ∀ (i j : Int) (t u : Tok) (s : Shared) (Q : Value → Shared → Prop) (E : Value → Shared → Prop), C i j → Q (.int (g i j) s.toks) { s with toks := s.toks + 1 } → wpAny (model X.prog X.w) X.A (f (.int i t) (.int j u)) Q E s) :
    OpR X f (rI C fun i j => .int (g i j)) := by
  intro pins s σ H x y v u Q I rx ry h
  obtain ⟨i, j, rfl, rfl, hc, q⟩ := h
  obtain ⟨t, rfl⟩ := rx
  obtain ⟨t', rfl⟩ := ry
  exact rule i j t t' s _ _ hc ⟨.int (g i j), H, I.tok _, ⟨_, rfl⟩, q⟩
theorem opI0 {f : Value → Value → Sem Value} {g : Int → Int → Int}
    (rule : ∀ (i j : Int) (t u : Tok) (s : Shared) (Q : Value → Shared → Prop) (E : Value → Shared → Prop), Q (.int (g i j) s.toks) { s with toks := s.toks + 1 } → wpAny (model X.prog X.w) X.A (f (.int i t) (.int j u)) Q E s) :
    OpR X f (rI0 fun i j => .int (g i j)) := by
  intro pins s σ H x y v u Q I rx ry h
  obtain ⟨i, j, rfl, rfl, q⟩ := h
  obtain ⟨t, rfl⟩ := rx
  obtain ⟨t', rfl⟩ := ry
  exact rule i j t t' s _ _ ⟨.int (g i j), H, I.tok _, ⟨_, rfl⟩, q⟩
theorem opB0 {f : Value → Value → Sem Value} {g : Int → Int → Bool}
    (rule : ∀ (i j : Int) (t u : Tok) (s : Shared) (Q : Value → Shared → Prop) (E : Value → Shared → Prop), Q (.bool (g i j)) s → wpAny (model X.prog X.w) X.A (f (.int i t) (.int j u)) Q E s) :
    OpR X f (rI0 fun i j => .bl (g i j)) := by
  intro pins s σ H x y v u Q I rx ry h
  obtain ⟨i, j, rfl, rfl, q⟩ := h
  obtain ⟨t, rfl⟩ := rx
  obtain ⟨t', rfl⟩ := ry
  exact rule i j t t' s _ _ ⟨.bl (g i j), H, I, rfl, q⟩
def CDiv (i j : Int) : Prop := 0 < j ∧ j < 1073741824
def CMul (i j : Int) : Prop := (-(2 ^ 64) < i ∧ i < 2 ^ 64) ∨ (-(2 ^ 64) < j ∧ j < 2 ^ 64)
theorem CMul.ok {i j : Int} (h : CMul i j) : IntMulOk i j := by
  rcases h with ⟨h1, h2⟩ | ⟨h1, h2⟩
  · exact .of_left (intBits_le_64 h1 h2)
  · exact .of_right (intBits_le_64 h1 h2)
theorem op_add : OpR X (binaryOp .Add) (rI0 fun i j => .int (i + j)) := opI0 fun _ _ _ _ _ _ _ q => add_int q
theorem op_sub : OpR X (binaryOp .Sub) (rI0 fun i j => .int (i - j)) := opI0 fun _ _ _ _ _ _ _ q => sub_int q
theorem op_mul : OpR X (binaryOp .Mult) (rI CMul fun i j => .int (i * j)) := opI fun _ _ _ _ _ _ _ hc q => mul_int q hc.ok
theorem op_fdiv : OpR X (binaryOp .FloorDiv) (rI CDiv fun i j => .int (i / j)) := opI fun i j _ _ _ _ _ hc q => by
  have h1 : (0 : Int) < j := hc.1
  have h2 : j < 1073741824 := hc.2
  exact floordiv_int (by omega) (by rw [Int.fdiv_eq_ediv_of_nonneg i (by omega)]; exact q) (.inl (PyProof.noPylong_small (by omega)))
theorem op_mod : OpR X (binaryOp .Mod) (rI (fun _ j => 0 < j) fun i j => .int (i % j)) := opI fun i j _ _ _ _ _ hc q => by
  have h1 : (0 : Int) < j := hc
  exact mod_int' (by omega) (by rw [Int.fmod_eq_emod_of_nonneg i (by omega)]; exact q)
theorem unI {f : Value → Sem Value} {g : Int → Int}
    (rule : ∀ (i : Int) (t : Tok) (s : Shared) (Q : Value → Shared → Prop) (E : Value → Shared → Prop), Q (.int (g i) s.toks) { s with toks := s.toks + 1 } → wpAny (model X.prog X.w) X.A (f (.int i t)) Q E s) :
    UnR X f (rU fun i => .int (g i)) := by
  intro pins s σ H x v Q I rx h
  obtain ⟨i, rfl, q⟩ := h
  obtain ⟨t, rfl⟩ := rx
  exact rule i t s _ _ ⟨.int (g i), H, I.tok _, ⟨_, rfl⟩, q⟩
theorem un_neg : UnR X (unaryOp .USub) (rU fun i => .int (-i)) := unI fun _ _ _ _ _ q => neg_int q
end
def scal : V → V → Bool
  | .non, .non => true | .non, .int _ => true | .int _, .non => true | .non, .bl _ => true | .bl _, .non => true | .non, .str _ => true | .str _, .non => true
  | .int _, .int _ => true | .bl _, .bl _ => true | .str _, .str _ => true | .byt _, .byt _ => true
  | .int _, .str _ => true | .str _, .int _ => true | .bl _, .str _ => true | .str _, .bl _ => true
  | _, _ => false
def rEq : R2 := fun x y H Q => scal x y = true ∧ Q (.bl (decide (x = y))) H
def rNe : R2 := fun x y H Q => scal x y = true ∧ Q (.bl (!decide (x = y))) H
theorem dec_int {i j : Int} : decide (V.int i = V.int j) = (i == j) := by
  rw [Bool.eq_iff_iff]
  simp
theorem dec_bl {i j : Bool} : decide (V.bl i = V.bl j) = (i == j) := by
  rw [Bool.eq_iff_iff]
  simp
theorem dec_str {i j : Str} : decide (V.str i = V.str j) = (i == j) := by
  rw [Bool.eq_iff_iff]
  simp
theorem dec_byt {i j : Array UInt8} : decide (V.byt i = V.byt j) = (i.toList == j.toList) := by
  rw [Bool.eq_iff_iff]
  cases i
  cases j
  simp
section
variable {X : Cx} {a b c : Expr} {ta tb tc : TE} {pos : Pos}
theorem fin_bl {pins : List (Addr × Obj)} {σ : St} {H : Hp} {s : Shared} {Q : VK} {k k' : Bool} (I : Inv X pins σ H s) (q : Q (.bl k) H) (e : k = k') : EP X pins σ Q (.bool k') s := by
  subst e
  exact ⟨.bl k, H, I, rfl, q⟩
theorem op_eq : OpR X (compareOp .Eq) rEq := by
  intro pins s σ H x y v u Q I rx ry h
  obtain ⟨hs, q⟩ := h
  cases x with
  | non =>
    cases rx
    cases y with
    | non => cases ry; exact PySem.EqNone.eq_none_none (fin_bl I q (by simp))
    | bl j => cases ry; exact PySem.EqNone.eq_none_bool (fin_bl I q (by simp))
    | int j => obtain ⟨t', rfl⟩ := ry; exact PySem.EqNone.eq_none_int (fin_bl I q (by simp))
    | str j => obtain ⟨t', rfl⟩ := ry; exact PySem.EqNone.eq_none_str (fin_bl I q (by simp))
    | _ => exact absurd (show false = true from hs) Bool.false_ne_true
  | bl i =>
    cases rx
    cases y with
    | non => cases ry; exact PySem.EqNone.eq_bool_none (fin_bl I q (by simp))
    | bl j => cases ry; exact eq_bool (fin_bl I q dec_bl)
    | str j => obtain ⟨t', rfl⟩ := ry; exact PySem.EqMixed.eq_bool_str (fin_bl I q (by simp))
    | _ => exact absurd (show false = true from hs) Bool.false_ne_true
  | int i =>
    obtain ⟨t, rfl⟩ := rx
    cases y with
    | non => cases ry; exact PySem.EqNone.eq_int_none (fin_bl I q (by simp))
    | int j => obtain ⟨t', rfl⟩ := ry; exact eq_int (fin_bl I q dec_int)
    | str j => obtain ⟨t', rfl⟩ := ry; exact PySem.EqMixed.eq_int_str (fin_bl I q (by simp))
    | _ => exact absurd (show false = true from hs) Bool.false_ne_true
  | str i =>
    obtain ⟨t, rfl⟩ := rx
    cases y with
    | non => cases ry; exact PySem.EqNone.eq_str_none (fin_bl I q (by simp))
    | bl j => cases ry; exact PySem.EqMixed.eq_str_bool (fin_bl I q (by simp))
    | int j => obtain ⟨t', rfl⟩ := ry; exact PySem.EqMixed.eq_str_int (fin_bl I q (by simp))
    | str j => obtain ⟨t', rfl⟩ := ry; exact eq_str (fin_bl I q dec_str)
    | _ => exact absurd (show false = true from hs) Bool.false_ne_true
  | byt i =>
    obtain ⟨t, rfl⟩ := rx
    cases y with
    | byt j => obtain ⟨t', rfl⟩ := ry; exact PySem.W.eq_bytes (fin_bl I q dec_byt)
    | _ => exact absurd (show false = true from hs) Bool.false_ne_true
  | _ => cases y <;> exact absurd (show false = true from hs) Bool.false_ne_true
theorem op_ne : OpR X (compareOp .NotEq) rNe := by
  intro pins s σ H x y v u Q I rx ry h
  obtain ⟨hs, q⟩ := h
  cases x with
  | non =>
    cases rx
    cases y with
    | non => cases ry; exact PySem.EqNone.ne_none_none (fin_bl I q (by simp))
    | bl j => cases ry; exact PySem.EqNone.ne_none_bool (fin_bl I q (by simp))
    | int j => obtain ⟨t', rfl⟩ := ry; exact PySem.EqNone.ne_none_int (fin_bl I q (by simp))
    | str j => obtain ⟨t', rfl⟩ := ry; exact PySem.EqNone.ne_none_str (fin_bl I q (by simp))
    | _ => exact absurd (show false = true from hs) Bool.false_ne_true
  | bl i =>
    cases rx
    cases y with
    | non => cases ry; exact PySem.EqNone.ne_bool_none (fin_bl I q (by simp))
    | bl j => cases ry; exact ne_bool (fin_bl I q (congrArg not dec_bl))
    | str j => obtain ⟨t', rfl⟩ := ry; exact PySem.EqMixed.ne_bool_str (fin_bl I q (by simp))
    | _ => exact absurd (show false = true from hs) Bool.false_ne_true
  | int i =>
    obtain ⟨t, rfl⟩ := rx
    cases y with
    | non => cases ry; exact PySem.EqNone.ne_int_none (fin_bl I q (by simp))
    | int j => obtain ⟨t', rfl⟩ := ry; exact ne_int (fin_bl I q (congrArg not dec_int))
    | str j => obtain ⟨t', rfl⟩ := ry; exact PySem.EqMixed.ne_int_str (fin_bl I q (by simp))
    | _ => exact absurd (show false = true from hs) Bool.false_ne_true
  | str i =>
    obtain ⟨t, rfl⟩ := rx
    cases y with
    | non => cases ry; exact PySem.EqNone.ne_str_none (fin_bl I q (by simp))
    | bl j => cases ry; exact PySem.EqMixed.ne_str_bool (fin_bl I q (by simp))
    | int j => obtain ⟨t', rfl⟩ := ry; exact PySem.EqMixed.ne_str_int (fin_bl I q (by simp))
    | str j => obtain ⟨t', rfl⟩ := ry; exact ne_str (fin_bl I q (congrArg not dec_str))
    | _ => exact absurd (show false = true from hs) Bool.false_ne_true
  | byt i =>
    obtain ⟨t, rfl⟩ := rx
    cases y with
    | byt j => obtain ⟨t', rfl⟩ := ry; exact PySem.W.ne_bytes (fin_bl I q (congrArg not dec_byt))
    | _ => exact absurd (show false = true from hs) Bool.false_ne_true
  | _ => cases y <;> exact absurd (show false = true from hs) Bool.false_ne_true
theorem op_le : OpR X (compareOp .LtE) (rI0 fun i j => .bl (decide (i ≤ j))) := opB0 fun _ _ _ _ _ _ _ q => le_int q
theorem op_gt : OpR X (compareOp .Gt) (rI0 fun i j => .bl (decide (j < i))) := opB0 fun _ _ _ _ _ _ _ q => gt_int q
theorem op_ge : OpR X (compareOp .GtE) (rI0 fun i j => .bl (decide (j ≤ i))) := opB0 fun _ _ _ _ _ _ _ q => ge_int q
theorem op_isN : OpR X (compareOp .Is) (fun x y H Q => y = .non ∧ Q (.bl (decide (x = .non))) H) := by
  intro pins s σ H x y v u Q I rx ry h
  obtain ⟨rfl, q⟩ := h
  cases ry
  refine is_none_gen (fin_bl I q ?_)
  cases x <;> first
    | (cases rx; rfl)
    | (obtain ⟨t, rfl⟩ := rx; rfl)
theorem op_notN : OpR X (compareOp .IsNot) (fun x y H Q => y = .non ∧ Q (.bl (!decide (x = .non))) H) := by
  intro pins s σ H x y v u Q I rx ry h
  obtain ⟨rfl, q⟩ := h
  cases ry
  refine isnot_none_gen (fin_bl I q ?_)
  cases x <;> first
    | (cases rx; rfl)
    | (obtain ⟨t, rfl⟩ := rx; rfl)
theorem nomark (b : Expr) {op : CmpOp} (h : op ≠ .In := by decide) (h2 : op ≠ .NotIn := by decide) : behindInMarks op b = false := by
  have e1 : (op == CmpOp.In) = false := by cases op <;> first | rfl | exact absurd rfl h
  have e2 : (op == CmpOp.NotIn) = false := by cases op <;> first | rfl | exact absurd rfl h2
  cases b <;> simp [behindInMarks, e1, e2]
theorem pe_cmpR {op : CmpOp} {r : R2} (ho : OpR X (compareOp op) r) (ha : PE X a ta) (hb : PE X b tb) (hm : behindInMarks op b = false) : PE X (.Compare a [op] [b] pos) (tOp r ta tb) := by
  intro pins s σ H Q I h
  exact wpAny_Compare1 (binT ha hb I h fun v u s2 x y H2 I2 rx ry q => ho pins s2 σ H2 x y v u Q I2 rx ry q) hm
def tTest (t : TE) : TT := fun σ H Q => t σ H fun x H' => ∃ k, x = .bl k ∧ Q k H'
theorem pt_cmpR {op : CmpOp} {r : R2} (ho : OpR X (compareOp op) r) (ha : PE X a ta) (hb : PE X b tb) (hm : behindInMarks op b = false) : PT X (.Compare a [op] [b] pos) (tTest (tOp r ta tb)) := by
  intro pins s σ H Q I h
  refine wpAny_isTrue_Compare1 (thn (ha pins s σ H _ I h) fun v s1 ⟨x, H1, I1, r1, q1⟩ => thn (hb pins s1 σ H1 _ I1 q1) fun u s2 ⟨y, H2, I2, r2, q2⟩ =>
    thn (ho pins s2 σ H2 x y v u _ I2 r1 r2 q2) fun c s3 ⟨z, H3, I3, r3, k, e, q3⟩ => ?_) hm
  subst e
  cases r3
  exact wpAny_truthy_bool ⟨H3, I3, q3⟩
def tChain (r r' : R2) (ta tb tc : TE) : TE := fun σ H Q => ta σ H fun x H1 => tb σ H1 fun y H2 => r x y H2 fun z H3 => ∃ k, z = .bl k ∧
  (if k = true then tc σ H3 fun w' H4 => r' y w' H4 Q else Q (.bl false) H3)
theorem pt_chain {op op' : CmpOp} {r r' : R2} (ho : OpR X (compareOp op) r) (ho' : OpR X (compareOp op') r') (ha : PE X a ta) (hb : PE X b tb) (hc : PE X c tc)
    (hm : lastMarks [op, op'] [b, c] = false := by with_unfolding_all rfl) : PT X (.Compare a [op, op'] [b, c] pos) (tTest (tChain r r' ta tb tc)) := by
  intro pins s σ H Q I h
  refine isTrue_chain (thn (ha pins s σ H _ I h) fun v s1 ⟨x, H1, I1, r1, q1⟩ => test_link (thn (hb pins s1 σ H1 _ I1 q1) fun u s2 ⟨y, H2, I2, r2, q2⟩ =>
    thn (ho pins s2 σ H2 x y v u _ I2 r1 r2 q2) fun d s3 ⟨z, H3, I3, r3, k, e, q3⟩ => ?_)) hm
  subst e
  cases r3
  refine wpAny_truthy_bool ?_
  cases k with
  | false =>
    obtain ⟨k', e', q'⟩ := q3
    cases e'
    exact ite_ff ⟨H3, I3, q'⟩
  | true =>
    refine ite_tt (test_last (thn (hc pins s3 σ H3 _ I3 q3) fun w' s4 ⟨z', H4, I4, r4, q4⟩ => thn (ho' pins s4 σ H4 y z' u w' _ I4 r2 r4 q4) fun d' s5 ⟨z2, H5, I5, r5, k2, e2, q5⟩ => ?_))
    subst e2
    cases r5
    exact wpAny_truthy_bool ⟨H5, I5, q5⟩
theorem line63 : (sizeLine : Nat) < 2 ^ 63 := by rw [sizeLine_eq]; decide
theorem op_add_str : OpR X (binaryOp .Add) (fun x y H Q => ∃ i j, x = .str i ∧ y = .str j ∧ i.length + j.length ≤ sizeLine ∧ Q (.str (i ++ j)) H) := by
  intro pins s σ H x y v u Q I rx ry h
  obtain ⟨i, j, rfl, rfl, hz, q⟩ := h
  obtain ⟨t, rfl⟩ := rx
  obtain ⟨t', rfl⟩ := ry
  exact add_str (fun t' tk => ⟨.str (i ++ j), H, I.tok _, ⟨_, rfl⟩, q⟩) hz
def PlainIxT (b : Expr) : Prop := ∀ o i, subscripted b false o i = operate [o, i] (getItem o i)
theorem pe_item_str (ha : PE X a ta) (hb : PE X b tb) (hs : PlainIxT b) :
    PE X (.Subscript a b pos) (tOp (fun x y H Q => ∃ z i c, x = .str z ∧ y = .int i ∧ 0 ≤ i ∧ i < 2 ^ 63 ∧ i < z.length ∧ z.cps[i.toNat]? = some c ∧ Q (.str ⟨#[c]⟩) H) ta tb) := by
  intro pins s σ H Q I h
  refine Subscript_ (binT ha hb I h fun v u s2 x y H2 I2 rx ry q => ?_)
  obtain ⟨z, i, c, rfl, rfl, h0, h63, h1, hc, q⟩ := q
  obtain ⟨t, rfl⟩ := rx
  obtain ⟨t', rfl⟩ := ry
  have e : seqIndex? i z.length = some i.toNat := PySem.StrLaws.seqIndex_nonneg h0 h1
  exact tail_any (typeIs_str s2 z t) slot_str_getitem.lookup (getItem_str (c := c) (by
    have e1 : decide (i < -(2 ^ 63 : Int)) = false := decide_eq_false (by omega)
    have e2 : decide (i ≥ 2 ^ 63) = false := decide_eq_false (by omega)
    rw [e1, e2] <;> rfl) (by rw [e]; exact hc) ⟨.str ⟨#[c]⟩, H2, I2.tok _, ⟨_, rfl⟩, q⟩) (hs _ _)
theorem vals1 {x : V} {us : List Value} (r : Vals [x] us) : ∃ u, us = [u] ∧ RelV x u := by
  cases r with
  | cons r1 r2 => cases r2; exact ⟨_, rfl, r1⟩
theorem vals2 {x y : V} {us : List Value} (r : Vals [x, y] us) : ∃ u w', us = [u, w'] ∧ RelV x u ∧ RelV y w' := by
  cases r with
  | cons r1 r2 =>
    cases r2 with
    | cons r3 r4 => cases r4; exact ⟨_, _, rfl, r1, r3⟩
theorem call_abs : CallR X (.builtin "abs") (fun xs H Q => ∃ i, xs = [.int i] ∧ Q (.int (if i < 0 then -i else i)) H) := by
  intro pins s σ H xs us Q I r h
  obtain ⟨i, rfl, q⟩ := h
  obtain ⟨u, rfl, t, rfl⟩ := vals1 r
  exact call_abs_int fun u tk => ⟨.int (if i < 0 then -i else i), H, I.tok _, ⟨_, rfl⟩, q⟩
theorem call_int1 : CallR X (.type "int") (fun xs H Q => (∃ i, xs = [.int i] ∧ Q (.int i) H) ∨ ∃ k, xs = [.bl k] ∧ Q (.int (if k then 1 else 0)) H) := by
  intro pins s σ H xs us Q I r h
  rcases h with ⟨i, rfl, q⟩ | ⟨k, rfl, q⟩
  · obtain ⟨u, rfl, t, rfl⟩ := vals1 r
    exact call_int_int ⟨.int i, H, I, ⟨_, rfl⟩, q⟩
  · obtain ⟨u, rfl, r1⟩ := vals1 r
    cases r1
    exact call_int_bool ⟨.int (if k then 1 else 0), H, I.tok _, ⟨_, rfl⟩, q⟩
end
end L2
namespace L2
open PySem PySem.Spec PyProof.Rows
structure ObjM (h : Heap) (x dx C : Addr) (mA : Str → Option Value) : Prop where
  obj : h.get? x = some (PySem.W.instObj C dx)
  ns : h.Ns1 dx mA
  ne : dx ≠ x
theorem lookIn_ns {h : Heap} {dx : Addr} {mA : Str → Option Value} (n : h.Ns1 dx mA) : ∃ od, h.get? dx = some od ∧ ∀ name, PySem.W.lookIn name od = some (mA name) := by
  obtain ⟨o, es, ep, ho, hd, hk, _, hm⟩ := n
  refine ⟨o, ho, fun name => ?_⟩
  have e := hm name
  unfold nsFind findBy at e
  rw [← Array.find?_toList] at e
  unfold PySem.W.lookIn
  rw [hd]
  dsimp only
  split
  · rename_i y q
    rw [q] at e
    exact congrArg some e
  · rename_i q
    rw [q] at e
    have a : es.toList.any (·.refKey) = false := by
      rw [List.any_eq_false]
      intro y hy
      obtain ⟨z, t, hkey⟩ := hk y (Array.mem_toList_iff.mp hy)
      simp [DictEntry.refKey, hkey]
    have a' : ¬ es.toList.any (·.refKey) = true := by rw [a]; exact Bool.false_ne_true
    rw [if_neg a']
    exact congrArg some e
theorem ObjM.look {h : Heap} {x dx C : Addr} {mA : Str → Option Value} (I : ObjM h x dx C mA) : ∃ od, PySem.W.InstAt h x (PySem.W.instObj C dx) C (some od) ∧ ∀ name, PySem.W.lookIn name od = some (mA name) :=
  let ⟨od, ho, hl⟩ := lookIn_ns I.ns
  ⟨od, ⟨I.obj, rfl, rfl, ho⟩, hl⟩
section
variable {prog : Program} {w : World} {A : Around} {E : Value → Shared → Prop} {s : Shared} {K : PySem.W.Frag} {x dx C f : Addr} {mA : Str → Option Value} {name : Str} {v : Value}
theorem get_map {expr : Bool} {Q : Value → Shared → Prop} (X : K.In s.heap) (I : ObjM s.heap x dx C mA) (hg : PySem.W.plainGet K C name = true) (hh : PySem.W.hasDictIn K C = true)
    (ha : PySem.W.findIn K (.ref C) name = some none) (hv : mA name = some v) (hv' : PySem.W.handedIn v = true) (h : Q v { s with toks := s.toks + 1 }) :
    wpAny (model prog w) A (getAttr (.ref x) name expr) Q E s := by
  obtain ⟨od, J, hl⟩ := I.look
  exact PySem.W.get_value X J (PySem.W.plainGet_of hg).1 (PySem.W.findObj_own hh ha rfl (by rw [hl, hv])) hv' h
theorem get_meth {pl : Sem Bool} {Q : Value × List Value → Shared → Prop} (X : K.In s.heap) (I : ObjM s.heap x dx C mA) (hg : PySem.W.plainGet K C name = true)
    (hf : PySem.W.findIn K (.ref C) name = some (some (.ref f))) (ht : PySem.W.isFn K (.ref f) = true) (hv : mA name = none) (h : Q (.ref f, [.ref x]) s) :
    wpAny (model prog w) A (getMethod (.ref x) name pl) Q E s := by
  obtain ⟨od, J, hl⟩ := I.look
  exact PySem.W.method_fn X J (PySem.W.plainGet_of hg).1 (PySem.W.plainGet_of hg).2 hf (beq_iff_eq.mp ht) (by show (PySem.W.lookIn name od).map (·.isSome) = some false; rw [hl, hv]; rfl) h
theorem set_map {ns : List Str} {Q : Unit → Shared → Prop} (X : K.In s.heap) (I : ObjM s.heap x dx C mA)
    (hs : PySem.W.findIn K (.ref C) "__setattr__" = some (some (.builtin "object.__setattr__"))) (hp : PySem.W.plainOver K C = true) (ht : PySem.W.takerIn K C name = some none) (hh : PySem.W.hasDictIn K C = true)
    (hw : PySem.Within mA ns) (hsz : ns.length ≤ sizeLine)
    (h : ∀ h', ObjM h' x dx C (fun y => if y = name then some v else mA y) → Heap.SameBut dx s.heap h' → Q () { s with heap := h', toks := s.toks + 2 }) :
    wpAny (model prog w) A (setAttr (.ref x) name v) Q E s := by
  obtain ⟨od, J, hl⟩ := I.look
  refine PySem.W.set_plain X J hs (PySem.W.osa_open (s := { s with toks := s.toks + 1 }) (r := none) X J hp ht fun b => ?_)
  obtain ⟨cd, hc, hd'⟩ := PySem.W.any_some hh
  have hx : s.heap.get? x = some ⟨.ref C, some dx, .plain, #[]⟩ := I.obj
  refine wpAny_bind (wpAny_pure (wpAny_bind (wpAny_bind (wpAny_loadPart hx (wpAny_bind (PySem.W.Looks.here (s := { s with toks := s.toks + 1 }) (PySem.W.looks_clsIn X hc) ?_))))))
  rw [hd']
  refine wpAny_pure (a := some dx) (wpAny_bind (wpAny_pure (wpAny_bind ?_)))
  refine wpAny_nsSet1 (s := { s with toks := s.toks + 1 }) I.ns fun h' hn2 hs2 => ?_
  obtain ⟨oD, esD, epD, hoD, hdD, hcD⟩ := hn2.count (PySem.Within.cons name v hw)
  refine wpAny_bind (wpAny_lookBehind hoD (by rw [hdD]; exact pastItsLine_dict (Nat.le_trans hcD (by rw [List.length_cons]; omega))) ?_)
  exact wpAny_pure (h _ ⟨(hs2.2 _ (Ne.symm I.ne)).trans I.obj, hn2, I.ne⟩ hs2)
theorem make_map {R : Result → Shared → Prop} {vs : List Value} {kw : List (Str × Value)} (X : K.In s.heap) (hm : PySem.W.makesIn K C = true)
    (hi : PySem.W.findIn K (.ref C) "__init__" = some (some (.ref f))) (hf : PySem.W.typeIn K (.ref f) = some (.type "function"))
    (h : codeAny (model prog w) (A.under (.builtin "type.__call__" ⟨.ref C :: vs, kw⟩)) (.call (.ref f) ⟨.ref (s.heap.objs.size + 1) :: vs, kw⟩) (PySem.W.InitBack (s.heap.objs.size + 1) R)
      { s with heap := (s.heap.push PySem.W.emptyDict).push (PySem.W.instObj C s.heap.objs.size) }) :
    codeAny (model prog w) A (.call (.ref C) ⟨vs, kw⟩) R s := by
  obtain ⟨hh, g, d, t, os⟩ := s
  exact PySem.W.make_core (PySem.W.makes_of X hm) (PySem.W.looks_findIn X hi) (fun self => PySem.W.bind_fn X self hf) (.inl rfl) h
end
def putF (f : Str) (v : V) : List (Str × V) → List (Str × V)
  | [] => [(f, v)]
  | (g, x) :: r => if g = f then (g, v) :: r else (g, x) :: putF f v r
theorem lookup_putF (f g : Str) (v : V) : ∀ fs : List (Str × V), (putF f v fs).lookup g = if g = f then some v else fs.lookup g
  | [] => by
    show List.lookup g [(f, v)] = _
    by_cases h : g = f
    · have hb : (g == f) = true := beq_iff_eq.mpr h
      simp only [List.lookup, hb, if_pos h]
    · have hb : (g == f) = false := beq_eq_false_iff_ne.mpr h
      simp only [List.lookup, hb, if_neg h]
  | (k, x) :: r => by
    have ih := lookup_putF f g v r
    rw [show putF f v ((k, x) :: r) = (if k = f then (k, v) :: r else (k, x) :: putF f v r) from rfl]
    by_cases hk : k = f
    · rw [if_pos hk]
      by_cases h : g = k
      · have hb : (g == k) = true := beq_iff_eq.mpr h
        simp only [List.lookup, hb, if_pos (h.trans hk)]
      · have hb : (g == k) = false := beq_eq_false_iff_ne.mpr h
        simp only [List.lookup, hb, if_neg (fun e : g = f => h (e.trans hk.symm))]
    · rw [if_neg hk]
      by_cases h : g = k
      · have hb : (g == k) = true := beq_iff_eq.mpr h
        simp only [List.lookup, hb, if_neg (fun e : g = f => hk (h.symm.trans e))]
      · have hb : (g == k) = false := beq_eq_false_iff_ne.mpr h
        simp only [List.lookup, hb]
        exact ih
theorem keys_putF (f : Str) (v : V) : ∀ fs : List (Str × V), f ∈ (putF f v fs).map (·.1) ∧ ∀ g, g ∈ fs.map (·.1) → g ∈ (putF f v fs).map (·.1)
  | [] => ⟨by simp [putF], fun g h => by simp at h⟩
  | (k, x) :: r => by
    obtain ⟨i1, i2⟩ := keys_putF f v r
    rw [show putF f v ((k, x) :: r) = (if k = f then (k, v) :: r else (k, x) :: putF f v r) from rfl]
    by_cases hk : k = f
    · rw [if_pos hk]
      subst hk
      exact ⟨by simp, fun g h => by simpa using h⟩
    · rw [if_neg hk]
      refine ⟨?_, fun g h => ?_⟩
      · rw [List.map_cons]
        exact List.mem_cons_of_mem _ i1
      · rw [List.map_cons] at h ⊢
        rcases List.mem_cons.mp h with e | e
        · exact List.mem_cons.mpr (.inl e)
        · exact List.mem_cons_of_mem _ (i2 g e)
theorem length_putF (f : Str) (v : V) : ∀ fs : List (Str × V), (putF f v fs).length ≤ fs.length + 1
  | [] => by simp [putF]
  | (k, x) :: r => by
    have ih := length_putF f v r
    rw [show putF f v ((k, x) :: r) = (if k = f then (k, v) :: r else (k, x) :: putF f v r) from rfl]
    by_cases hk : k = f
    · rw [if_pos hk, List.length_cons, List.length_cons]; omega
    · rw [if_neg hk, List.length_cons, List.length_cons]; omega
theorem RelO.some_of {v : V} {o : Option Value} (r : RelO (some v) o) : ∃ u, o = some u ∧ RelV v u := by
  cases o with
  | none => exact (show False from r).elim
  | some u => exact ⟨u, rfl, r⟩
theorem RelO.none_of {o : Option Value} (r : RelO none o) : o = none := by
  cases o with
  | none => rfl
  | some u => exact (show False from r).elim
theorem handed_of {v : V} {u : Value} (r : RelV v u) : PySem.W.handedIn u = true := by
  cases v with
  | non => cases (show u = Value.none from r); rfl
  | bl b => cases (show u = Value.bool b from r); rfl
  | int i => obtain ⟨t, e⟩ := (show ∃ t, u = Value.int i t from r); cases e; rfl
  | str x => obtain ⟨t, e⟩ := (show ∃ t, u = Value.str x t from r); cases e; rfl
  | byt b => obtain ⟨t, e⟩ := (show ∃ t, u = Value.bytes b t from r); cases e; rfl
  | flt b => obtain ⟨t, e⟩ := (show ∃ t, u = Value.float b t from r); cases e; rfl
  | ref a => cases (show u = Value.ref a from r); rfl
  | ty n => cases (show u = Value.type n from r); rfl
section
variable {P : Program} {w : World} {H H' : Hp} {h h' : Heap} {a C dx : Addr} {fs fs' : List (Str × V)}
theorem ins_get (hok : HOk P w H h) (e : H a = some (.ins C dx fs)) : ∃ mA, ObjM h a dx C mA ∧ (∀ f, RelO (fs.lookup f) (mA f)) ∧ PySem.Within mA (fs.map (·.1)) ∧ fs.length ≤ 1000 ∧ H dx = some (.own a) := by
  obtain ⟨d, z, ne, ob, mA, n, r, q⟩ := (show ObjOk P w H h a (.ins C dx fs) from hok a _ e)
  exact ⟨mA, ⟨ob, n, ne⟩, r, q, z, d⟩
end
structure Cls (K : PySem.W.Frag) (C : Addr) : Prop where
  pg : PySem.W.plainGet K C Str.empty = true
  hd : PySem.W.hasDictIn K C = true
  po : PySem.W.plainOver K C = true
  sa : PySem.W.findIn K (.ref C) "__setattr__" = some (some (.builtin "object.__setattr__"))
theorem Cls.get {K : PySem.W.Frag} {C : Addr} (c : Cls K C) (f : Str) : PySem.W.plainGet K C f = true := c.pg
def NoAttr (K : PySem.W.Frag) (C : Addr) (f : Str) : Prop := PySem.W.findIn K (.ref C) f = some none
theorem NoAttr.taker {K : PySem.W.Frag} {C : Addr} {f : Str} (n : NoAttr K C f) : PySem.W.takerIn K C f = some none := by
  unfold PySem.W.takerIn
  rw [show PySem.W.findIn K (.ref C) f = some none from n]
  rfl
structure Meth (K : PySem.W.Frag) (C : Addr) (m : Str) (f : Addr) : Prop where
  at_ : PySem.W.findIn K (.ref C) m = some (some (.ref f))
  fn : PySem.W.isFn K (.ref f) = true
  kp : PySem.W.keepIn K (.ref f) = true
section
variable {X : Cx} {pins : List (Addr × Obj)} {σ : St} {H : Hp} {s : Shared} {a C dx : Addr} {fs : List (Str × V)} {f : Str} {v : V} {A : Around} {E : Value → Shared → Prop}
theorem getattr_ok {b : Bool} {Q : Value → Shared → Prop} (I : Inv X pins σ H s) (e : H a = some (.ins C dx fs)) (c : Cls X.K C) (n : NoAttr X.K C f) (l : fs.lookup f = some v)
    (h : ∀ u s', Inv X pins σ H s' → RelV v u → Q u s') : wpAny (model X.prog X.w) A (getAttr (.ref a) f b) Q E s := by
  obtain ⟨mA, O, r, _, _, _⟩ := ins_get I.hok e
  obtain ⟨u, hu, ru⟩ := RelO.some_of (v := v) (o := mA f) (by rw [← l]; exact r f)
  exact get_map I.kIn O (c.get f) c.hd n hu (handed_of ru) (h u _ (I.tok _) ru)
theorem getmeth_ok {m : Str} {g : Addr} {pl : Sem Bool} {Q : Value × List Value → Shared → Prop} (I : Inv X pins σ H s) (e : H a = some (.ins C dx fs)) (c : Cls X.K C) (k : Meth X.K C m g) (l : fs.lookup m = none)
    (h : Q (.ref g, [.ref a]) s) : wpAny (model X.prog X.w) A (getMethod (.ref a) m pl) Q E s := by
  obtain ⟨mA, O, r, _, _, _⟩ := ins_get I.hok e
  have hn : mA m = none := RelO.none_of (by rw [← l]; exact r m)
  exact get_meth I.kIn O (c.get m) k.at_ k.fn hn h
theorem setattr_ok {y : V} {u : Value} {Q : Unit → Shared → Prop} (I : Inv X pins σ H s) (e : H a = some (.ins C dx fs)) (c : Cls X.K C) (n : NoAttr X.K C f) (hl : fs.length < 1000) (ry : RelV y u)
    (h : ∀ s', Inv X pins σ (upd H a (.ins C dx (putF f y fs))) s' → Q () s') : wpAny (model X.prog X.w) A (setAttr (.ref a) f u) Q E s := by
  obtain ⟨mA, O, r, wi, _, ho⟩ := ins_get I.hok e
  have hz : (fs.map (·.1)).length ≤ sizeLine := by rw [List.length_map, sizeLine_eq]; omega
  refine set_map I.kIn O c.sa c.po n.taker c.hd wi hz fun h' O' sb => h _ ?_
  have hd : ∃ o, h'.get? dx = some o := let ⟨o, _, _, e', _⟩ := O'.ns; ⟨o, e'⟩
  refine I.write (x := a) (e := dx) (by rw [e]; exact True.intro) (.inr ho) (fun b q hb z => (sb.2 b hb).trans z) hd ?_
  refine ⟨by rw [upd_ne O.ne]; exact ho, ?_, O.ne, O'.obj, _, O'.ns, fun g => ?_, fun g hg => ?_⟩
  · have := length_putF f y fs; omega
  · show RelO ((putF f y fs).lookup g) (if g = f then some u else mA g)
    rw [lookup_putF]
    by_cases q : g = f
    · rw [if_pos q, if_pos q]; exact ry
    · rw [if_neg q, if_neg q]; exact r g
  · by_cases q : g = f
    · rw [q]; exact (keys_putF f y fs).1
    · refine (keys_putF f y fs).2 g (wi g fun z => hg ?_)
      show (if g = f then some u else mA g) = none
      rw [if_neg q]; exact z
theorem Inv.made (I : Inv X pins σ H s) : Inv X pins σ (upd (upd H s.heap.objs.size (.own (s.heap.objs.size + 1))) (s.heap.objs.size + 1) (.ins C s.heap.objs.size []))
    { s with heap := (s.heap.push PySem.W.emptyDict).push (PySem.W.instObj C s.heap.objs.size) } := by
  have e1 : (s.heap.push PySem.W.emptyDict).get? s.heap.objs.size = some PySem.W.emptyDict := Heap.get?_push_size s.heap rfl
  have e2 : ((s.heap.push PySem.W.emptyDict).push (PySem.W.instObj C s.heap.objs.size)).get? (s.heap.objs.size + 1) = some (PySem.W.instObj C s.heap.objs.size) := by
    have := Heap.get?_push_size (s.heap.push PySem.W.emptyDict) (o := PySem.W.instObj C s.heap.objs.size) rfl
    rwa [Heap.size_push] at this
  have e3 : (s.heap.push PySem.W.emptyDict).Ns s.heap.objs.size (fun _ => none) := ⟨PySem.W.emptyDict, #[], _, e1, rfl, (fun e he => absurd he (by simp)), fun _ => rfl⟩
  have I1 := I.laid (a := s.heap.objs.size) (o := .own (s.heap.objs.size + 1)) (h' := s.heap.push PySem.W.emptyDict) (t' := s.toks) (fun b u q => Heap.get?_push_of_some _ q) (Nat.le_refl _) ⟨_, e1⟩
  refine I1.laid (a := s.heap.objs.size + 1) (o := .ins C s.heap.objs.size []) (t' := s.toks) (fun b u q => Heap.get?_push_of_some _ q) (Nat.le_of_eq (Heap.size_push _ _)) ?_
  have ne : s.heap.objs.size ≠ s.heap.objs.size + 1 := Nat.ne_of_lt (Nat.lt_succ_self _)
  refine ⟨by rw [upd_ne ne, upd_same], Nat.zero_le _, ne, e2, fun _ => none, (Heap.Ns1.of_empty e3).at fun o q => Heap.get?_push_of_some _ q, fun _ => True.intro, fun y hy => absurd rfl hy⟩
theorem attr_of {prog : Program} {w : World} {env : Env} {e : Expr} {f : Str} {pos : Pos} {s : Shared} {Q : Value → Shared → Prop} (hb : attributeBase e f env (eval e env) = eval e env)
    (h : wpAny (model prog w) A (eval e env) (fun o s₁ => wpAny (model prog w) A (getAttr o f true) Q E s₁) E s) : wpAny (model prog w) A (eval (.Attribute e f pos) env) Q E s :=
  Attribute_any_ h (by rw [arm_eval_Attribute, hb])
end
def tFld (K : PySem.W.Frag) (ta : TE) (f : Str) : TE := fun σ H Q => ta σ H fun x H1 => ∃ a C dx fs v, x = .ref a ∧ H1 a = some (.ins C dx fs) ∧ Cls K C ∧ NoAttr K C f ∧ fs.lookup f = some v ∧ Q v H1
def sFld (K : PySem.W.Frag) (ta tv : TE) (f : Str) : TS := fun D σ H => tv σ H fun y H1 => ta σ H1 fun x H2 => ∃ a C dx fs, x = .ref a ∧ H2 a = some (.ins C dx fs) ∧ Cls K C ∧ NoAttr K C f ∧ fs.length < 1000 ∧
  D.nx σ (upd H2 a (.ins C dx (putF f y fs)))
section
variable {X : Cx} {o e value : Expr} {f : Str} {pos pos' tpos : Pos} {ta tv : TE}
theorem pe_fld (he : PE X e ta) (hb : attributeBase e f X.env (eval e X.env) = eval e X.env) : PE X (.Attribute e f pos) (tFld X.K ta f) := by
  intro pins s σ H Q I h
  refine attr_of hb (thn (he pins s σ H _ I h) fun u s1 ⟨x, H1, I1, rx, a, C, dx, fs, v, ex, ea, c, n, l, q⟩ => ?_)
  subst ex
  obtain rfl : u = Value.ref a := rx
  exact getattr_ok I1 ea c n l fun u' s2 I2 ru => ⟨v, H1, I2, ru, q⟩
theorem ps_fld (ha : PE X o ta) (hv : PE X value tv) (hs : swapsWith value (some (.Attribute o f pos')) pos.line X.env = pure false) : PS X (.Assign [.Attribute o f pos'] value pos) (sFld X.K ta tv f) := by
  intro pins s σ H D I h
  refine plainObj_wpAny_Assign_Attribute (thn (hv pins s σ H _ I h) fun u s1 ⟨y, H1, I1, ry, q⟩ => thn (ha pins s1 σ H1 _ I1 q) fun ov s2 ⟨x, H2, I2, rx, a, C, dx, fs, ex, ea, c, n, l, q2⟩ => ?_) hs
  subst ex
  obtain rfl : ov = Value.ref a := rx
  exact setattr_ok I2 ea c n l ry fun s3 I3 => ⟨σ, _, I3, q2⟩
end
section
variable {X : Cx} {pins : List (Addr × Obj)} {σ : St} {H : Hp} {s : Shared} {A : Around} {E : Value → Shared → Prop} {Q : Value → Shared → Prop} {c : Value} {b : Bool}
inductive TyOf (K : PySem.W.Frag) (H : Hp) : V → Value → Prop where
  | non : TyOf K H .non (.type "NoneType")
  | bl (x : Bool) : TyOf K H (.bl x) (.type "bool")
  | int (i : Int) : TyOf K H (.int i) (.type "int")
  | str (x : Str) : TyOf K H (.str x) (.type "str")
  | flt (x : UInt64) : TyOf K H (.flt x) (.type "float")
  | lst {a : Addr} {xs : List V} (e : H a = some (.lst xs)) : TyOf K H (.ref a) (.type "list")
  | frz {a : Addr} {o : Obj} {xs : List V} (e : H a = some (.frz o (.lst xs))) : TyOf K H (.ref a) (.type "list")
  | tup {a : Addr} {xs : List V} (e : H a = some (.tup xs)) : TyOf K H (.ref a) (.type "tuple")
  | dK {a : Addr} {kvs : List (Key × V)} (e : H a = some (.dK kvs)) : TyOf K H (.ref a) (.type "dict")
  | dT {a : Addr} {kvs : List (List Key × V)} (e : H a = some (.dT kvs)) : TyOf K H (.ref a) (.type "dict")
  | ins {a C dx : Addr} {fs : List (Str × V)} (e : H a = some (.ins C dx fs)) (cl : Cls K C) (ha : PySem.W.findIn K (.ref C) "__class__" = some (some (.builtin "object.__class__")))
      (hn : PySem.W.specialIn K (.builtin "object.__class__") "__get__" = some (some (.builtin "getset_descriptor.__get__"))) (htk : PySem.W.takesIn K (.builtin "object.__class__") = some true)
      (hm : PySem.W.mroIn K C (.type "object") = some true) : TyOf K H (.ref a) (.ref C)
theorem isinst_ok {x : V} {u t : Value} (I : Inv X pins σ H s) (rx : RelV x u) (ty : TyOf X.K H x t) (e : PySem.W.kitOne X.K t c = some b) (h : ∀ tk, Q (.bool b) { s with toks := tk }) :
    wpAny (model X.prog X.w) A (call (.builtin "isinstance") [u, c]) Q E s := by
  cases ty with
  | non => cases (show u = Value.none from rx); exact PySem.W.kia_one PySem.W.kitx_none I.kIn True.intro e (fun z => nomatch z) h
  | bl y => cases (show u = Value.bool y from rx); exact PySem.W.kia_one PySem.W.kitx_bool I.kIn True.intro e (fun z => nomatch z) h
  | int i => obtain ⟨t, q⟩ := (show ∃ t, u = Value.int i t from rx); cases q; exact PySem.W.kia_one PySem.W.kitx_int I.kIn True.intro e (fun z => nomatch z) h
  | str y => obtain ⟨t, q⟩ := (show ∃ t, u = Value.str y t from rx); cases q; exact PySem.W.kia_one PySem.W.kitx_str I.kIn True.intro e (fun z => nomatch z) h
  | flt y => obtain ⟨t, q⟩ := (show ∃ t, u = Value.float y t from rx); cases q; exact PySem.W.kia_one PySem.W.kitx_float I.kIn True.intro e (fun z => nomatch z) h
  | @lst a xs ea =>
    cases (show u = Value.ref a from rx)
    obtain ⟨_, _, n, _, h1⟩ := (show ObjOk X.prog X.w H s.heap a (.lst xs) from I.hok a _ ea)
    exact PySem.W.kia_one PySem.W.kitx_list I.kIn ⟨_, h1, rfl⟩ e (fun z => nomatch z) h
  | @frz a ob xs ea =>
    cases (show u = Value.ref a from rx)
    obtain ⟨_, _, _, n, _, h1⟩ := (show ObjOk X.prog X.w H s.heap a (.frz ob (.lst xs)) from I.hok a _ ea)
    exact PySem.W.kia_one PySem.W.kitx_list I.kIn ⟨_, h1, rfl⟩ e (fun z => nomatch z) h
  | @tup a xs ea =>
    cases (show u = Value.ref a from rx)
    obtain ⟨_, _, _, p⟩ := (show ObjOk X.prog X.w H s.heap a (.tup xs) from I.hok a _ ea)
    obtain ⟨o, h1, h2, _⟩ := p
    exact PySem.W.kia_one PySem.W.kitx_tuple I.kIn ⟨o, h1, h2⟩ e (fun z => nomatch z) h
  | @dK a kvs ea =>
    cases (show u = Value.ref a from rx)
    obtain ⟨_, _, vs, _, p⟩ := (show ObjOk X.prog X.w H s.heap a (.dK kvs) from I.hok a _ ea)
    obtain ⟨o, es, ep, h1, h2, _⟩ := p
    exact PySem.W.kia_one PySem.W.kitx_dict I.kIn ⟨o, h1, h2.1⟩ e (fun z => nomatch z) h
  | @dT a kvs ea =>
    cases (show u = Value.ref a from rx)
    obtain ⟨_, _, xs, _, o, es, ep, h1, h2, _⟩ := (show ObjOk X.prog X.w H s.heap a (.dT kvs) from I.hok a _ ea)
    exact PySem.W.kia_one PySem.W.kitx_dict I.kIn ⟨o, h1, h2.1⟩ e (fun z => nomatch z) h
  | @ins a C dx fs ea cl ha hn htk hm =>
    cases (show u = Value.ref a from rx)
    obtain ⟨mA, O, _⟩ := ins_get I.hok ea
    obtain ⟨od, J, _⟩ := O.look
    exact PySem.W.kia_one (PySem.W.kitx_own (cl.get _) cl.hd ha hn htk hm) I.kIn J e (fun z => nomatch z) h
end
end L2
namespace L2
open PySem PySem.Spec PyProof.Rows
structure Room (k : Nat) (A : Around) : Prop where
  hd : A.handled = none
  dp : A.depth + 3 * k + 5 < recursionLimit
  un : A.units + 16 * k + 200 < cLine
theorem make_depth {A : Around} {C : Addr} {us : List Value} {kw : List (Str × Value)} : (A.under (.builtin "type.__call__" ⟨.ref C :: us, kw⟩)).depth = A.depth + 1 := by
  first | rfl | simp [Around.under, Code.weight, Code.isCreation, Code.isGuard, Code.isCaller, Code.frames, Code.isFrame, guardIds]
theorem make_units {A : Around} {C : Addr} {us : List Value} {kw : List (Str × Value)} : (A.under (.builtin "type.__call__" ⟨.ref C :: us, kw⟩)).units = A.units + 1 := by
  first | rfl | simp [Around.under, Code.cUnits, Code.frames, Code.isFrame]
theorem Room.make {k : Nat} {A : Around} (r : Room (k + 1) A) (C : Addr) (us : List Value) (kw : List (Str × Value)) : Room k (A.under (.builtin "type.__call__" ⟨.ref C :: us, kw⟩)) :=
  ⟨r.hd, by have := r.dp; rw [make_depth]; omega, by have := r.un; rw [make_units]; omega⟩
def tNil : TA := fun _ H Q => Q [] H
def tCons (ta : TE) (tr : TA) : TA := fun σ H Q => ta σ H fun x H1 => tr σ H1 fun xs H2 => Q (x :: xs) H2
section
variable {X : Cx} {e : Expr} {es : List Expr} {te : TE} {t : TA} {pos : Pos}
theorem pa_nil : PA X [] tNil := fun _ _ _ _ H Q I h => Calls.spliced_nil ⟨[], H, I, .nil, h⟩
theorem pa_cons (ha : PE X e te) (hr : PA X es t) (hs : starEach (e :: es) X.env = (false, eval e X.env) :: starEach es X.env := by rfl) : PA X (e :: es) (tCons te t) := by
  intro pos pins s σ H Q I h
  rw [hs]
  show wpAny _ _ (spliced ((false, eval e X.env) :: backTo pos (starEach es X.env))) _ _ s
  refine Calls.spliced_cons (thn (ha pins s σ H _ I h) fun u s1 ⟨x, H1, I1, r1, q1⟩ => ?_)
  exact thn (hr pos pins s1 σ H1 _ I1 q1) fun us s2 ⟨xs, H2, I2, r2, q2⟩ => ⟨x :: xs, H2, I2, .cons r1 r2, q2⟩
def tTup (t : TA) : TE := fun σ H Q => t σ H fun xs H1 => xs.length ≤ sizeLine ∧ ∀ p, H1 p = none → Q (.ref p) (upd H1 p (.tup xs))
def tLst (t : TA) : TE := fun σ H Q => t σ H fun xs H1 => xs.length ≤ sizeLine ∧ ∀ p, H1 p = none → Q (.ref p) (upd H1 p (.lst xs))
theorem pe_tup {x1} (h : PA X es t) : PE X (.Tuple es x1 pos) (tTup t) := by
  intro pins s σ H Q I hq
  refine wpAny_Tuple_spliced (thn (h pos pins s σ H _ I hq) fun us s1 ⟨xs, H1, I1, r, z, q⟩ => ⟨by rw [← r.length]; exact z, ?_⟩)
  have hf : H1 s1.heap.objs.size = none := I1.hok.fresh (Nat.le_refl _)
  refine ⟨.ref s1.heap.objs.size, upd H1 s1.heap.objs.size (.tup xs), I1.laid (t' := s1.toks) (fun b u e => Heap.get?_push_of_some _ e) (Nat.le_refl _) ?_, rfl, q _ hf⟩
  exact ⟨z, us, r, ⟨_, Heap.get?_push_size _ rfl, rfl, _, rfl⟩⟩
theorem pe_lst (h : PA X es t) : PE X (.List es pos) (tLst t) := by
  intro pins s σ H Q I hq
  refine wpAny_List_spliced (thn (h pos pins s σ H _ I hq) fun us s1 ⟨xs, H1, I1, r, z, q⟩ => ⟨by rw [← r.length]; exact z, ?_⟩)
  have hf : H1 s1.heap.objs.size = none := I1.hok.fresh (Nat.le_refl _)
  refine ⟨.ref s1.heap.objs.size, upd H1 s1.heap.objs.size (.lst xs), I1.laid (t' := s1.toks) (fun b u e => Heap.get?_push_of_some _ e) (Nat.le_refl _) ?_, rfl, q _ hf⟩
  exact ⟨z, us, 0, r, Heap.get?_push_size _ rfl⟩
end
abbrev Sp := List V → Hp → VK → XK → Prop
abbrev CXT := List Env → Hp → Shared → XK → Value → Shared → Prop
structure Env0 (P : Program) (w : World) (K : PySem.W.Frag) (mg : Str → Option Value) (base : Heap) (A : Around) (outer : List Env) (s : Shared) (H : Hp) : Prop where
  frames : A.frames = some outer
  mod : Mod K mg base
  bs : ∀ b o, base.get? b = some o → s.heap.get? b = some o ∧ H b = none
  bsz : base.objs.size ≤ s.heap.objs.size
  funs : s.heap.FunFrames base outer
  frf : ∀ b ∈ frs outer, H b = none
  hok : HOk P w H s.heap
  bare : AllBare s.gens
def CE (outer : List Env) (P : Program) (w : World) (H : Hp) (s : Shared) (Q : VK) (u : Value) (s' : Shared) : Prop :=
  ∃ v H', s'.os = s.os ∧ AllBare s'.gens ∧ Un (frs outer) [] H H' s.heap s'.heap ∧ HOk P w H' s'.heap ∧ RelV v u ∧ Q v H'
def CR (CX : CXT) (outer : List Env) (P : Program) (w : World) (H : Hp) (s : Shared) (Q : VK) (E : XK) (r : Result) (s' : Shared) : Prop :=
  match r with
  | .ok (.ret u) => CE outer P w H s Q u s'
  | .ok _ => False
  | .error e => CX outer H s E e s'
structure FnOk (P : Program) (w : World) (K : PySem.W.Frag) (mg : Str → Option Value) (base : Heap) (CX : CXT) (k : Nat) (f : Addr) (fd : FuncData) (ps : List Str) (sp : Sp) : Prop where
  len : ∀ vs H Q E, sp vs H Q E → vs.length = ps.length
  run : ∀ (A : Around) (outer : List Env) (s : Shared) (H : Hp) (args : Args) (us : List Value) (vs : List V) (Q : VK) (E : XK), Room k A → Env0 P w K mg base A outer s H → BindsTo s fd args (ps.zip us) → Vals vs us → sp vs H Q E →
    codeAny (model P w) A (.call (.ref f) args) (CR CX outer P w H s Q E) s
theorem Env0.make {P : Program} {w : World} {K : PySem.W.Frag} {mg : Str → Option Value} {base : Heap} {A : Around} {outer : List Env} {s : Shared} {H : Hp} (e : Env0 P w K mg base A outer s H) (C : Addr) (us : List Value) (kw : List (Str × Value)) :
    Env0 P w K mg base (A.under (.builtin "type.__call__" ⟨.ref C :: us, kw⟩)) outer s H := ⟨by first | exact e.frames | (simpa [Around.under, Code.envs, Code.isFrame, pushEnvs] using e.frames), e.mod, e.bs, e.bsz, e.funs, e.frf, e.hok, e.bare⟩
section
variable {X : Cx} {pins : List (Addr × Obj)} {σ : St} {H : Hp} {s s' : Shared}
theorem Inv.env0 (I : Inv X pins σ H s) : Env0 X.prog X.w X.K X.mg X.base X.A X.stack s H :=
  ⟨I.ok.frames, I.ok.mod, I.bs, Nat.le_trans I.ok.bsz I.sz, I.stack, I.stkFree, I.hok, I.bare⟩
theorem Inv.after {Q : VK} {u : Value} (I : Inv X pins σ H s) (h : CE X.stack X.prog X.w H s Q u s') : EP X pins σ Q u s' := by
  obtain ⟨v, H', os, bare, un, hok, r, q⟩ := h
  obtain ⟨hh, g, d, t, os'⟩ := s'
  obtain rfl : os' = s.os := os
  exact ⟨v, H', I.call (h' := hh) (g' := g) (d' := d) (t' := t) (ch := []) un hok bare (fun b z => absurd z (by simp)), r, q⟩
end
def tCall (sp : Sp) (dvs : List V) (E : XK) (t : TA) : TE := fun σ H Q => t σ H fun vs H1 => sp (vs ++ dvs) H1 Q E
def tMake (C : Addr) (sp : Sp) (dvs : List V) (E : XK) (t : TA) : TE := fun σ H Q => t σ H fun vs H1 => ∀ x dx, H1 x = none → H1 dx = none → dx ≠ x →
  sp (.ref x :: (vs ++ dvs)) (upd (upd H1 dx (.own x)) x (.ins C dx [])) (fun v H2 => v = .non ∧ Q (.ref x) H2) E
def Binds (K : PySem.W.Frag) (fd : FuncData) (ps : List Str) (ds : List Value) : Prop :=
  ∀ (s : Shared) (us : List Value), K.In s.heap → (us ++ ds).length = ps.length → BindsTo s fd ⟨us, []⟩ (ps.zip (us ++ ds))
theorem Binds.all {K : PySem.W.Frag} {fd : FuncData} {ps : List Str} (h : ∀ us : List Value, us.length = ps.length → bindArgs fd ⟨us, []⟩ = pure (ps.zip us)) : Binds K fd ps [] := fun s us _ hl => by
  rw [List.append_nil] at hl ⊢
  exact .of_eq (h us hl)
def Passes (CX : CXT) (X : Cx) (E : XK) : Prop := ∀ (pins : List (Addr × Obj)) (σ : St) (H : Hp) (s : Shared) (e : Value) (s' : Shared), Inv X pins σ H s → CX X.stack H s E e s' → X.xe e s'
section
variable {X : Cx} {CX : CXT} {k : Nat} {f C : Addr} {fd : FuncData} {ps : List Str} {sp : Sp} {dvs : List V} {ds : List Value} {E : XK} {x m : Str} {p pos apos : Pos} {e o : Expr} {es : List Expr} {ta : TE} {t : TA}
theorem run_fn {pins : List (Addr × Obj)} {σ : St} {H : Hp} {s : Shared} {Q : VK} {us : List Value} {vs : List V} (F : FnOk X.prog X.w X.K X.mg X.base CX k f fd ps sp) (hr : Room k X.A) (hb : Binds X.K fd ps ds) (hd : Vals dvs ds) (hx : Passes CX X E)
    (I : Inv X pins σ H s) (r : Vals vs us) (h : sp (vs ++ dvs) H Q E) : wpAny (model X.prog X.w) X.A (call (.ref f) us) (EP X pins σ Q) X.xe s := by
  have r2 : Vals (vs ++ dvs) (us ++ ds) := r.append hd
  have hl : (us ++ ds).length = ps.length := by rw [← r2.length]; exact F.len _ _ _ _ h
  refine wpAny_call (codeAny_mono (F.run X.A X.stack s H ⟨us, []⟩ (us ++ ds) (vs ++ dvs) Q E hr I.env0 (hb s us I.kIn hl) r2 h) fun r s' hq => ?_)
  cases r with
  | error e => exact hx pins σ H s e s' I hq
  | ok fl =>
    cases fl with
    | ret u => exact I.after hq
    | next => exact False.elim hq
    | brk => exact False.elim hq
    | cont => exact False.elim hq
structure Mk (K : PySem.W.Frag) (C f : Addr) : Prop where
  makes : PySem.W.makesIn K C = true
  init : PySem.W.findIn K (.ref C) "__init__" = some (some (.ref f))
  fn : PySem.W.isFn K (.ref f) = true
  kp : PySem.W.keepIn K (.ref C) = true
theorem run_make {pins : List (Addr × Obj)} {σ : St} {H : Hp} {s : Shared} {Q : VK} {us : List Value} {vs : List V} (M : Mk X.K C f) (F : FnOk X.prog X.w X.K X.mg X.base CX k f fd ps sp) (hr : Room (k + 1) X.A) (hb : Binds X.K fd ps ds) (hd : Vals dvs ds)
    (hx : Passes CX X E) (I : Inv X pins σ H s) (r : Vals vs us)
    (h : ∀ x dx, H x = none → H dx = none → dx ≠ x → sp (.ref x :: (vs ++ dvs)) (upd (upd H dx (.own x)) x (.ins C dx [])) (fun v H2 => v = .non ∧ Q (.ref x) H2) E) :
    wpAny (model X.prog X.w) X.A (call (.ref C) us) (EP X pins σ Q) X.xe s := by
  have hq := h (s.heap.objs.size + 1) s.heap.objs.size (I.hok.fresh (Nat.le_succ _)) (I.hok.fresh (Nat.le_refl _)) (Nat.ne_of_lt (Nat.lt_succ_self _))
  have I2 := Inv.made (C := C) I
  have r2 : Vals (V.ref (s.heap.objs.size + 1) :: (vs ++ dvs)) (Value.ref (s.heap.objs.size + 1) :: (us ++ ds)) := .cons rfl (r.append hd)
  have hl : (Value.ref (s.heap.objs.size + 1) :: us ++ ds).length = ps.length := by
    have e := r2.length
    rw [F.len _ _ _ _ hq] at e
    exact e.symm
  refine wpAny_call (make_map (f := f) I.kIn M.makes M.init (beq_iff_eq.mp M.fn) (codeAny_mono (F.run _ X.stack _ _ ⟨Value.ref (s.heap.objs.size + 1) :: us, []⟩ (Value.ref (s.heap.objs.size + 1) :: (us ++ ds)) _ _ E (hr.make C us [])
    (I2.env0.make C us []) (hb _ (Value.ref (s.heap.objs.size + 1) :: us) I2.kIn hl) r2 hq) fun r s' hq' => ?_))
  cases r with
  | error e => exact hx pins σ _ _ e s' I2 hq'
  | ok fl =>
    cases fl with
    | ret u =>
      obtain ⟨v, H', I3, rv, ev, q3⟩ := I2.after hq'
      subst ev
      exact ⟨rv, ⟨V.ref (s.heap.objs.size + 1), H', I3, rfl, q3⟩⟩
    | next => exact False.elim hq'
    | brk => exact False.elim hq'
    | cont => exact False.elim hq'
theorem pe_make (M : Mk X.K C f) (F : FnOk X.prog X.w X.K X.mg X.base CX k f fd ps sp) (hr : Room (k + 1) X.A) (hg : Gl X x) (hm : X.mg x = some (.ref C)) (hb : Binds X.K fd ps ds) (hd : Vals dvs ds) (hx : Passes CX X E)
    (ha : PA X (e :: es) t) (hdb : (x == ("__debug__" : Str)) = false := by decide) (he : starEach (e :: es) X.env = (false, eval e X.env) :: starEach es X.env := by rfl) (hpl : (backTo pos (starEach es X.env)).any (·.1) = false := by rfl) :
    PE X (.Call (.Name x p) (e :: es) [] pos) (tMake C sp dvs E t) := by
  intro pins s σ H Q I h
  refine wpAny_Call_Name_kw (ld_glob I hg hm ?_ hdb)
  refine PySem.W.callWith_K (h₀ := X.base) I.ok.mod.kin M.kp (thn (ha pos pins s σ H _ I h) fun us s1 ⟨vs, H1, I1, r, q⟩ => ⟨I1.kIn, ?_⟩) he hpl
  exact run_make M F hr hb hd hx I1 r q
end
structure FnScope (N P : List Str) (sc : Scope) : Prop where
  kind : sc.kind = .function
  co : sc.isCoroutine = false
  gen : sc.isGenerator = false
  nd : N.Nodup
  pre : N.take P.length = P
  par : ∀ x ∈ P, sc.names.lookup x = some .local ∨ sc.names.lookup x = some .cell
  nofree : ∀ y ∈ sc.names, y.2 ≠ .free
theorem bindL_out {kindOf : Str → Option NameKind} {x : Str} : ∀ {binds : List (Str × Value)} {m : Str → Option Value}, (∀ v, (x, v) ∉ binds) → bindL kindOf binds m x = m x
  | [], _, _ => rfl
  | (n, v) :: r, m, h => by
    unfold bindL
    rw [bindL_out fun w hw => h w (List.mem_cons_of_mem _ hw)]
    split
    · have : x ≠ n := by rintro rfl; exact h v List.mem_cons_self
      simp [this]
    · rfl
theorem bindC_out {kindOf : Str → Option NameKind} {x : Str} : ∀ {binds : List (Str × Value)} {m : Str → Option Value}, (∀ v, (x, v) ∉ binds) → bindC kindOf binds m x = m x
  | [], _, _ => rfl
  | (n, v) :: r, m, h => by
    unfold bindC
    rw [bindC_out fun w hw => h w (List.mem_cons_of_mem _ hw)]
    split
    · rfl
    · have : x ≠ n := by rintro rfl; exact h v List.mem_cons_self
      simp [this]
theorem bindL_get {kindOf : Str → Option NameKind} {x : Str} {v : Value} : ∀ {P : List Str} {vs : List Value} {i : Nat} {m : Str → Option Value}, P.Nodup → P[i]? = some x → vs[i]? = some v → kindOf x = some .local →
    bindL kindOf (P.zip vs) m x = some v
  | [], _, _, _, _, h, _, _ => by simp at h
  | _ :: _, [], _, _, _, _, h, _ => by simp at h
  | p :: P, w :: vs, 0, m, nd, h1, h2, hk => by
    simp at h1 h2; subst h1; subst h2
    show bindL kindOf ((p, w) :: P.zip vs) m p = _
    unfold bindL
    rw [bindL_out fun v hv => (List.nodup_cons.mp nd).1 (List.of_mem_zip hv).1, if_pos hk]
    simp
  | p :: P, w :: vs, i + 1, m, nd, h1, h2, hk => by
    show bindL kindOf ((p, w) :: P.zip vs) m x = _
    unfold bindL
    exact bindL_get (i := i) (List.nodup_cons.mp nd).2 (by simpa using h1) (by simpa using h2) hk
theorem bindC_get {kindOf : Str → Option NameKind} {x : Str} {v : Value} : ∀ {P : List Str} {vs : List Value} {i : Nat} {m : Str → Option Value}, P.Nodup → P[i]? = some x → vs[i]? = some v → kindOf x ≠ some .local →
    bindC kindOf (P.zip vs) m x = some v
  | [], _, _, _, _, h, _, _ => by simp at h
  | _ :: _, [], _, _, _, _, h, _ => by simp at h
  | p :: P, w :: vs, 0, m, nd, h1, h2, hk => by
    simp at h1 h2; subst h1; subst h2
    show bindC kindOf ((p, w) :: P.zip vs) m p = _
    unfold bindC
    rw [bindC_out fun v hv => (List.nodup_cons.mp nd).1 (List.of_mem_zip hv).1, if_neg hk]
    simp
  | p :: P, w :: vs, i + 1, m, nd, h1, h2, hk => by
    show bindC kindOf ((p, w) :: P.zip vs) m x = _
    unfold bindC
    exact bindC_get (i := i) (List.nodup_cons.mp nd).2 (by simpa using h1) (by simpa using h2) hk
def start (N : List Str) (vs : List V) : St := vs.map some ++ List.replicate (N.length - vs.length) none
def cxOf (CX : CXT) (P : Program) (w : World) (K : PySem.W.Frag) (mg : Str → Option Value) (base : Heap) (N : List Str) (qual : Str) (scope : Scope) (f : Addr) (cd : Value) (A : Around) (outer : List Env) (s : Shared) (H : Hp) (E : XK) : Cx where
  prog := P
  w := w
  K := K
  mg := mg
  base := base
  A := A.deeper (envOfC qual scope s.heap.objs.size f cd)
  N := N
  s₀ := s
  H₀ := H
  env := envOfC qual scope s.heap.objs.size f cd
  outer := outer
  stack := envOfC qual scope s.heap.objs.size f cd :: outer
  ex := []
  calm := true
  fn := fun _ => true
  pn := []
  xe := fun e s' => wpAny (model P w) (A.deeper (envOfC qual scope s.heap.objs.size f cd)) (leaving (envOfC qual scope s.heap.objs.size f cd) e) (fun _ s'' => CX outer H s E e s'') (fun e' s'' => CX outer H s E e' s'') s'
theorem cell_has {sc : Scope} {n : Nat} {x : Str} (h : sc.names.lookup x = some .cell) : ∃ c, (cellsFrom n sc.names []).lookup x = some c := by
  have q := PySem.W.cellsFrom_some sc.names n [] (.inl h)
  exact Option.isSome_iff_exists.mp q
end L2
namespace L2
open PySem PySem.Spec PyProof.Rows
section
variable {X : Cx} {x : Str} {p pos : Pos} {e : Expr} {es : List Expr} {t : TA} {id T : String} {r : List V → Hp → VK → Prop}
def tCB (r : List V → Hp → VK → Prop) (t : TA) : TE := fun σ H Q => t σ H fun vs H1 => r vs H1 Q
theorem pe_callB (hc : CallR X (.builtin id) r) (hg : Gl X x) (hm : X.mg x = none) (hv : bootBuiltins x = some (.builtin id)) (ha : PA X (e :: es) t) (hn : x ≠ "__name__" := by decide) (hdb : (x == ("__debug__" : Str)) = false := by decide)
    (he : starEach (e :: es) X.env = (false, eval e X.env) :: starEach es X.env := by rfl) (hpl : (backTo pos (starEach es X.env)).any (·.1) = false := by rfl) : PE X (.Call (.Name x p) (e :: es) [] pos) (tCB r t) := by
  intro pins s σ H Q I h
  refine wpAny_Call_Name_kw (ld_blt I hg hm hv ?_ hn hdb)
  exact PyProof.Rows.callWith_builtin1 (thn (ha pos pins s σ H _ I h) fun us s1 ⟨vs, H1, I1, r1, q1⟩ => hc pins s1 σ H1 vs us Q I1 r1 q1) he hpl
theorem pe_callTy (hc : CallR X (.type T) r) (hg : Gl X x) (hm : X.mg x = none) (hv : bootBuiltins x = some (.type T)) (ha : PA X (e :: es) t) (hn : x ≠ "__name__" := by decide) (hdb : (x == ("__debug__" : Str)) = false := by decide)
    (he : starEach (e :: es) X.env = (false, eval e X.env) :: starEach es X.env := by rfl) (hpl : (backTo pos (starEach es X.env)).any (·.1) = false := by rfl) : PE X (.Call (.Name x p) (e :: es) [] pos) (tCB r t) := by
  intro pins s σ H Q I h
  refine wpAny_Call_Name_kw (ld_blt I hg hm hv ?_ hn hdb)
  exact PyProof.Rows.callWith_type1 (thn (ha pos pins s σ H _ I h) fun us s1 ⟨vs, H1, I1, r1, q1⟩ => hc pins s1 σ H1 vs us Q I1 r1 q1) he hpl
end
end L2
namespace HT
open PySem PyProof.Rows
section
variable {prog : Program} {w : World} {A : Around} {E : Value → Shared → Prop} {s : Shared}
def sIx (n d : Nat) : Option Int → Nat
  | none => d
  | some v => if v < 0 then (v + (n : Int)).toNat else min v.toNat n
theorem sIx_none (n d : Nat) : sIx n d none = d := rfl
theorem sIx_nat (n d k : Nat) : sIx n d (some (k : Int)) = min k n := by
  show (if (k : Int) < 0 then ((k : Int) + (n : Int)).toNat else min (k : Int).toNat n) = min k n
  rw [if_neg (by omega), Int.toNat_natCast]
end
end HT
namespace L2
open PySem PySem.Spec PyProof.Rows
abbrev TO := St → Hp → (Option Int → Hp → Prop) → Prop
def PO (X : Cx) (e : Option Expr) (t : TO) : Prop :=
  ∀ (pins : List (Addr × Obj)) (s : Shared) (σ : St) (H : Hp) (Q : Option Int → Hp → Prop), Inv X pins σ H s → t σ H Q →
    wpAny (model X.prog X.w) X.A (evalPart e X.env) (fun u s' => ∃ o H', Inv X pins σ H' s' ∧ IsPart u o ∧ Q o H') X.xe s
def tNoPart : TO := fun _ H Q => Q none H
def tPart (t : TE) : TO := fun σ H Q => t σ H fun x H1 => ∃ i, x = .int i ∧ Q (some i) H1
section
variable {X : Cx} {e : Expr} {te : TE} {lo hi : Option Expr} {tl th : TO} {pos p2 : Pos}
theorem po_none : PO X none tNoPart := by
  intro pins s σ H Q I h
  rw [evalPart_none]
  exact wpAny_pure ⟨none, H, I, .none, h⟩
theorem po_some (h : PE X e te) : PO X (some e) (tPart te) := by
  intro pins s σ H Q I hw
  rw [evalPart_some]
  refine thn (h pins s σ H _ I hw) fun u s1 ⟨x, H1, I1, r1, q1⟩ => ?_
  obtain ⟨i, rfl, q⟩ := q1
  obtain ⟨t, rfl⟩ := r1
  exact ⟨some i, H1, I1, .int i t, q⟩
def SlR (X : Cx) (r : V → Option Int → Option Int → Hp → VK → Prop) : Prop :=
  ∀ (pins : List (Addr × Obj)) (s : Shared) (σ : St) (H : Hp) (x : V) (v vl vu : Value) (lo hi : Option Int) (sl : Addr) (Q : VK), Inv X pins σ H s → RelV x v → s.heap.IsSliceOf sl vl vu .none → IsPart vl lo → IsPart vu hi → r x lo hi H Q →
    ∃ T id, typeLookup (.type T) "__getitem__" = pure (some (.builtin id)) ∧ s.TypeIs v T ∧ wpAny (model X.prog X.w) X.A (getItem v (.ref sl)) (EP X pins σ Q) X.xe s
def tSl (r : V → Option Int → Option Int → Hp → VK → Prop) (te : TE) (tl th : TO) : TE := fun σ H Q => te σ H fun x H1 => tl σ H1 fun l H2 => th σ H2 fun u H3 => r x l u H3 Q
theorem pe_slice {r : V → Option Int → Option Int → Hp → VK → Prop} (hr : SlR X r) (he : PE X e te) (hl : PO X lo tl) (hu : PO X hi th) : PE X (.Subscript e (.Slice lo hi none p2) pos) (tSl r te tl th) := by
  intro pins s σ H Q I h
  refine Subscript_ (thn (he pins s σ H _ I h) fun v s1 ⟨x, H1, I1, r1, q1⟩ => ?_)
  refine wpAny_Slice (thn (hl pins s1 σ H1 _ I1 q1) fun vl s2 ⟨l, H2, I2, pl, q2⟩ => thn (hu pins s2 σ H2 _ I2 q2) fun vu s3 ⟨u, H3, I3, pu, q3⟩ => ?_)
  rw [evalPart_none]
  refine wpAny_pure ?_
  have I4 : Inv X pins σ H3 { s3 with heap := s3.heap.push { cls := .type "slice", data := .fields #[vl, vu, .none] } } := I3.kept (t' := s3.toks) fun b ob q => Heap.get?_push_of_some _ q
  obtain ⟨T, id, hT, ht, hg⟩ := hr pins { s3 with heap := s3.heap.push { cls := .type "slice", data := .fields #[vl, vu, .none] } } σ H3 x v vl vu l u s3.heap.objs.size Q I4 r1 (Heap.IsSliceOf.new ..) pl pu q3
  show wpAny (model X.prog X.w) X.A (subscriptTail e (.Slice lo hi none p2) v (.ref s3.heap.objs.size)) (EP X pins σ Q) X.xe { s3 with heap := s3.heap.push { cls := .type "slice", data := .fields #[vl, vu, .none] } }
  exact tail_any (ops := [.ref s3.heap.objs.size, v]) ht hT hg (by with_unfolding_all rfl)
def cutV (xs : List V) (lo hi : Option Int) : List V := (xs.drop (HT.sIx xs.length 0 lo)).take (HT.sIx xs.length xs.length hi - HT.sIx xs.length 0 lo)
theorem cutV_length (xs : List V) (lo hi : Option Int) : (cutV xs lo hi).length ≤ xs.length := by
  unfold cutV
  rw [List.length_take, List.length_drop]
  omega
end
end L2
namespace L2
open PySem PySem.Spec PyProof.Rows
def ixN (n : Nat) (i : Int) : Option Nat := if 0 ≤ i then (if i < n then some i.toNat else none) else if -(n : Int) ≤ i then some (i + n).toNat else none
def atI {α : Type} (xs : List α) (i : Int) : Option α := (ixN xs.length i).bind fun j => xs[j]?
theorem ixN_seq {n : Nat} {i : Int} {j : Nat} (h : ixN n i = some j) : seqIndex? i n = some j ∧ j < n ∧ -(n : Int) ≤ i ∧ i < n := by
  unfold ixN at h
  by_cases h0 : 0 ≤ i
  · rw [if_pos h0] at h
    by_cases h1 : i < n
    · rw [if_pos h1] at h
      have e : i.toNat = j := Option.some.inj h
      exact ⟨by rw [seqIndex_of h0 h1, e], by omega, by omega, h1⟩
    · rw [if_neg h1] at h; cases h
  · rw [if_neg h0] at h
    by_cases h1 : -(n : Int) ≤ i
    · rw [if_pos h1] at h
      have e : (i + n).toNat = j := Option.some.inj h
      exact ⟨by rw [seqIndex_neg (by omega) h1, e], by omega, h1, by omega⟩
    · rw [if_neg h1] at h; cases h
theorem atI_get {α : Type} {xs : List α} {i : Int} {v : α} (h : atI xs i = some v) : ∃ j, seqIndex? i xs.length = some j ∧ xs[j]? = some v ∧ j < xs.length ∧ -(xs.length : Int) ≤ i ∧ i < xs.length := by
  unfold atI at h
  cases e : ixN xs.length i with
  | none => rw [e] at h; cases h
  | some j =>
    rw [e] at h
    obtain ⟨h1, h2, h3, h4⟩ := ixN_seq e
    exact ⟨j, h1, h, h2, h3, h4⟩
theorem atI_nat {α : Type} {xs : List α} {j : Nat} {v : α} (h : xs[j]? = some v) : atI xs (j : Int) = some v := by
  have hj : j < xs.length := (List.getElem?_eq_some_iff.mp h).1
  have e : ixN xs.length (j : Int) = some j := by
    unfold ixN
    rw [if_pos (by omega), if_pos (by omega)]; simp
  unfold atI; rw [e]; exact h
def PlainIx (b : Expr) : Prop := ∀ o i, subscripted b false o i = operate [o, i] (getItem o i)
def IxR (X : Cx) (r : R2) : Prop :=
  ∀ (value slice : Expr) (pins : List (Addr × Obj)) (s : Shared) (σ : St) (H : Hp) (x y : V) (v u : Value) (Q : VK), Inv X pins σ H s → RelV x v → RelV y u → r x y H Q →
    subscripted slice false v u = operate [v, u] (getItem v u) → wpAny (model X.prog X.w) X.A (subscriptTail value slice v u) (EP X pins σ Q) X.xe s
def MtR (X : Cx) (id : String) (r : V → List V → Hp → VK → Prop) : Prop :=
  ∀ (pins : List (Addr × Obj)) (s : Shared) (σ : St) (H : Hp) (x : V) (xs : List V) (v : Value) (us : List Value) (Q : VK), Inv X pins σ H s → RelV x v → Vals xs us → r x xs H Q →
    wpAny (model X.prog X.w) X.A (call (.builtin id) (v :: us)) (EP X pins σ Q) X.xe s
section
variable {X : Cx} {a b : Expr} {ta tb : TE} {pos : Pos}
theorem pe_ix {r : R2} (hr : IxR X r) (ha : PE X a ta) (hb : PE X b tb) (hs : PlainIx b) : PE X (.Subscript a b pos) (tOp r ta tb) := by
  intro pins s σ H Q I h
  exact Subscript_ (binT ha hb I h fun v u s2 x y H2 I2 rx ry q => hr a b pins s2 σ H2 x y v u Q I2 rx ry q (hs _ _))
def rIxL (K : PySem.W.Frag) : R2 := fun x y H Q => ∃ p xs i v, x = .ref p ∧ y = .int i ∧ SqL K H p xs ∧ atI xs i = some v ∧ Q v H
def rIxT (K : PySem.W.Frag) : R2 := fun x y H Q => ∃ p xs i v, x = .ref p ∧ y = .int i ∧ SqT K H p xs ∧ atI xs i = some v ∧ Q v H
theorem ix_list : IxR X (rIxL X.K) := by
  intro value slice pins s σ H x y v u Q I rx ry h hs
  obtain ⟨p, xs, i, z, rfl, rfl, hq, he, q⟩ := h
  cases rx
  obtain ⟨t, rfl⟩ := ry
  obtain ⟨its, r, pl, hz⟩ := I.list hq
  obtain ⟨j, h1, h2, h3, h4, h5⟩ := atI_get he
  obtain ⟨w, ew, rw'⟩ := r.get h2
  have hl := r.length
  have hn := line63
  have fin : EP X pins σ Q w s := ⟨z, H, I, rw', q⟩
  by_cases h0 : 0 ≤ i
  · have hj : i.toNat = j := by
      rw [seqIndex_of h0 h5] at h1
      exact Option.some.inj h1
    exact item_listR pl.isList h0 (by omega) (by rw [hj]; simpa using ew) fin hs
  · have hj : (i + (its.toArray.size : Int)).toNat = j := by
      rw [seqIndex_neg (by omega) h4] at h1
      rw [List.size_toArray, ← hl]
      exact Option.some.inj h1
    exact subscriptTail_builtinR (x := w) pl.isList.typeIs slot_list_getitem.lookup
      (wpAny_getItem_list_neg (Q := fun r s' => r = w ∧ EP X pins σ Q r s') pl.isList (by omega) (by rw [List.size_toArray] <;> omega) (by omega) (by rw [hj]; simpa using ew) ⟨rfl, fin⟩) hs
theorem ix_tup : IxR X (rIxT X.K) := by
  intro value slice pins s σ H x y v u Q I rx ry h hs
  obtain ⟨p, xs, i, z, rfl, rfl, hq, he, q⟩ := h
  cases rx
  obtain ⟨t, rfl⟩ := ry
  obtain ⟨its, r, pl, hz⟩ := I.tuple hq
  obtain ⟨j, h1, h2, h3, h4, h5⟩ := atI_get he
  obtain ⟨w, ew, rw'⟩ := r.get h2
  have hl := r.length
  have hn := line63
  have fin : EP X pins σ Q w s := ⟨z, H, I, rw', q⟩
  exact subscriptTail_builtinR (x := w) pl.typeIs slot_tuple_getitem.lookup
    (getItem_tuple (j := j) (Q := fun r s' => r = w ∧ EP X pins σ Q r s') pl (by omega) (by omega) (by rw [List.size_toArray, ← hl]; exact h1) (by simpa using ew) ⟨rfl, fin⟩) hs
theorem mapSeq_set (its : List Value) (n j : Nat) (u : Value) : Obj.mapSeq (·.setIfInBounds j u) { cls := .type "list", data := .seq its.toArray n } = { cls := .type "list", data := .seq (its.set j u).toArray n } := by
  simp [Obj.mapSeq]
theorem Inv.lst {pins : List (Addr × Obj)} {σ : St} {H : Hp} {s : Shared} {p : Addr} {xs : List V} (I : Inv X pins σ H s) (h : H p = some (.lst xs)) :
    ∃ (its : List Value) (n : Nat), Vals xs its ∧ s.heap.get? p = some { cls := .type "list", data := .seq its.toArray n } ∧ xs.length ≤ sizeLine := by
  obtain ⟨z, its, n, r, e⟩ := I.hok p _ h
  exact ⟨its, n, r, e, z⟩
theorem Inv.lstUpd {pins : List (Addr × Obj)} {σ : St} {H : Hp} {s : Shared} {p : Addr} {xs ys : List V} {its its' : List Value} {n n' : Nat} {f : Obj → Obj} (I : Inv X pins σ H s) (h : H p = some (.lst xs))
    (ho : s.heap.get? p = some { cls := .type "list", data := .seq its.toArray n }) (hf : f { cls := .type "list", data := .seq its.toArray n } = { cls := .type "list", data := .seq its'.toArray n' }) (r : Vals ys its') (hz : ys.length ≤ sizeLine) (t : Nat) :
    Inv X pins σ (upd H p (.lst ys)) { s with heap := s.heap.update p f, toks := t } := by
  have e : (s.heap.update p f).get? p = some { cls := .type "list", data := .seq its'.toArray n' } := by
    rw [Heap.get?_update_self f ho (by rw [hf] <;> rfl), hf]
  refine I.write (x := p) (e := p) (by rw [h]; trivial) (.inl rfl) (fun b u hb q => (Heap.get?_update_other _ _ (Ne.symm hb)).trans q) ⟨_, e⟩ ?_
  exact ⟨hz, its', n', r, e⟩
def rSetL : V → V → V → Hp → (Hp → Prop) → Prop := fun o i v H Q => ∃ p xs k j, o = .ref p ∧ i = .int k ∧ H p = some (.lst xs) ∧ ixN xs.length k = some j ∧ Q (upd H p (.lst (xs.set j v)))
theorem set_list : PSet X rSetL := by
  intro pins s σ H o i v ov iv u Q I ro ri rv h
  obtain ⟨p, xs, k, j, rfl, rfl, hp, hj, q⟩ := h
  cases ro
  obtain ⟨t, rfl⟩ := ri
  obtain ⟨its, n, r, ho, hz⟩ := I.lst hp
  obtain ⟨h1, h2, h3, h4⟩ := ixN_seq hj
  have hl := r.length
  have hn := line63
  have I' : Inv X pins σ (upd H p (.lst (xs.set j v))) { s with heap := s.heap.update p (Obj.mapSeq (·.setIfInBounds j u)) } :=
    I.lstUpd hp ho (mapSeq_set its n j u) (r.set rv j) (by rw [List.length_set]; exact hz) s.toks
  by_cases h0 : 0 ≤ k
  · have hk : k.toNat = j := by
      rw [seqIndex_of h0 h4] at h1
      exact Option.some.inj h1
    exact PySem.W.ki_setAt ho h0 (by omega) (by rw [List.size_toArray, ← hl]; exact h4) (by rw [hk]; exact ⟨_, I', q⟩)
  · have hk : (k + (its.toArray.size : Int)).toNat = j := by
      rw [seqIndex_neg (by omega) h3] at h1
      rw [List.size_toArray, ← hl]
      exact Option.some.inj h1
    exact PySem.W.ki_setBack ho (by omega) (by rw [List.size_toArray, ← hl]; exact h3) (by omega) (by rw [hk]; exact ⟨_, I', q⟩)
theorem slice_bounds (lo hi : Option Int) (n : Nat) : (sliceBounds lo hi none n).1 = ((HT.sIx n 0 lo : Nat) : Int) ∧ (sliceBounds lo hi none n).2.1 = ((HT.sIx n n hi : Nat) : Int) ∧ (sliceBounds lo hi none n).2.2 = 1 := by
  refine ⟨?_, ?_, rfl⟩
  · cases lo with
    | none => simp [sliceBounds, HT.sIx]
    | some i =>
      simp only [sliceBounds, HT.sIx, Option.getD_none, show (1 : Int) > 0 by decide, if_true]
      by_cases h : i < 0
      · simp only [h, if_true] <;> omega
      · simp only [h, if_false] <;> omega
  · cases hi with
    | none => simp [sliceBounds, HT.sIx]
    | some i =>
      simp only [sliceBounds, HT.sIx, Option.getD_none, show (1 : Int) > 0 by decide, if_true]
      by_cases h : i < 0
      · simp only [h, if_true] <;> omega
      · simp only [h, if_false] <;> omega
theorem slicePick_cut (its : List Value) (lo hi : Option Int) : slicePick its.toArray lo hi none = ((its.drop (HT.sIx its.length 0 lo)).take (HT.sIx its.length its.length hi - HT.sIx its.length 0 lo)).toArray := by
  obtain ⟨h1, h2, h3⟩ := slice_bounds lo hi its.toArray.size
  unfold slicePick
  rw [h1, h2, h3]
  simp only [sliceRange_one, pick_run, List.size_toArray] <;> rfl
def rSlL (K : PySem.W.Frag) : V → Option Int → Option Int → Hp → VK → Prop := fun x lo hi H Q => ∃ a xs, x = .ref a ∧ SqL K H a xs ∧ ∀ p, H p = none → Q (.ref p) (upd H p (.lst (cutV xs lo hi)))
theorem sl_list : SlR X (rSlL X.K) := by
  intro pins s σ H x v vl vu lo hi sl Q I rx hs pl pu h
  obtain ⟨a, xs, rfl, hx, q⟩ := h
  cases rx
  obtain ⟨its, r, ht, hz⟩ := I.list hx
  have hlen := r.length
  refine ⟨"list", _, slot_list_getitem.lookup, ht.isList.typeIs, ?_⟩
  refine wpAny_getItem_list_slice ht.isList hs pl pu .none (by simp) ?_ (by rw [List.size_toArray] <;> omega)
  rw [slicePick_cut, ← hlen]
  refine ⟨.ref s.heap.objs.size, _, I.laid (t' := s.toks) (o := .lst (cutV xs lo hi)) (fun b ob q => Heap.get?_push_of_some _ q) (Nat.le_refl _) ?_, rfl, q _ (I.hok.fresh (Nat.le_refl _))⟩
  exact ⟨Nat.le_trans (cutV_length xs lo hi) hz, _, 0, (r.drop (HT.sIx xs.length 0 lo)).take (HT.sIx xs.length xs.length hi - HT.sIx xs.length 0 lo), Heap.get?_push_size _ rfl⟩
theorem call_len_seq : CallR X (.builtin "len") (fun xs H Q => ∃ p ys, xs = [.ref p] ∧ (SqL X.K H p ys ∨ SqT X.K H p ys) ∧ Q (.int ys.length) H) := by
  intro pins s σ H xs us Q I r h
  obtain ⟨p, ys, rfl, hq, q⟩ := h
  obtain ⟨u, rfl, rx⟩ := vals1 r
  cases rx
  have hn := line63
  rcases hq with hq | hq
  · obtain ⟨its, r', pl, hz⟩ := I.list hq
    have hlen := r'.length
    exact Calls.call_len_list pl.isList (by simp only [List.size_toArray] <;> omega) ⟨.int ys.length, H, I.tok _, ⟨s.toks + 1, by rw [List.size_toArray, hlen]⟩, q⟩
  · obtain ⟨its, r', pl, hz⟩ := I.tuple hq
    have hlen := r'.length
    exact len_tuple pl (by simp only [List.size_toArray] <;> omega) ⟨.int ys.length, H, I.tok _, ⟨s.toks + 1, by rw [List.size_toArray, hlen]⟩, q⟩
theorem call_len_str : CallR X (.builtin "len") (fun xs H Q => ∃ z, xs = [.str z] ∧ z.length ≤ sizeLine ∧ Q (.int z.length) H) := by
  intro pins s σ H xs us Q I r h
  obtain ⟨z, rfl, hz, q⟩ := h
  obtain ⟨u, rfl, t, rfl⟩ := vals1 r
  have hn := line63
  exact len_str (by omega) ⟨.int z.length, H, I.tok _, ⟨_, rfl⟩, q⟩
theorem call_list_of : CallR X (.type "list") (fun xs H Q => ∃ p ys, xs = [.ref p] ∧ (SqL X.K H p ys ∨ SqT X.K H p ys) ∧ ∀ l, H l = none → Q (.ref l) (upd H l (.lst ys))) := by
  intro pins s σ H xs us Q I r h
  obtain ⟨p, ys, rfl, hq, q⟩ := h
  obtain ⟨u, rfl, rx⟩ := vals1 r
  cases rx
  have fin : ∀ (its : List Value), Vals ys its → ys.length ≤ sizeLine → ∀ (h' : Heap) (c' : Nat), (∀ b o', s.heap.get? b = some o' → h'.get? b = some o') →
      h'.get? s.heap.objs.size = some { cls := .type "list", dict := none, data := .seq its.toArray c', slots := #[] } → EP X pins σ Q (.ref s.heap.objs.size) { s with heap := h' } := fun its r' hz h' c' kp e =>
    ⟨.ref s.heap.objs.size, _, I.laid (t' := s.toks) kp (Nat.le_refl _) (show ObjOk X.prog X.w _ h' _ (.lst ys) from ⟨hz, its, c', r', e⟩), rfl, q _ (I.hok.fresh (Nat.le_refl _))⟩
  rcases hq with hq | hq
  · obtain ⟨its, r', pl, hz⟩ := I.list hq
    have hlen := r'.length
    obtain ⟨o, ho, hc, n, hd⟩ := pl.isList
    exact call_list_seq p (.inl rfl) ho hc hd (fun h' c' kp e => fin its r' hz h' c' kp e) (by simp only [List.size_toArray] <;> omega)
  · obtain ⟨its, r', pl, hz⟩ := I.tuple hq
    have hlen := r'.length
    obtain ⟨o, ho, hc, n, hd⟩ := pl
    exact call_list_seq p (.inr rfl) ho hc hd (fun h' c' kp e => fin its r' hz h' c' kp e) (by simp only [List.size_toArray] <;> omega)
theorem call_tuple_of : CallR X (.type "tuple") (fun xs H Q => ∃ p ys, xs = [.ref p] ∧ ((SqL X.K H p ys ∧ ∀ l, H l = none → Q (.ref l) (upd H l (.tup ys))) ∨ (SqT X.K H p ys ∧ Q (.ref p) H))) := by
  intro pins s σ H xs us Q I r h
  obtain ⟨p, ys, rfl, h⟩ := h
  obtain ⟨u, rfl, rx⟩ := vals1 r
  cases rx
  rcases h with ⟨hq, q⟩ | ⟨hq, q⟩
  · obtain ⟨its, r', pl, hz⟩ := I.list hq
    have hlen := r'.length
    refine call_tuple_list pl.isList (fun h' kp => ?_) (by simp only [List.size_toArray] <;> omega)
    have I1 : Inv X pins σ H { s with heap := h' } := I.kept (t' := s.toks) kp
    have I2 : Inv X pins σ (upd H h'.objs.size (.tup ys)) { s with heap := h'.push { cls := .type "tuple", data := .seq its.toArray } } :=
      I1.laid (t' := s.toks) (fun b o e => Heap.get?_push_of_some _ e) (Nat.le_refl _) (show ObjOk X.prog X.w _ _ _ (.tup ys) from ⟨hz, its, r', IsTup.new _ _⟩)
    exact ⟨.ref h'.objs.size, _, I2, rfl, q _ (I1.hok.fresh (Nat.le_refl _))⟩
  · obtain ⟨its, r', pl, hz⟩ := I.tuple hq
    exact call_tuple_same pl ⟨.ref p, H, I, rfl, q⟩
def tyV (K : PySem.W.Frag) (T : String) (x : V) (H : Hp) : Prop := match x with
  | .str _ => T = "str"
  | .int _ => T = "int"
  | .ref p => (T = "list" ∧ ∃ xs, SqL K H p xs) ∨ (T = "tuple" ∧ ∃ o, K.lookup p = some o ∧ o.cls = .type "tuple" ∧ o.dict = none) ∨
      (T = "dict" ∧ ((∃ kvs, H p = some (.dK kvs)) ∨ ∃ kvs, H p = some (.dT kvs))) ∨ (T = "set" ∧ ∃ S n, H p = some (.set S n))
  | _ => False
theorem tyV_is {pins : List (Addr × Obj)} {σ : St} {H : Hp} {s : Shared} {T : String} {x : V} {v : Value} (I : Inv X pins σ H s) (r : RelV x v) (ty : tyV X.K T x H) :
    s.TypeIs v T ∧ ∀ a, v = .ref a → ∃ ob, s.heap.get? a = some ob ∧ ob.dict = none := by
  cases x with
  | str z =>
    obtain ⟨t, rfl⟩ := r
    cases (show T = "str" from ty)
    exact ⟨typeIs_str s z t, fun _ e => nomatch e⟩
  | int i =>
    obtain ⟨t, rfl⟩ := r
    cases (show T = "int" from ty)
    exact ⟨typeIs_int s i t, fun _ e => nomatch e⟩
  | ref p =>
    cases r
    rcases ty with ⟨rfl, xs, hq⟩ | ⟨rfl, o, hk, hc, hd⟩ | ⟨rfl, hk⟩ | ⟨rfl, S, n, hk⟩
    · obtain ⟨its, _, pl, _⟩ := I.list hq
      refine ⟨pl.isList.typeIs, fun a e => ?_⟩
      cases e
      obtain ⟨o, n, e, c, hd, _⟩ := pl
      exact ⟨o, e, hd⟩
    · refine ⟨⟨o, I.kIn p o hk, hc⟩, fun a e => ?_⟩
      cases e
      exact ⟨o, I.kIn _ o hk, hd⟩
    · have z : ∃ o, s.heap.get? p = some o ∧ o.ExactDict := by
        rcases hk with ⟨kvs, hk⟩ | ⟨kvs, hk⟩
        · obtain ⟨_, _, _, _, o, _, _, e, ex, _⟩ := I.hok p _ hk
          exact ⟨o, e, ex⟩
        · obtain ⟨_, _, _, _, o, _, _, e, ex, _⟩ := I.hok p _ hk
          exact ⟨o, e, ex⟩
      obtain ⟨o, e, ex⟩ := z
      refine ⟨⟨o, e, ex.1⟩, fun a e2 => ?_⟩
      cases e2
      exact ⟨o, e, ex.2.1⟩
    · obtain ⟨o, _, _, _, e, ex, _⟩ := I.hok p _ hk
      refine ⟨⟨o, e, ex.1⟩, fun a e2 => ?_⟩
      cases e2
      exact ⟨o, e, ex.2.1⟩
  | _ => exact False.elim ty
def tBM0 (K : PySem.W.Frag) (T : String) (r : V → List V → Hp → VK → Prop) (to : TE) : TE := fun σ H Q => to σ H fun x H1 => tyV K T x H1 ∧ r x [] H1 Q
def tBM (K : PySem.W.Frag) (T : String) (r : V → List V → Hp → VK → Prop) (to : TE) (t : TA) : TE := fun σ H Q => to σ H fun x H1 => tyV K T x H1 ∧ t σ H1 fun xs H2 => r x xs H2 Q
variable {o e : Expr} {es : List Expr} {to : TE} {t : TA} {name : Str} {apos cpos : Pos} {T id : String} {r : V → List V → Hp → VK → Prop}
theorem pe_bm0 (pa : PlainAttrs T) (slot : Slot T name id) (hty : typeOf (.builtin id) = pure (.type "method_descriptor")) (hm : MtR X id r) (ho : PE X o to)
    (hbase : attributeBase o name X.env (eval o X.env) = eval o X.env := by rfl) (hline : (apos.endLine == cpos.line) = true := by rfl) : PE X (.Call (.Attribute o name apos) [] [] cpos) (tBM0 X.K T r to) := by
  intro pins s σ H Q I h
  refine wpAny_Call_method0_late hbase hline (thn (ho pins s σ H _ I h) fun v s1 ⟨x, H1, I1, r1, ty, q1⟩ => ?_)
  obtain ⟨h1, h2⟩ := tyV_is I1 r1 ty
  exact ⟨T, id, pa, slot, hty, h1, h2, Calls.callWith_builtin rfl (PySem.evalArgs_none (hm pins s1 σ H1 x [] v [] Q I1 r1 .nil q1))⟩
theorem pe_bm (pa : PlainAttrs T) (slot : Slot T name id) (hty : typeOf (.builtin id) = pure (.type "method_descriptor")) (hm : MtR X id r) (ho : PE X o to) (ha : PA X (e :: es) t)
    (hbase : attributeBase o name X.env (eval o X.env) = eval o X.env := by rfl)
    (hfew : ((backTo cpos (starEach (e :: es) X.env)).all (fun x => !x.1) && (backToKw cpos (keywordEach [] X.env)).all (fun x => x.1.isSome)
      && decide ((e :: es).length + ([] : List Keyword).length + (if ([] : List Keyword).isEmpty then 0 else 1) < 30)) = true := by rfl)
    (hline : (apos.endLine == cpos.line) = true := by rfl) (hs : starEach (e :: es) X.env = (false, eval e X.env) :: starEach es X.env := by rfl) (hplain : (backTo cpos (starEach es X.env)).any (·.1) = false := by rfl) :
    PE X (.Call (.Attribute o name apos) (e :: es) [] cpos) (tBM X.K T r to t) := by
  intro pins s σ H Q I h
  refine wpAny_Call_method_late hbase hfew hline rfl (thn (ho pins s σ H _ I h) fun v s1 ⟨x, H1, I1, r1, ty, q1⟩ => ?_)
  obtain ⟨h1, h2⟩ := tyV_is I1 r1 ty
  refine ⟨T, id, pa, slot, hty, h1, h2, ?_⟩
  have hA := ha cpos pins s1 σ H1 _ I1 q1
  rw [hs] at hA ⊢
  refine Calls.callWith_builtin (by show (false || (backTo cpos (starEach es X.env)).any (·.1)) = false; rw [hplain] <;> rfl) (Calls.evalArgs_plain ?_)
  exact thn hA fun us s2 ⟨vs, H2, I2, r2, q2⟩ => hm pins s2 σ H2 x vs v us Q I2 r1 r2 q2
end
end L2
namespace L2
open PySem PySem.Spec PyProof.Rows
def MtM (X : Cx) (id : String) (r : V → List V → Hp → VK → Prop) : Prop :=
  ∀ (pins : List (Addr × Obj)) (s : Shared) (σ : St) (H : Hp) (x : V) (xs : List V) (v : Value) (us : List Value) (Q : VK), Inv X pins σ H s → RelV x v → Vals xs us → r x xs H Q →
    wpAny (model X.prog X.w) X.A (call (.builtin id) (v :: us)) (EP X pins σ Q) X.xe s
theorem Vals.one : ∀ {x : V} {us : List Value}, Vals [x] us → ∃ u, us = [u] ∧ RelV x u
  | _, _, .cons r .nil => ⟨_, rfl, r⟩
theorem Vals.zero : ∀ {us : List Value}, Vals [] us → us = []
  | _, .nil => rfl
theorem Vals.rep {xs : List V} {us : List Value} (h : Vals xs us) : ∀ k : Nat, Vals (List.replicate k xs).flatten (List.replicate k us).flatten
  | 0 => .nil
  | k + 1 => by
    rw [List.replicate_succ, List.replicate_succ, List.flatten_cons, List.flatten_cons]
    exact Vals.append h (Vals.rep h k)
theorem foldl_rep (its : List Value) : ∀ (k : Nat) (acc : List Value),
    List.foldl (fun x1 x2 => x1 ++ x2) acc.toArray (List.replicate k its.toArray) = (acc ++ (List.replicate k its).flatten).toArray
  | 0, acc => by simp
  | k + 1, acc => by
    have e : acc.toArray ++ its.toArray = (acc ++ its).toArray := by simp
    have e2 : (acc ++ its) ++ (List.replicate k its).flatten = acc ++ (List.replicate (k + 1) its).flatten := by
      rw [List.replicate_succ, List.flatten_cons, List.append_assoc]
    rw [← e2, ← foldl_rep its k (acc ++ its), ← e, List.replicate_succ, List.foldl_cons]
section
variable {X : Cx} {pins : List (Addr × Obj)} {σ : St} {H : Hp} {s : Shared} {l b : Addr} {xs ys zs : List V}
theorem Inv.lset {its its' : List Value} {n : Nat} {f : Array Value → Array Value} {t' : Nat} (I : Inv X pins σ H s) (hH : H l = some (.lst xs))
    (e : s.heap.get? l = some { cls := .type "list", data := .seq its.toArray n }) (hf : f its.toArray = its'.toArray) (hv : Vals ys its') (hz : ys.length ≤ sizeLine) :
    Inv X pins σ (upd H l (.lst ys)) { s with heap := s.heap.update l (Obj.mapSeq f), toks := t' } := by
  have q := PySem.IsL.update e f
  rw [hf] at q
  refine I.write (x := l) (e := l) (by rw [hH]; exact trivial) (.inl rfl) (fun b' u hb hu => (Heap.get?_update_other s.heap (Obj.mapSeq f) (Ne.symm hb)).trans hu) ⟨_, q⟩ ?_
  exact ⟨hz, its', _, hv, q⟩
theorem Inv.lnew {its : List Value} {t' : Nat} (I : Inv X pins σ H s) (hv : Vals ys its) (hz : ys.length ≤ sizeLine) :
    Inv X pins σ (upd H s.heap.objs.size (.lst ys)) { s with heap := s.heap.push { cls := .type "list", data := .seq its.toArray }, toks := t' } :=
  I.laid (fun _ _ q => Heap.get?_push_of_some _ q) (Nat.le_refl _) ⟨hz, its, 0, hv, Heap.get?_push_size _ rfl⟩
theorem Inv.fresh (I : Inv X pins σ H s) : H s.heap.objs.size = none := I.hok.fresh (Nat.le_refl _)
theorem Inv.lstM (I : Inv X pins σ H s) (hH : H l = some (.lst xs)) : xs.length ≤ sizeLine ∧ ∃ (its : List Value) (n : Nat), Vals xs its ∧ xs.length = its.length ∧ s.heap.get? l = some { cls := .type "list", data := .seq its.toArray n } := by
  obtain ⟨z, its, n, r, e⟩ := I.hok l _ hH
  exact ⟨z, its, n, r, r.length, e⟩
theorem notLongL {n : Nat} (h : n ≤ sizeLine) : Builtin.List.listTooLong n = false := by
  unfold Builtin.List.listTooLong
  exact decide_eq_false (by omega)
end
section
variable {X : Cx}
def rAppend : V → List V → Hp → VK → Prop := fun x vs H Q => ∃ l xs y, x = .ref l ∧ vs = [y] ∧ H l = some (.lst xs) ∧ xs.length < sizeLine ∧ Q .non (upd H l (.lst (xs ++ [y])))
theorem mt_append : MtM X "list.append" rAppend := by
  intro pins s σ H x vs v us Q I rx rv h
  obtain ⟨l, xs, y, rfl, rfl, hH, hz, q⟩ := h
  cases rx
  obtain ⟨u, rfl, ru⟩ := rv.one
  obtain ⟨z, its, n, r, hl, e⟩ := I.lstM hH
  refine call_meets F.slot_list_append ⟨_, e, rfl⟩ F.entry_list_append (F.args_list_append_2 _ _) (PySem.list_append l its.toArray n u (by rw [List.size_toArray]; omega)) ⟨e, ?_⟩
  refine ⟨.non, _, I.lset (its' := its ++ [u]) hH e (by simp) (r.append (.cons ru .nil)) ?_, rfl, q⟩
  rw [List.length_append, List.length_singleton]
  omega
def rExtend : V → List V → Hp → VK → Prop := fun x vs H Q => ∃ l b xs zs, x = .ref l ∧ vs = [.ref b] ∧ H l = some (.lst xs) ∧ H b = some (.lst zs) ∧ xs.length + zs.length ≤ sizeLine ∧ Q .non (upd H l (.lst (xs ++ zs)))
theorem mt_extend : MtM X "list.extend" rExtend := by
  intro pins s σ H x vs v us Q I rx rv h
  obtain ⟨l, b, xs, zs, rfl, rfl, hH, hB, hz, q⟩ := h
  cases rx
  obtain ⟨u, rfl, ru⟩ := rv.one
  cases ru
  obtain ⟨z, its, n, r, hl, e⟩ := I.lstM hH
  obtain ⟨z2, its2, n2, r2, hl2, e2⟩ := I.lstM hB
  have hsz : its.toArray.size + its2.toArray.size ≤ sizeLine := by rw [List.size_toArray, List.size_toArray]; omega
  have hlong : ¬ (!its.toArray.isEmpty && Builtin.List.listTooLong (its.toArray.size + its2.toArray.size)) = true := by
    rw [notLongL hsz, Bool.and_false]
    exact Bool.false_ne_true
  refine call_meets F.slot_list_extend ⟨_, e, rfl⟩ F.entry_list_extend (F.args_list_extend_2 _ _)
    (AutoSeq1.list_extend_list_list_0 l its.toArray n b its2.toArray n2 hlong (by rw [List.size_toArray]; omega) (by omega)) ⟨e, e2, ?_⟩
  refine ⟨.non, _, I.lset (its' := its ++ its2) hH e (by simp) (r.append r2) ?_, rfl, q⟩
  rw [List.length_append]
  omega
def rClear : V → List V → Hp → VK → Prop := fun x vs H Q => ∃ l xs, x = .ref l ∧ vs = [] ∧ H l = some (.lst xs) ∧ Q .non (upd H l (.lst []))
theorem mt_clear : MtM X "list.clear" rClear := by
  intro pins s σ H x vs v us Q I rx rv h
  obtain ⟨l, xs, rfl, rfl, hH, q⟩ := h
  cases rx
  have hus := rv.zero
  subst hus
  obtain ⟨z, its, n, r, hl, e⟩ := I.lstM hH
  refine call_meets F.slot_list_clear ⟨_, e, rfl⟩ F.entry_list_clear (F.args_list_clear_1 _) (AutoSeq1.list_clear_list_0 l its.toArray n (by rw [List.size_toArray]; omega)) ⟨e, ?_⟩
  exact ⟨.non, _, I.lset (its' := []) (ys := []) hH e rfl .nil (Nat.zero_le _), rfl, q⟩
def rCat : R2 := fun x y H Q => ∃ l b xs zs, x = .ref l ∧ y = .ref b ∧ H l = some (.lst xs) ∧ H b = some (.lst zs) ∧ xs.length + zs.length ≤ sizeLine ∧ ∀ p, H p = none → Q (.ref p) (upd H p (.lst (xs ++ zs)))
theorem op_cat : OpR X (binaryOp .Add) rCat := by
  intro pins s σ H x y v u Q I rx ry h
  obtain ⟨l, b, xs, zs, rfl, rfl, hH, hB, hz, q⟩ := h
  cases rx
  cases ry
  obtain ⟨z, its, n, r, hl, e⟩ := I.lstM hH
  obtain ⟨z2, its2, n2, r2, hl2, e2⟩ := I.lstM hB
  refine PySem.P.add_list e e2 ?_ (by rw [List.size_toArray, List.size_toArray]; omega)
  have ea : its.toArray ++ its2.toArray = (its ++ its2).toArray := by simp
  rw [ea]
  exact ⟨.ref _, _, I.lnew (t' := s.toks) (r.append r2) (by rw [List.length_append]; omega), rfl, q _ I.fresh⟩
def rRep : R2 := fun x y H Q => ∃ l k xs, x = .ref l ∧ y = .int k ∧ H l = some (.lst xs) ∧ -(2 ^ 63) ≤ k ∧ k < 2 ^ 63 ∧ xs.length * k.toNat ≤ sizeLine ∧
  ∀ p, H p = none → Q (.ref p) (upd H p (.lst (List.replicate k.toNat xs).flatten))
theorem len_rep {α : Type} (xs : List α) (k : Nat) : (List.replicate k xs).flatten.length = k * xs.length := by
  induction k with
  | zero => simp
  | succ k ih => rw [List.replicate_succ, List.flatten_cons, List.length_append, ih, Nat.succ_mul, Nat.add_comm]
theorem op_rep : OpR X (binaryOp .Mult) rRep := by
  intro pins s σ H x y v u Q I rx ry h
  obtain ⟨l, k, xs, rfl, rfl, hH, h1, h2, hz, q⟩ := h
  cases rx
  obtain ⟨t, rfl⟩ := ry
  obtain ⟨z, its, n, r, hl, e⟩ := I.lstM hH
  have hlen : its.toArray.size * k.toNat ≤ sizeLine := by rw [List.size_toArray, ← hl]; exact hz
  have hcap : ¬ its.toArray.size * k.toNat > (2 ^ 63 - 1) / 8 := by
    have : (sizeLine : Nat) ≤ (2 ^ 63 - 1) / 8 := by decide
    omega
  have hfit : ¬ (!Builtin.List.listFitsIndex k) = true := by
    rw [fitsIndex_both h1 h2]
    exact Bool.false_ne_true
  have hlong : ¬ Builtin.List.listTooLong (its.toArray.size * k.toNat) = true := by
    rw [notLongL hlen]
    exact Bool.false_ne_true
  have hnew : List.foldl (fun x1 x2 => x1 ++ x2) #[] (List.replicate (if its.toArray.isEmpty = true then 0 else k.toNat) its.toArray) = (List.replicate k.toNat its).flatten.toArray := by
    have f0 : ∀ m : Nat, List.foldl (fun x1 x2 => x1 ++ x2) #[] (List.replicate m its.toArray) = (List.replicate m its).flatten.toArray := fun m => by
      have := foldl_rep its m []
      rw [List.nil_append] at this
      exact this
    rw [f0]
    cases its with
    | nil => simp
    | cons a r' => rw [if_neg (by simp)]
  refine wpAny_binaryOp_repeat_ref (T := "list") (U := "int") (by decide) ⟨_, e, rfl⟩ (fun s' => typeIs_int s' k t) noFill_list_mul F.fills_int_mul F.slot_int_rmul repeat_list F.slot_int_index.lookup
    (call_meets F.slot_int_rmul (typeIs_int s k t) F.entry_int_rmul (F.args_int_rmul_2 _ _) (int___rmul___int_list k t l its.toArray n)
      ⟨e, rfl, ⟨_, e, rfl⟩, call_meets F.slot_list_mul ⟨_, e, rfl⟩ F.entry_list_mul (F.args_list_mul_2 _ _) (AutoListH.list___mul___list_int_3 l its.toArray n k t hfit hcap hlong) ⟨e, ?_⟩⟩)
  rw [hnew]
  exact ⟨.ref _, _, I.lnew (t' := s.toks) (r.rep k.toNat) (by rw [len_rep, Nat.mul_comm]; exact hz), rfl, q _ I.fresh⟩
end
end L2
namespace Att
open PySem PySem.W PySem.Calls PyProof.Rows
theorem ints_of_wellAll {P : Params} {h : Heap} : ∀ (ns : List Int) (vs : List Value), WellAll P h vs (ns.map WData.int) → IntsAre vs ns := by
  intro ns
  induction ns with
  | nil =>
    intro vs w
    rw [List.map_nil] at w
    cases w
    exact .nil
  | cons n ns ih =>
    intro vs w
    rw [List.map_cons] at w
    cases w with
    | cons a b =>
      cases a
      exact .cons _ _ (ih _ b)
theorem script_of {l : OpenLaw} {n : Nat} (hn : l.most = some n) {P : Params} {h : Heap} {args : List WData} {vals : List Value}
    (hpre : l.row.toRowW.claim.pre args = true) (hwl : WellAll P h vals args) :
    ∃ a vs ns, vals = [Value.ref a] ∧ args = [WData.list (ns.map WData.int)] ∧ h.get? a = some { cls := .type "list", data := .seq vs.toArray } ∧ IntsAre vs ns ∧ ns.length ≤ n := by
  have hsh : WShape.hasAll [] args [.list .int] = true := (pre_splitW hpre).1
  have hc : l.pre.holds [] { args := args } = true := (pre_splitW hpre).2
  obtain ⟨d, r, rfl, h1, h2⟩ := hasAllW_cons hsh
  obtain rfl := hasAllW_nil h2
  obtain ⟨xs, rfl, h3⟩ := hasW_list h1
  obtain ⟨ns, rfl⟩ := items_int h3
  have hlen : ns.length ≤ n := by
    unfold OpenLaw.pre at hc
    have h4 : (WTm.not (.lt (.lit (.int (n : Int))) (.len (.arg 0)))).holds [] { args := [.list (ns.map .int)] } = true := by
      have h4 := (holds_andW hc).1
      rw [hn] at h4
      exact h4
    have h5 := condW_of h4 (w_not (w_lt w_lit (w_len_list (w_arg rfl))))
    rw [List.length_map] at h5
    refine Nat.le_of_not_lt fun q => ?_
    have q' : (n : Int) < ((ns.length : Nat) : Int) := by omega
    first
      | (rw [decide_eq_true q'] at h5; exact absurd h5 (by decide))
      | (simp at h5; omega)
  cases hwl with
  | cons w1 w2 =>
    cases w2
    cases w1 with
    | list ho hall => exact ⟨_, _, ns, rfl, rfl, ho, ints_of_wellAll ns _ hall, hlen⟩
theorem post_true (l : OpenLaw) (args : List WData) : l.row.toRowW.claim.post args (.bool true) args = true :=
  postW_of (r := l.row.toRowW) (X := (true == true))
    (show WShape.has [] (.bool true) .bool = true by first | rfl | decide | simp [WShape.has, WShape.arms, WShape.armsAll])
    (show (WTm.eq .res (.lit (.bool true))).value [] { args := args, res := some (.bool true), after := args } = some (.bool (true == true)) from w_eq_bool (w_res rfl) w_lit) rfl
theorem attach_call {l : OpenLaw} {n : Nat} {q : Program} {loose : List Str} {XP : (Str → Option Value) → Heap → Prop} {YP : World → Heap → Prop} {d : DefRec}
    (hn : l.most = some n) (hdf : d.params.defaults = [])
    (call : ∀ (w : World) (s₀ s₁ : Shared) (mg mb : Str → Option Value) (fa : Addr) (o : Obj) (pm cd doc : Value) (a : Addr) (vs : List Value) (ns : List Int),
      Ground q loose [] XP w s₀ mg mb s₁.heap → YP w s₁.heap →
      s₁.heap.get? fa = some o → o.data = .func (docDef d.name d.params d.body d.scope pm cd doc) → s₁.heap.CodeRec cd d.name → mg d.name = some (.ref fa) →
      s₁.heap.get? a = some { cls := .type "list", data := .seq vs.toArray } → IntsAre vs ns → ns.length ≤ n → s₁.gens = #[] →
      codeAny (model l.prog w) callerA (.call (.ref fa) ⟨[.ref a], []⟩) (fun r s' => r = .ok (.ret (.bool true)) ∧ OldK s₁.heap s'.heap ∧ s'.os = s₁.os ∧ AllBare s'.gens) s₁) :
    WalkO q loose XP YP l.row.toRowW d [] (fun f vs => PySem.call f vs) := by
  intro w s₀ s₁ mg mb G Y fa o pm cd doc dV kV ho hd hcd hD hmg hg args vals as hpre hlay hrd hwl hlo
  obtain rfl : dV = .none := Dflts.none hD hdf
  obtain rfl : kV = .none := Dflts.noKw hD
  obtain ⟨a, vs, ns, rfl, rfl, hobj, hints, hlen⟩ := script_of hn hpre hwl
  refine enter_call (codeAny_mono (call w s₀ s₁ mg mb fa o pm cd doc a vs ns G Y ho (fd_plain hd) hcd hmg hobj hints hlen hg) fun r s' hq => ?_)
  obtain ⟨rfl, h2, h3, h4⟩ := hq
  exact ⟨.inl ⟨.bool true, .bool true, [], rfl, fun _ => rfl, .bool true, post_true l _, fun _ => ⟨List.Pairwise.nil, fun _ hm => (nomatch hm)⟩⟩, h2, h3, h4⟩
end Att
namespace L2
open PySem PySem.Spec PyProof.Rows
theorem vals_ints : ∀ {vs : List Value} {ns : List Int}, IntsAre vs ns → Vals (ns.map V.int) vs
  | _, _, .nil => .nil
  | _, _, .cons n t h => .cons ⟨t, rfl⟩ (vals_ints h)
def Only (H : Hp) : Prop := ∀ b, H b = none ∨ ∃ o xs, H b = some (.frz o (.lst xs))
theorem law_call {P : Program} {w : World} {K : PySem.W.Frag} {mg mb : Str → Option Value} {CX : CXT} {k : Nat} {fa a : Addr} {fd : FuncData} {x : Str} {sp : Sp} {s₁ : Shared} {vs : List Value} {ns : List Int}
    (KX : K.In s₁.heap) (hns : s₁.heap.Ns mainGlobals mg) (hb : s₁.heap.Ns builtinsNs mb) (hbb : ∀ x : Str, x ≠ "__name__" → mb x = bootBuiltins x) (hlim : s₁.heap.NoLimit) (hg : s₁.gens = #[])
    (ha : s₁.heap.get? a = some { cls := .type "list", data := .seq vs.toArray }) (hi : IntsAre vs ns) (hl : ns.length ≤ sizeLine) (hr : Room k callerA)
    (F : ∀ base : Heap, K.In base → base.Ns mainGlobals mg → FnOk P w K mg base CX k fa fd [x] sp) (hbind : ∀ (s : Shared) (u : Value), BindsTo s fd ⟨[u], []⟩ [(x, u)])
    (hsp : ∀ H : Hp, Only H → SqL K H a (ns.map V.int) → sp [.ref a] H (fun v _ => v = .bl true) fun _ _ _ => False)
    (hCX : ∀ H e s', CX [] H s₁ (fun _ _ _ => False) e s' → False) :
    codeAny (model P w) callerA (.call (.ref fa) ⟨[.ref a], []⟩) (fun r s' => r = .ok (.ret (.bool true)) ∧ OldK s₁.heap s'.heap ∧ s'.os = s₁.os ∧ AllBare s'.gens) s₁ := by
  have rv := vals_ints hi
  have lenV := hi.length
  -- from an abstract heap in which nothing but the script may be tracked
  have core : ∀ H : Hp, Only H → SqL K H a (ns.map V.int) → HOk P w H s₁.heap → (∀ b, H b ≠ none → b = a) → (H a ≠ none → K.lookup a = none) →
      codeAny (model P w) callerA (.call (.ref fa) ⟨[.ref a], []⟩) (fun r s' => r = .ok (.ret (.bool true)) ∧ OldK s₁.heap s'.heap ∧ s'.os = s₁.os ∧ AllBare s'.gens) s₁ := by
    intro H hO hS hok hA hK
    have base_of : ∀ {b : Addr} {o : Obj}, s₁.heap.get? b = some o → H b = none → (hidT s₁.heap H).get? b = some o := fun e n => hidT_get e n
    have noA : ∀ {b : Addr} {o : Obj} {es : Array DictEntry} {ep : Nat}, s₁.heap.get? b = some o → o.data = .dict es ep → H b = none := fun {b o es ep} e d => by
      cases q : H b with
      | none => rfl
      | some u =>
        have e' : b = a := hA b (by rw [q]; simp)
        subst e'
        rw [ha] at e; cases e
        have d' : Data.seq vs.toArray _ = Data.dict es ep := d
        cases d'
    have nsK : ∀ {b : Addr} {m : Str → Option Value}, s₁.heap.Ns b m → (hidT s₁.heap H).Ns b m := fun {b m} ⟨o, es, ep, e, d, r⟩ => ⟨o, es, ep, base_of e (noA e d), d, r⟩
    have hKb : K.In (hidT s₁.heap H) := fun b o e => base_of (KX b o e) (by
      cases q : H b with
      | none => rfl
      | some u =>
        have e' : b = a := hA b (by rw [q]; simp)
        subst e'
        rw [hK (by rw [q]; simp)] at e; cases e)
    have hM : Mod K mg (hidT s₁.heap H) := ⟨hKb, nsK hns, ⟨mb, nsK hb, hbb⟩, let ⟨mc, h1, h2⟩ := hlim; ⟨mc, nsK h1, h2⟩⟩
    have e0 : Env0 P w K mg (hidT s₁.heap H) callerA [] s₁ H := ⟨rfl, hM, fun b o e => of_hidT e, Nat.le_of_eq (hidT_size _ _), trivial, fun b hb => absurd (show b ∈ ([] : List Addr) from hb) (by simp), hok, .of_eq hg⟩
    refine codeAny_mono ((F _ hKb (nsK hns)).run callerA [] s₁ H ⟨[.ref a], []⟩ [.ref a] [.ref a] _ _ hr e0 (hbind s₁ (.ref a)) (.cons rfl .nil) (hsp H hO hS)) fun r s' h => ?_
    cases r with
    | error e => exact (hCX H e s' h).elim
    | ok fl =>
      cases fl with
      | next => exact False.elim h
      | brk => exact False.elim h
      | cont => exact False.elim h
      | ret u =>
        obtain ⟨v, H', os, bare, un, hok', r', q⟩ := h
        have q' : v = .bl true := q
        subst q'
        obtain rfl : u = Value.bool true := r'
        refine ⟨rfl, OldK.of_keep fun b o e => ?_, os, bare⟩
        cases q : H b with
        | none => exact un.keep b o e q (by intro z; exact absurd (show b ∈ ([] : List Addr) from z) (by simp)) (by simp)
        | some u =>
          rcases hO b with z | ⟨ob, xs, z⟩
          · rw [q] at z; cases z
          · have z2 := un.frzs b ob _ z
            obtain ⟨e1, _⟩ := hok b _ z
            obtain ⟨e2, _⟩ := hok' b _ z2
            rw [e] at e1; cases e1
            exact e2
  cases hk : K.lookup a with
  | some o =>
    -- the script is one of the module's own objects
    have e := KX a o hk
    rw [ha] at e
    cases e
    refine core (fun _ => none) (fun _ => .inl rfl) (.inr ⟨_, vs.toArray, _, hk, rfl, rfl, rfl, by rw [List.size_toArray, lenV]; exact hl, by simpa using rv⟩) (fun b u z => by have z' : (none : Option HO) = some u := z; cases z') (fun b z => absurd rfl z) fun z => absurd rfl z
  | none =>
    refine core (fun b => if b = a then some (.frz { cls := .type "list", data := .seq vs.toArray } (.lst (ns.map V.int))) else none) (fun b => ?_) (.inl (.inr ⟨{ cls := .type "list", data := .seq vs.toArray }, if_pos rfl⟩)) (fun b u z => ?_) (fun b z => ?_) fun _ => hk
    · by_cases hb : b = a
      · exact .inr ⟨_, _, if_pos hb⟩
      · exact .inl (if_neg hb)
    · by_cases hb : b = a
      · have z' := (if_pos hb).symm.trans z
        cases z'
        subst hb
        exact ⟨ha, by rw [List.length_map]; exact hl, vs, _, rv, ha⟩
      · have z' := (if_neg hb).symm.trans z
        cases z'
    · by_cases hb : b = a
      · exact hb
      · exact absurd (if_neg hb) z
end L2
namespace L2
open PySem PySem.Spec PyProof.Rows
abbrev KOf {K : PySem.W.Frag} {h : Heap} (_ : K.In h) : PySem.W.Frag := K
theorem walk_of {l : PySem.W.OpenLaw} {n k : Nat} {q : Program} {loose : List Str} {XP : (Str → Option Value) → Heap → Prop} {YP : World → Heap → Prop} {d : DefRec} {K : Params → PySem.W.Frag} {CX : World → CXT} {sp : World → Sp} {x : Str}
    (hn : l.most = some n) (hn2 : n ≤ sizeLine) (hdf : d.params.defaults = []) (hr : Room k callerA)
    (hY : ∀ (w : World) (h : Heap), YP w h → (K w.params).In h)
    (F : ∀ (w : World) (mg : Str → Option Value) (fa : Addr) (h : Heap), (K w.params).In h → h.Ns mainGlobals mg → mg d.name = some (.ref fa) →
      ∃ fd : FuncData, (∀ (s : Shared) (u : Value), BindsTo s fd ⟨[u], []⟩ [(x, u)]) ∧
        ∀ base : Heap, (K w.params).In base → base.Ns mainGlobals mg → FnOk l.prog w (K w.params) mg base (CX w) k fa fd [x] (sp w))
    (hsp : ∀ (w : World) (H : Hp) (a : Addr) (ns : List Int), ns.length ≤ n → Only H → SqL (K w.params) H a (ns.map V.int) → sp w [.ref a] H (fun v _ => v = .bl true) fun _ _ _ => False)
    (hCX : ∀ (w : World) (H : Hp) (s : Shared) (e : Value) (s' : Shared), CX w [] H s (fun _ _ _ => False) e s' → False) :
    PySem.W.WalkO q loose XP YP l.row.toRowW d [] (fun f vs => PySem.call f vs) := by
  refine Att.attach_call hn hdf fun w s₀ s₁ mg mb fa o pm cd doc a vs ns G Y ho hd hcd hmg hobj hints hlen hg => ?_
  have KX := hY w _ Y
  obtain ⟨fd, hb, hF⟩ := F w mg fa _ KX G.T.g hmg
  exact law_call KX G.T.g G.T.b G.T.builtins G.T.nolimit hg hobj hints (Nat.le_trans hlen hn2) hr hF hb (fun H hO hS => hsp w H a ns hlen hO hS) fun H e s' => hCX w H s₁ e s'
end L2
namespace L2
open PySem PySem.Spec PyProof.Rows
def inClass (s : Stmt) (j : Nat) : Stmt := match s with
  | .ClassDef _ _ _ body _ _ _ _ _ _ _ => body.getD j (.Pass ⟨0, 0, 0, 0⟩)
  | _ => .Pass ⟨0, 0, 0, 0⟩
def defArgs (s : Stmt) : Arguments := match s with
  | .FunctionDef _ a _ _ _ _ _ _ _ _ => a
  | _ => { posonlyargs := [], args := [], vararg := none, kwonlyargs := [], kw_defaults := [], kwarg := none, defaults := [] }
def defBody (s : Stmt) : List Stmt := match s with
  | .FunctionDef _ _ b _ _ _ _ _ _ _ => b
  | _ => []
def defScope (s : Stmt) : Scope := match s with
  | .FunctionDef _ _ _ _ _ _ sc _ _ _ => sc
  | _ => { kind := .function, names := [], isGenerator := false, isCoroutine := false }
abbrev E0 : XK := fun _ _ _ => False
structure Fun (K : PySem.W.Frag) (x qual : Str) (st : Stmt) (f : Addr) (fd : FuncData) : Prop where
  ex : ∃ (oc : Value) (od : Option Addr) (kV doc pm : Value) (an : Option Addr) (cdv ct : Value) (osl : Array (Option Value)),
    fd = PySem.W.fnOf x qual (defArgs st) (defBody st) (defScope st) .none kV doc pm an cdv ct ∧ K.lookup f = some ⟨oc, od, .func fd, osl⟩ ∧ PySem.W.codeIn K cdv qual = true
  kp : PySem.W.keepIn K (.ref f) = true
section
variable {P : Program} {w : World} {K : PySem.W.Frag} {mg : Str → Option Value} {base : Heap}
theorem Fun.binds {x qual : Str} {st : Stmt} {f : Addr} {fd : FuncData} {ps : List Str} (F : Fun K x qual st f fd)
    (h : ∀ (kV doc pm : Value) (an : Option Addr) (cdv ct : Value) (us : List Value), us.length = ps.length → bindArgs (PySem.W.fnOf x qual (defArgs st) (defBody st) (defScope st) .none kV doc pm an cdv ct) ⟨us, []⟩ = pure (ps.zip us)) : Binds K fd ps [] := by
  obtain ⟨oc, od, kV, doc, pm, an, cdv, ct, osl, rfl, lk, hcd⟩ := F.ex
  exact .all (h kV doc pm an cdv ct)
theorem fun_mk {x qual : Str} {st : Stmt} {f : Addr} {oc : Value} {od an : Option Addr} {osl : Array (Option Value)} {kV doc pm cdv ct : Value} (l : K.lookup f = some ⟨oc, od, .func (PySem.W.fnOf x qual (defArgs st) (defBody st) (defScope st) .none kV doc pm an cdv ct), osl⟩)
    (c : PySem.W.codeIn K cdv qual = true) (k : PySem.W.keepIn K (.ref f) = true) : Fun K x qual st f (PySem.W.fnOf x qual (defArgs st) (defBody st) (defScope st) .none kV doc pm an cdv ct) := ⟨⟨oc, od, kV, doc, pm, an, cdv, ct, osl, rfl, l, c⟩, k⟩
end
theorem small1000 {n : Nat} (h : n ≤ 1000) : n < sizeLine := Nat.lt_of_le_of_lt h (by decide)
section
variable {X : Cx}
theorem pv (i : Nat) {x : Str} {pos : Pos} (hN : X.N[i]? = some x := by rfl) (hv : Vis X.env.scope x := by first | exact Or.inl rfl | exact Or.inr (Or.inl rfl) | exact Or.inr (Or.inr rfl)) (hd : (x == ("__debug__" : Str)) = false := by decide)
    (hcd : (x == ("__classdict__" : Str)) = false := by decide) : PE X (.Name x pos) (tVar i) := pe_var hN hv hd hcd
end
theorem iteF {A B : Prop} (h : B) : if false = true then A else B := by
  rw [if_neg Bool.false_ne_true]
  exact h
theorem iteT {A B : Prop} (h : A) : if true = true then A else B := by
  rw [if_pos rfl]
  exact h
theorem ite2 {c A B : Prop} [Decidable c] (h1 : c → A) (h2 : ¬ c → B) : if c then A else B := by
  by_cases h : c
  · rw [if_pos h]
    exact h1 h
  · rw [if_neg h]
    exact h2 h
def Same (H H' : Hp) : Prop := ∀ b o, H b = some o → H' b = some o
theorem Same.refl (H : Hp) : Same H H := fun _ _ h => h
theorem Same.trans {H H1 H2 : Hp} (a : Same H H1) (b : Same H1 H2) : Same H H2 := fun c o h => b c o (a c o h)
theorem Same.free {H H' : Hp} (e : Same H H') {l : Addr} (h : H' l = Option.none) : H l = Option.none := by
  cases q : H l with
  | none => rfl
  | some o =>
    rw [e l o q] at h
    cases h
theorem Same.seq {K : PySem.W.Frag} {H H' : Hp} {a : Addr} {xs : List V} (e : Same H H') (h : SqL K H a xs) : SqL K H' a xs := by
  rcases h with (h | ⟨o, h⟩) | h
  · exact .inl (.inl (e _ _ h))
  · exact .inl (.inr ⟨o, e _ _ h⟩)
  · exact .inr h
end L2
namespace L2
open PySem PySem.Spec PyProof.Rows
section
variable {X : Cx}
def CDivW (_ j : Int) : Prop := j ≠ 0 ∧ j.natAbs.log2 < 9000
theorem op_fdivW : OpR X (binaryOp .FloorDiv) (rI CDivW fun i j => .int (i.fdiv j)) := opI fun _ _ _ _ _ _ _ hc q => floordiv_int hc.1 q (.inl (PyProof.noPylong_of_log2 hc.2))
end
mutual
inductive DV (K : PySem.W.Frag) (H : Hp) : V → PyData → Prop
  | non : DV K H .non .none
  | bl (b : Bool) : DV K H (.bl b) (.bool b)
  | int (i : Int) : DV K H (.int i) (.int i)
  | str (x : Str) : DV K H (.str x) (.str x)
  | lst {a : Addr} {xs : List V} {ds : List PyData} : SqL K H a xs → DVs K H xs ds → DV K H (.ref a) (.list ds)
  | tup {a : Addr} {xs : List V} {ds : List PyData} : SqT K H a xs → DVs K H xs ds → DV K H (.ref a) (.tuple ds)
  | dct {a : Addr} {kvs : List (Key × V)} : H a = some (.dK kvs) → DV K H (.ref a) (.dict [])
inductive DVs (K : PySem.W.Frag) (H : Hp) : List V → List PyData → Prop
  | nil : DVs K H [] []
  | cons {v : V} {vs : List V} {d : PyData} {ds : List PyData} : DV K H v d → DVs K H vs ds → DVs K H (v :: vs) (d :: ds)
end
section
variable {X : Cx} {pins : List (Addr × Obj)} {σ : St} {H : Hp} {s : Shared}
mutual
theorem DV.reads (I : Inv X pins σ H s) : ∀ {v : V} {d : PyData}, DV X.K H v d → d.canLay0 = true → ∀ {u : Value}, RelV v u → ∃ as, Reads s.heap u d as
  | _, _, .non, _, _, r => by cases r; exact ⟨_, .none⟩
  | _, _, .bl b, _, _, r => by cases r; exact ⟨_, .bool b⟩
  | _, _, .int i, _, _, r => by obtain ⟨t, rfl⟩ := r; exact ⟨_, .int i t⟩
  | _, _, .str x, _, _, r => by obtain ⟨t, rfl⟩ := r; exact ⟨_, .str x t⟩
  | _, _, .lst h q, c, _, r => by
    cases r
    obtain ⟨its, rv, pl, _⟩ := I.list h
    obtain ⟨as, ra⟩ := DVs.reads I q c rv
    obtain ⟨o, ho, hc, n, hd⟩ := id pl.isList
    exact ⟨_, .list ho hc hd ra⟩
  | _, _, .tup h q, c, _, r => by
    cases r
    obtain ⟨its, rv, pl, _⟩ := I.tuple h
    obtain ⟨as, ra⟩ := DVs.reads I q c rv
    obtain ⟨o, ho, hc, n, hd⟩ := id pl
    exact ⟨_, .tuple ho hc hd ra⟩
  | _, _, .dct h, c, _, r => nomatch c
theorem DVs.reads (I : Inv X pins σ H s) : ∀ {vs : List V} {ds : List PyData}, DVs X.K H vs ds → PyData.canLayAll0 ds = true → ∀ {us : List Value}, Vals vs us → ∃ as, ReadsAll s.heap us ds as
  | _, _, .nil, _, _, r => by cases r; exact ⟨_, .nil⟩
  | _, _, .cons h q, c, _, r => by
    rw [PyData.canLayAll0] at c
    cases r with
    | cons r1 r2 =>
      obtain ⟨a1, z1⟩ := DV.reads I h (Bool.and_eq_true_iff.mp c).1 r1
      obtain ⟨a2, z2⟩ := DVs.reads I q (Bool.and_eq_true_iff.mp c).2 r2
      exact ⟨_, .cons z1 z2⟩
end
end
section
variable {X : Cx}
def rEqD (K : PySem.W.Frag) : R2 := fun x y H Q => ∃ d e, DV K H x d ∧ DV K H y e ∧ SeqAt.shaped d = true ∧ SeqAt.shaped e = true ∧ Q (.bl (PyData.eqv d e)) H
def rNeD (K : PySem.W.Frag) : R2 := fun x y H Q => ∃ d e, DV K H x d ∧ DV K H y e ∧ SeqAt.shaped d = true ∧ SeqAt.shaped e = true ∧ Q (.bl (!PyData.eqv d e)) H
theorem op_eqD (hu : X.A.units + 64 < cLine) : OpR X (compareOp .Eq) (rEqD X.K) := by
  intro pins s σ H x y v u Q I rx ry h
  obtain ⟨d, e, hd, he, sd, se, q⟩ := h
  obtain ⟨a1, r1⟩ := hd.reads I (SeqAt.canLay_of_shaped sd) rx
  obtain ⟨a2, r2⟩ := he.reads I (SeqAt.canLay_of_shaped se) ry
  exact eq_dataH r1 r2 sd se hu ⟨.bl _, H, I, rfl, q⟩
theorem op_neD (hu : X.A.units + 64 < cLine) : OpR X (compareOp .NotEq) (rNeD X.K) := by
  intro pins s σ H x y v u Q I rx ry h
  obtain ⟨d, e, hd, he, sd, se, q⟩ := h
  obtain ⟨a1, r1⟩ := hd.reads I (SeqAt.canLay_of_shaped sd) rx
  obtain ⟨a2, r2⟩ := he.reads I (SeqAt.canLay_of_shaped se) ry
  exact ne_dataH r1 r2 sd se hu ⟨.bl _, H, I, rfl, q⟩
end
section
variable {X : Cx} {pos : Pos}
theorem Inv.big2 {pins : List (Addr × Obj)} {σ : St} {H : Hp} {s : Shared} (I : Inv X pins σ H s) : sysModules < s.heap.objs.size := by
  have h : mainGlobals < s.heap.objs.size := (I.mod.glob.keeps I.bk).lt
  exact Nat.lt_trans (by decide) h
def tDNew : TE := fun _ H Q => ∀ p, H p = none → Q (.ref p) (upd H p (.dK []))
theorem pe_dnew : PE X (.Dict [] [] pos) tDNew := fun pins s σ H Q I h =>
  wpAny_Dict_empty ⟨.ref s.heap.objs.size, _, I.laid (a := s.heap.objs.size) (o := .dK []) (t' := s.toks) (fun _ _ q => Heap.get?_push_of_some _ q) (Nat.le_refl _)
    ⟨Nat.zero_le _, beq_eq_false_iff_ne.mpr (Ne.symm (Nat.ne_of_lt I.big2)), [], .nil, Heap.DictOf.new s.heap⟩, rfl, h _ (I.hok.fresh (Nat.le_refl _))⟩
end
structure TopFn (K : PySem.W.Frag) (mg : Str → Option Value) (x : Str) (st : Stmt) : Prop where
  ex : ∃ (f : Addr) (fd : FuncData), Fun K x x st f fd ∧ mg x = some (.ref f)
theorem same_new {H : Hp} {p : Addr} (h : H p = none) (o : HO) : Same H (upd H p o) := fun b u q => by rw [upd_ne (ne_of_none q h)]; exact q
end L2
namespace L2
open PySem PySem.Spec PyProof.Rows
theorem bt_int : bootBuiltins "int" = some (.type "int") := by decide +kernel
theorem bt_bool : bootBuiltins "bool" = some (.type "bool") := by decide +kernel
theorem bt_tuple : bootBuiltins "tuple" = some (.type "tuple") := by decide +kernel
theorem bt_list : bootBuiltins "list" = some (.type "list") := by decide +kernel
theorem bt_str : bootBuiltins "str" = some (.type "str") := by decide +kernel
theorem bt_len : bootBuiltins "len" = some (.builtin "len") := by decide +kernel
theorem bt_abs : bootBuiltins "abs" = some (.builtin "abs") := by decide +kernel
theorem bt_all : bootBuiltins "all" = some (.builtin "all") := by decide +kernel
theorem bt_isinstance : bootBuiltins "isinstance" = some (.builtin "isinstance") := by decide +kernel
def bsub (t T : String) : Option Bool := if (Value.type t == Value.type T) = true then some true else if PySem.W.kitMeta T = true then (fastBuiltinMro t).map (·.contains (Value.type T)) else none
theorem kit_b {K : PySem.W.Frag} {t T : String} {b : Bool} (h : bsub t T = some b) : PySem.W.kitOne K (.type t) (.type T) = some b := h
theorem topFn_mk {K : PySem.W.Frag} {h : Heap} {mg : Str → Option Value} {x : Str} {st : Stmt} {f : Addr} {oc : Value} {od an : Option Addr} {sl : Array (Option Value)} {kV dc pm cd ct : Value} (X : K.In h) (G : h.Ns mainGlobals mg)
    (a : PySem.W.nsIn K mainGlobals x = some (some (.ref f))) (l : K.lookup f = some ⟨oc, od, .func (PySem.W.fnOf x x (defArgs st) (defBody st) (defScope st) .none kV dc pm an cd ct), sl⟩) (c : PySem.W.codeIn K cd x = true) (k : PySem.W.keepIn K (.ref f) = true) : TopFn K mg x st :=
  ⟨f, _, fun_mk l c k, PySem.W.mg_of X G a⟩
section
variable {X : Cx} {es : List Expr} {te : TE} {t : TA}
theorem pa_const {c : Const} {j : Nat} {p : Pos} (ha : PE X (.Constant c j p) te) (hr : PA X es t) : PA X (.Constant c j p :: es) (tCons te t) := pa_cons ha hr (by rfl)
theorem pa_name {x : Str} {p : Pos} (ha : PE X (.Name x p) te) (hr : PA X es t) : PA X (.Name x p :: es) (tCons te t) := pa_cons ha hr (by rfl)
theorem pa_list {xs : List Expr} {p : Pos} (ha : PE X (.List xs p) te) (hr : PA X es t) : PA X (.List xs p :: es) (tCons te t) := pa_cons ha hr (by rfl)
theorem pa_tuple {xs : List Expr} {k : Nat} {p : Pos} (ha : PE X (.Tuple xs k p) te) (hr : PA X es t) : PA X (.Tuple xs k p :: es) (tCons te t) := pa_cons ha hr (by rfl)
theorem pa_dict {ks : List (Option Expr)} {vs : List Expr} {p : Pos} (ha : PE X (.Dict ks vs p) te) (hr : PA X es t) : PA X (.Dict ks vs p :: es) (tCons te t) := pa_cons ha hr (by rfl)
theorem pa_call {f : Expr} {as : List Expr} {kw : List Keyword} {p : Pos} (ha : PE X (.Call f as kw p) te) (hr : PA X es t) : PA X (.Call f as kw p :: es) (tCons te t) := pa_cons ha hr (by rfl)
theorem pa_bin {a : Expr} {o : Operator} {b : Expr} {p : Pos} (ha : PE X (.BinOp a o b p) te) (hr : PA X es t) : PA X (.BinOp a o b p :: es) (tCons te t) := pa_cons ha hr (by rfl)
theorem pa_un {o : UnaryOp} {a : Expr} {p : Pos} (ha : PE X (.UnaryOp o a p) te) (hr : PA X es t) : PA X (.UnaryOp o a p :: es) (tCons te t) := pa_cons ha hr (by rfl)
theorem pa_cmp {a : Expr} {os : List CmpOp} {bs : List Expr} {p : Pos} (ha : PE X (.Compare a os bs p) te) (hr : PA X es t) : PA X (.Compare a os bs p :: es) (tCons te t) := pa_cons ha hr (by rfl)
theorem pa_sub {a b : Expr} {p : Pos} (ha : PE X (.Subscript a b p) te) (hr : PA X es t) : PA X (.Subscript a b p :: es) (tCons te t) := pa_cons ha hr (by rfl)
end
end L2
namespace L2
open PySem PySem.Spec PyProof.Rows
theorem dict_mf (o : Obj) (f : Array Value → Array Value) : (o.mapFields f).dict = o.dict := by
  obtain ⟨c, d, dt, sl⟩ := o; cases dt <;> rfl
def Trc (base : Heap) (e : Addr) (c : Value) (d : Option Addr) (fl : Value) (h : Heap) : Prop :=
  ∃ (o oT : Obj) (vs ts : Array Value) (T : Addr), h.get? e = some o ∧ o.cls = c ∧ o.dict = d ∧ o.data = .fields vs ∧ vs[1]? = some (.ref T) ∧ base.get? T = none ∧ T ≠ e ∧ h.get? T = some oT ∧ oT.data = .fields ts ∧ ts[3]? = some fl
def FlyD (base : Heap) (l : List Env) (e : Addr) (c : Value) (d : Option Addr) (fl : Value) (h : Heap) : Prop :=
  base.StaysIn h ∧ base.get? e = none ∧ h.FunFrames base l ∧ Trc base e c d fl h
theorem FlyD.there {base h : Heap} {l : List Env} {e : Addr} {c : Value} {d : Option Addr} {fl : Value} (x : FlyD base l e c d fl h) : ∃ ob, h.get? e = some ob ∧ ob.cls = c ∧ ob.dict = d ∧ ∃ vs, ob.data = .fields vs := by
  obtain ⟨_, _, _, o, _, vs, _, _, h1, h2, h3, h4, _⟩ := x
  exact ⟨o, h1, h2, h3, vs, h4⟩
theorem FlyD.pop {base h : Heap} {env : Env} {l : List Env} {e : Addr} {c : Value} {d : Option Addr} {fl : Value} (x : FlyD base (env :: l) e c d fl h) : FlyD base l e c d fl h := ⟨x.1, x.2.1, x.2.2.1.2.2, x.2.2.2⟩
section
variable {M : Model} {A : Around} {E : Value → Shared → Prop} {s : Shared} {base : Heap} {env : Env} {outer l : List Env} {L e : Addr} {c : Value} {d : Option Addr}
theorem note_new {o : Obj} {vs : Array Value} {head : Value} {hn : Bool} {Q : Unit → Shared → Prop} (hfr : A.frames = some (env :: outer)) (hf : env.frame = some L) (st : base.StaysIn s.heap) (ne : base.get? e = none)
    (fr : s.heap.FunFrames base (env :: outer)) (he : s.heap.get? e = some o) (hd : o.data = .fields vs) (hz : 1 < vs.size)
    (h : ∀ h', FlyD base (env :: outer) e o.cls o.dict (rawInt L) h' → s.heap.UpToSlots h' → Q () { s with heap := h' }) :
    wpAny M A (frameOf env >>= fun a => entryPlaceOf L hn >>= fun pl => EntryCells.newEntry head a .none (rawInt L) .none pl >>= fun b => setField (.ref e) 1 b) Q E s := by
  have eL : e ∉ (env :: outer).filterMap (·.frame) := fun m => by
    obtain ⟨_, u, hu, nf⟩ := fr.mem m
    rw [he] at hu; cases hu; exact nf vs hd
  refine wpAny_bind (wpAny_frameOf_fun hfr fr hf fun h1 so => wpAny_bind (wpAny_entryPlaceOf fun pl hp => ?_))
  have he1 : h1.get? e = some o := (so.2.1 e eL).trans he
  have Te : h1.objs.size ≠ e := Nat.ne_of_gt (Heap.lt_size he1)
  have st1 : base.StaysIn h1 := fun b u q => (so.2.1 b fun m => by rw [(fr.mem m).1] at q; cases q).trans (st b u q)
  have key : ∀ (oT : Obj) (ts : Array Value), oT.data = .fields ts → ts[3]? = some (rawInt L) → wpAny M A (setField (.ref e) 1 (.ref h1.objs.size)) Q E { s with heap := h1.push oT } := by
    intro oT ts dT t3
    have he2 := Heap.get?_push_of_some (h := h1) oT he1
    have hT2 : (h1.push oT).get? h1.objs.size = some oT := Heap.get?_push_size h1 (Obj.isFreed_of_fields dT)
    have oth : ∀ b u, b ≠ e → h1.get? b = some u → ((h1.push oT).update e (Obj.mapFields (·.setIfInBounds 1 (Value.ref h1.objs.size)))).get? b = some u := fun b u n q => by
      rw [Heap.get?_update_other _ _ (Ne.symm n)]; exact Heap.get?_push_of_some _ q
    have nrec : ∀ b u, s.heap.get? b = some u → (∀ xs, u.data ≠ .fields xs) → b ≠ e := fun b u q nf z => by
      subst z; rw [he] at q; cases q; exact nf vs hd
    refine wpAny_setField he2 hd hz (h _ ⟨fun b u q => oth b u (fun z => by rw [z, ne] at q; cases q) (st1 b u q), ne, fr.of_keeps fun b u q nf => ?_, _, oT, _, ts, h1.objs.size,
      Heap.get?_update_self _ he2 (Obj.isFreed_of_fields (Obj.data_mapFields hd _)), Obj.cls_mapFields _ _, dict_mf _ _, Obj.data_mapFields hd _, by simp [hz], st1.fresh, Te, ?_, dT, t3⟩ fun b u q nf => ?_)
    · obtain ⟨sl, z⟩ := so.2.2 b u q
      exact ⟨_, oth b _ (nrec b u q nf) z, rfl⟩
    · rw [Heap.get?_update_other _ _ (Ne.symm Te)]; exact hT2
    · obtain ⟨sl, z⟩ := so.2.2 b u q
      exact ⟨sl, oth b _ (nrec b u q nf) z⟩
  unfold EntryCells.newEntry newFields; refine wpAny_bind (wpAny_newObj_type (key _ _ rfl ?_) (hp.sizeOk5 _ _ _ _ _))
  rcases hp with rfl | ⟨_, _, _, _, _, _, _, rfl⟩ <;> simp
theorem fl_none {fl : Value} {Q : Unit → Shared → Prop} (x : FlyD base l e c d fl s.heap) (h : ∀ h', FlyD base l e c d .none h' → s.heap.UpToSlots h' → Q () { s with heap := h' }) :
    wpAny M A (setFlight (.ref e) none) Q E s := by
  obtain ⟨st, ne, fr, o, oT, vs, ts, T, he, hc, hdd, hd, h1, nT, Te, hT, dT, h3⟩ := x
  have z3 : 3 < ts.size := (Array.getElem?_eq_some_iff.mp h3).1
  have oth : ∀ b, b ≠ T → (s.heap.update T (Obj.mapFields (·.setIfInBounds 3 Value.none))).get? b = s.heap.get? b := fun b n => Heap.get?_update_other _ _ (Ne.symm n)
  have nrec : ∀ b u, s.heap.get? b = some u → (∀ xs, u.data ≠ .fields xs) → b ≠ T := fun b u q nf z => by
    subst z; rw [hT] at q; cases q; exact nf ts dT
  unfold setFlight; refine wpAny_bind (wpAny_field he hd h1 ?_)
  rw [if_pos (show (Value.ref T != Value.none) = true by simp)]
  refine wpAny_setField hT dT z3 (h _ ⟨fun b u q => (oth b fun z => by rw [z, nT] at q; cases q).trans (st b u q), ne, fr.of_keeps fun b u q nf => ⟨u, (oth b (nrec b u q nf)).trans q, rfl⟩,
    o, _, vs, _, T, (oth e (Ne.symm Te)).trans he, hc, hdd, hd, h1, nT, Te, Heap.get?_update_self _ hT (Obj.isFreed_of_fields (Obj.data_mapFields dT _)), Obj.data_mapFields dT _, by simp [z3]⟩ fun b u q nf => ⟨u.slots, (oth b (nrec b u q nf)).trans q⟩)
theorem note_next {Q : Unit → Shared → Prop} (hfr : A.frames = some (env :: outer)) (hf : env.frame = some L) (x : FlyD base (env :: outer) e c d .none s.heap)
    (h : ∀ h', FlyD base (env :: outer) e c d (rawInt L) h' → s.heap.UpToSlots h' → Q () { s with heap := h' }) : wpAny M A (noteFrame (.ref e) env) Q E s := by
  obtain ⟨st, ne, fr, o, oT, vs, ts, T, he, hc, hdd, hd, h1, nT, Te, hT, dT, h3⟩ := x
  subst hc hdd
  have oth : ∀ b, b ≠ T → (s.heap.update T (Obj.mapFields (·.setIfInBounds 3 Value.none))).get? b = s.heap.get? b := fun b n => Heap.get?_update_other _ _ (Ne.symm n)
  have nrec : ∀ b u, s.heap.get? b = some u → (∀ xs, u.data ≠ .fields xs) → b ≠ T := fun b u q nf z => by
    subst z; rw [hT] at q; cases q; exact nf ts dT
  unfold noteFrame; simp only [hf]; refine wpAny_bind (wpAny_field he hd h1 ?_)
  rw [if_pos (show (Value.ref T != Value.none) = true by simp)]; refine wpAny_bind (wpAny_field hT dT h3 ?_)
  rw [if_neg (show ¬ ((Value.none == rawInt L) = true) by simp [rawInt])]; refine wpAny_bind (wpAny_setField hT dT (Array.getElem?_eq_some_iff.mp h3).1 ?_)
  refine note_new (s := { s with heap := s.heap.update T (Obj.mapFields (·.setIfInBounds 3 Value.none)) }) hfr hf (fun b u q => (oth b fun z => by rw [z, nT] at q; cases q).trans (st b u q)) ne (fr.of_keeps fun b u q nf => ⟨u, (oth b (nrec b u q nf)).trans q, rfl⟩)
    ((oth e (Ne.symm Te)).trans he) hd (Array.getElem?_eq_some_iff.mp h1).1 fun h' f up => h h' f fun b u q nf => up b u ((oth b (nrec b u q nf)).trans q) nf
theorem note_first {o : Obj} {vs : Array Value} {Q : Unit → Shared → Prop} (hfr : A.frames = some (env :: outer)) (hf : env.frame = some L) (st : base.StaysIn s.heap) (ne : base.get? e = none)
    (fr : s.heap.FunFrames base (env :: outer)) (he : s.heap.get? e = some o) (hd : o.data = .fields vs) (h1 : vs[1]? = some .none)
    (h : ∀ h', FlyD base (env :: outer) e o.cls o.dict (rawInt L) h' → s.heap.UpToSlots h' → Q () { s with heap := h' }) : wpAny M A (noteFrame (.ref e) env) Q E s := by
  unfold noteFrame; simp only [hf]; refine wpAny_bind (wpAny_field he hd h1 ?_)
  rw [if_neg (by decide)]
  exact note_new hfr hf st ne fr he hd (Array.getElem?_eq_some_iff.mp h1).1 h
theorem leave_first {o : Obj} {vs : Array Value} {Q : Unit → Shared → Prop} (hfr : A.frames = some (env :: outer)) (hf : env.frame = some L) (st : base.StaysIn s.heap) (ne : base.get? e = none)
    (fr : s.heap.FunFrames base (env :: outer)) (he : s.heap.get? e = some o) (hd : o.data = .fields vs) (h1 : vs[1]? = some .none)
    (h : ∀ h', FlyD base outer e o.cls o.dict .none h' → s.heap.UpToSlots h' → Q () { s with heap := h' }) : wpAny M A (leaving env (.ref e)) Q E s :=
  wpAny_bind (note_first hfr hf st ne fr he hd h1 fun h1 f1 u1 => fl_none (s := { s with heap := h1 }) f1 fun h2 f2 u2 => h h2 f2.pop (u1.trans u2))
theorem leave_next {Q : Unit → Shared → Prop} (hfr : A.frames = some (env :: outer)) (hf : env.frame = some L) (x : FlyD base (env :: outer) e c d .none s.heap)
    (h : ∀ h', FlyD base outer e c d .none h' → s.heap.UpToSlots h' → Q () { s with heap := h' }) : wpAny M A (leaving env (.ref e)) Q E s :=
  wpAny_bind (note_next hfr hf x fun h1 f1 u1 => fl_none (s := { s with heap := h1 }) f1 fun h2 f2 u2 => h h2 f2.pop (u1.trans u2))
end
end L2
namespace L2
open PySem PySem.Spec PyProof.Rows
def ExcAt (a C : Addr) (h : Heap) : Prop := ∃ o, h.get? a = some o ∧ o.cls = .ref C
theorem ObjOk.some_of {P : Program} {w : World} {H : Hp} {h : Heap} {a : Addr} {o : HO} (x : ObjOk P w H h a o) : ∃ u, h.get? a = some u := by
  cases o with
  | lst xs => obtain ⟨_, _, _, _, e⟩ := x; exact ⟨_, e⟩
  | tup xs => obtain ⟨_, _, _, p⟩ := x; obtain ⟨o, e, _⟩ := p; exact ⟨_, e⟩
  | dK kvs => obtain ⟨_, _, _, _, o, _, _, e, _⟩ := x; exact ⟨_, e⟩
  | dT kvs => obtain ⟨_, _, _, _, o, _, _, e, _⟩ := x; exact ⟨_, e⟩
  | set S n => obtain ⟨o, _, _, _, e, _⟩ := x; exact ⟨_, e⟩
  | ins C dx fs => obtain ⟨_, _, _, e, _⟩ := x; exact ⟨_, e⟩
  | own y => obtain ⟨_, e⟩ := x; exact ⟨_, e⟩
  | xd fs => obtain ⟨_, ⟨_, _, _, e, _⟩, _⟩ := x; exact ⟨_, e⟩
  | rng lo hi => obtain ⟨_, _, _, e⟩ := x; exact ⟨_, e⟩
  | frz ob u => obtain ⟨e, _⟩ := x; exact ⟨_, e⟩
  | tbl ps => exact ⟨_, (show h.get? a = some _ from x)⟩
  | met f y => exact ⟨_, (show h.get? a = some _ from x)⟩
  | ext φ => obtain ⟨_, ⟨_, e⟩, _⟩ := x; exact ⟨_, e⟩
theorem HOk.none_of {P : Program} {w : World} {H : Hp} {h : Heap} {a : Addr} (x : HOk P w H h) (e : h.get? a = none) : H a = none := by
  cases q : H a with
  | none => rfl
  | some o =>
    obtain ⟨u, z⟩ := (x a o q).some_of
    rw [e] at z
    cases z
def CX1 (P : Program) (w : World) : CXT := fun outer H s E e s' => ∃ (a C : Addr) (d : Option Addr) (H' : Hp) (B : Heap), e = .ref a ∧ s'.os = s.os ∧ AllBare s'.gens ∧
  (∀ h'' : Heap, B.StaysIn h'' → s'.heap.UpToSlots h'' → Un (frs outer) [] H H' s.heap h'' ∧ HOk P w H' h'') ∧ FlyD B outer a (.ref C) d .none s'.heap ∧ H' a = none ∧ s.heap.get? a = none ∧ E (.ref C) d H'
structure BodyCx (X : Cx) (E : XK) : Prop where
  stk : X.stack = X.env :: X.outer
  fr : X.env.frame = some X.env.locals
  ex : X.ex = []
  xe : X.xe = fun e s' => wpAny (model X.prog X.w) X.A (leaving X.env e) (fun _ s'' => CX1 X.prog X.w X.outer X.H₀ X.s₀ E e s'') (fun e' s'' => CX1 X.prog X.w X.outer X.H₀ X.s₀ E e' s'') s'
section
variable {X : Cx} {pins : List (Addr × Obj)} {σ : St} {H : Hp} {s : Shared}
theorem mem_stack {E : XK} (Bd : BodyCx X E) {b : Addr} : b ∈ frs X.stack ↔ b = X.env.locals ∨ b ∈ frs X.outer := by
  rw [Bd.stk]
  show b ∈ List.filterMap (·.frame) (X.env :: X.outer) ↔ _
  rw [List.filterMap_cons, Bd.fr]
  exact List.mem_cons
theorem clo_of {E : XK} (Bd : BodyCx X E) (I : Inv X pins σ H s) {h1 h2 : Heap} (k : ∀ b o, s.heap.get? b = some o → h1.get? b = some o) (up : h1.UpToSlots h2) (h'' : Heap)
    (st : (PySem.W.hideAll s.heap (frs X.stack)).StaysIn h'') (up2 : h2.UpToSlots h'') : Un (frs X.outer) [] X.H₀ H X.s₀.heap h'' ∧ HOk X.prog X.w H h'' := by
  have inB : ∀ b o, s.heap.get? b = some o → b ∉ frs X.stack → h''.get? b = some o := fun b o e n => st b o (PySem.W.hideAll_get _ e n)
  have sl : ∀ b o, s.heap.get? b = some o → b ∈ frs X.stack → ∃ sl, h''.get? b = some { o with slots := sl } := fun b o e m => by
    obtain ⟨_, o', ho', hnf⟩ := I.stack.mem m
    rw [e] at ho'
    cases ho'
    exact (up.trans up2) b o (k b o e) hnf
  have nx : ∀ b : Addr, b ∉ X.ex := fun b z => by rw [Bd.ex] at z; cases z
  have neL : ∀ b o, X.s₀.heap.get? b = some o → b ≠ X.env.locals := fun b o e => Nat.ne_of_lt (Nat.lt_of_lt_of_le (Heap.lt_size e) I.ok.above)
  have any : ∀ b o, s.heap.get? b = some o → ∃ o', h''.get? b = some o' := fun b o e => by
    by_cases m : b ∈ frs X.stack
    · obtain ⟨z, q⟩ := sl b o e m
      exact ⟨_, q⟩
    · exact ⟨_, inB b o e m⟩
  refine ⟨⟨fun b o e n hb _ => ?_, fun b o e n hb _ => ?_, fun b o e n _ => I.base.free b o e n (nx b), fun b o e _ => ?_, I.base.tups, I.base.frzs, I.base.tbls⟩, fun a o e => ?_⟩
  · exact inB b o (I.base.keep b o e n hb (nx b)) fun m => (mem_stack Bd).mp m |>.elim (neL b o e) hb
  · obtain ⟨z, q⟩ := I.base.slot b o e n hb (nx b)
    obtain ⟨z', q'⟩ := sl b _ q ((mem_stack Bd).mpr (.inr hb))
    exact ⟨z', q'⟩
  · obtain ⟨o', q⟩ := I.base.there b o e (nx b)
    exact any b o' q
  · refine (I.hok a o e).stay (fun b u hc q => inB b u q fun m => ?_) (fun _ q => q) fun _ _ q => q
    have z := I.stkFree b m
    rcases hc with rfl | hc
    · rw [z] at e; cases e
    · rw [z] at hc; cases hc
theorem inv_behind {H' : Hp} {h'' : Heap} {s' : Shared} (I : Inv X pins σ H s) (ho : s'.os = s.os) (hg : AllBare s'.gens) (u : Un (frs X.stack) [] H H' s.heap h'' ∧ HOk X.prog X.w H' h'') : Inv X pins σ H' { s' with heap := h'' } :=
  I.call' (s' := { s' with heap := h'' }) (ch := []) ho u.1 u.2 hg fun b z => nomatch z
theorem new0 (I : Inv X pins σ H s) (nx : ∀ b : Addr, b ∉ X.ex) {a : Addr} (e : s.heap.get? a = none) : X.s₀.heap.get? a = none := by
  cases q : X.s₀.heap.get? a with
  | none => rfl
  | some o =>
    obtain ⟨o', z⟩ := I.base.there a o q (nx a)
    rw [e] at z
    cases z
theorem passes1 {E : XK} (Bd : BodyCx X E) : Passes (CX1 X.prog X.w) X E := by
  intro pins σ H s e s' I h
  obtain ⟨a, C, t, H', B, rfl, os, bare, clo, fly, na, nw, q⟩ := h
  rw [Bd.xe]
  have hfr : X.A.frames = some (X.env :: X.outer) := by rw [← Bd.stk]; exact I.ok.frames
  have fly' : FlyD B (X.env :: X.outer) a (.ref C) t .none s'.heap := by rw [← Bd.stk]; exact fly
  refine leave_next hfr Bd.fr fly' fun h' f1 up => ?_
  have nx : ∀ b : Addr, b ∉ X.ex := fun b z => by rw [Bd.ex] at z; cases z
  have J0 : ∀ h'' : Heap, B.StaysIn h'' → h'.UpToSlots h'' → Inv X pins σ H' { s' with heap := h'' } := fun h'' st up2 => inv_behind I os bare (clo h'' st (up.trans up2))
  have os0 : s'.os = X.s₀.os := os.trans I.os
  refine ⟨a, C, t, H', B, rfl, os0, bare, fun h'' st up2 => ?_, f1, na, new0 I nx nw, q⟩
  have J := J0 h'' st up2
  have u := J.base
  rw [Bd.ex] at u
  exact ⟨u, J.hok⟩
end
theorem exc_obj {K : PySem.W.Frag} {h₀ : Heap} {C : Addr} {bmB : List Value} {newId : String} (X : K.In h₀) (q : PySem.W.excIn K C bmB newId = true) :
    ∃ bm N nm q bs hdct sn sub ab col dd k0 k1 k2 k3 k5 mN, h₀.get? C = some (excClassObj nm q C N bs bm hdct sn sub ab col dd k0 k1 k2 k3 k5 newId) ∧ h₀.Ns N mN ∧ mN "__init__" = none ∧ OwnTail h₀ bmB bm := by
  unfold PySem.W.excIn at q
  split at q
  · rename_i dd cd sl ho
    split at q
    · rename_i C' bm k0 k1 k2 k3 n k5 hm hs
      simp only [Bool.and_eq_true, beq_iff_eq, Bool.not_eq_true'] at q
      obtain ⟨⟨⟨⟨⟨rfl, rfl⟩, hdel⟩, ht⟩, hok⟩, hni⟩ := q
      obtain ⟨nm, bs, mro, ns, qn, hd, sn, sub, ab, col, del⟩ := cd
      dsimp only at hm hdel hok hni
      subst hm hdel
      have hsl : sl = #[k0, k1, k2, k3, some (.builtin n), k5] := by
        obtain ⟨l⟩ := sl
        simp only at hs
        rw [hs]
      subst hsl
      exact ⟨bm, ns, nm, qn, bs, hd, sn, sub, ab, col, dd, k0, k1, k2, k3, k5, _, X _ _ ho, .of_isNs (PySem.W.isNs_of_in X hok), PySem.W.nsMap_none_of_in X hok hni, PySem.W.tail_of_in X ht⟩
    · cases q
  · cases q
structure ExcCls (K : PySem.W.Frag) (mg : Str → Option Value) (x : Str) (C : Addr) : Prop where
  mg : mg x = some (.ref C)
  ob : PySem.W.excIn K C [.type "ValueError", .type "Exception", .type "BaseException", .type "object"] "ValueError.__new__" = true
section
variable {X : Cx} {x : Str} {C : Addr} {e₀ : Expr} {t : TA} {np cpos pos : Pos}
def tRaise (E : XK) (C : Addr) (t : TA) : TS := fun _ σ H => t σ H fun vs H1 => vs.length ≤ sizeLine ∧ E (.ref C) none H1
theorem ps_raise {E : XK} (Bd : BodyCx X E) (hc : X.calm = true) (O : ExcCls X.K X.mg x C) (ha : PA X [e₀] t) (hg : Gl X x := by rfl) (hdb : (x == ("__debug__" : Str)) = false := by decide)
    (he : starEach [e₀] X.env = [(false, eval e₀ X.env)] := by rfl) :
    PS X (.Raise (some (.Call (.Name x np) [e₀] [] cpos)) none pos) (tRaise E C t) := by
  intro pins s σ H D I h
  obtain ⟨bm, N, nm, qn, bs, hdct, sn, sub, ab, col, dd, k0, k1, k2, k3, k5, mN, hC, hN, hni, TL⟩ := exc_obj I.ok.mod.kin O.ob
  have hbase : bm.contains (.type "BaseException") = true := TL.hasType (X := "BaseException") (by decide +kernel)
  have hpl : (backTo cpos (starEach [e₀] X.env)).any (·.1) = false := by rw [he]; rfl
  refine wpAny_Raise_call_subT (nm := nm) (q := qn) (N := N) (bs := bs) (hdct := hdct) (sn := sn) (sub := sub) (ab := ab) (col := col) (dd := dd) (k0 := k0) (k1 := k1) (k2 := k2) (k3 := k3) (k5 := k5) F.excBase_ValueError hbase (I.ok.hd hc) hpl hni (ld_glob I hg O.mg ⟨rfl, ?_⟩ hdb)
  have h1 := ha cpos pins s σ H _ I h
  rw [he] at h1 ⊢
  refine Calls.evalArgs_plain (thn h1 fun us s2 ⟨vs, H2, I2, r, hl, q⟩ => ⟨rfl, by rw [← r.length]; exact hl, I2.bk _ _ hC, hN.keeps I2.bk, TL.keeps I2.bk, fun h' e hm => ?_⟩)
  rw [Bd.xe]
  have hfr : X.A.frames = some (X.env :: X.outer) := by rw [← Bd.stk]; exact I.ok.frames
  have hin : ∀ env ∈ X.stack, ∀ b, env.frame = some b → b ∈ frs X.stack := fun env he b hb => List.mem_filterMap.mpr ⟨env, he, hb⟩
  have ff : s2.heap.FunFrames (PySem.W.hideAll s2.heap (frs X.stack)) (X.env :: X.outer) := by
    have z := PySem.W.funFrames_hide I2.stack hin
    rw [← Bd.stk]
    exact z
  obtain ⟨t0, he0, _, _⟩ := hm.there
  have ne0 : (PySem.W.hideAll s2.heap (frs X.stack)).get? e = none := by
    cases q0 : (PySem.W.hideAll s2.heap (frs X.stack)).get? e with
    | none => rfl
    | some o => have z := PySem.W.of_hideAll _ q0; rw [hm.new] at z; cases z
  refine leave_first (s := { s2 with heap := h' }) hfr Bd.fr (fun b o q => hm.keeps b o (PySem.W.of_hideAll _ q)) ne0 (ff.of_keeps fun b o q _ => ⟨o, hm.keeps b o q, rfl⟩) he0 rfl rfl fun h3 fly up => ?_
  refine ⟨e, C, none, H2, _, rfl, ?_, I2.bare, fun h'' st up2 => clo_of Bd I2 hm.keeps up h'' st up2, fly, I2.hok.none_of hm.new, new0 I2 (fun b z => by rw [Bd.ex] at z; cases z) hm.new, q⟩
  exact I2.os
end
end L2
namespace L2
open PySem PySem.Spec PyProof.Rows
structure RoomB (c : Bool) (k : Nat) (A : Around) : Prop where
  hd : c = true → A.handled = none
  dp : A.depth + 3 * k + 5 < recursionLimit
  un : A.units + 16 * k + 200 < cLine
theorem RoomB.mono {c : Bool} {j k : Nat} {A : Around} (r : RoomB c k A) (h : j ≤ k) : RoomB c j A := ⟨r.hd, by have := r.dp; omega, by have := r.un; omega⟩
theorem RoomB.deeper {c : Bool} {k : Nat} {A : Around} (r : RoomB c (k + 1) A) (env : Env) : RoomB c k (A.deeper env) :=
  ⟨r.hd, by have := r.dp; show A.depth + 1 + 3 * k + 5 < _; omega, by have := r.un; show A.units + 3 + 16 * k + 200 < _; omega⟩
theorem RoomB.depth {c : Bool} {k : Nat} {A : Around} (r : RoomB c k A) : A.depth < recursionLimit := by have := r.dp; omega
theorem RoomB.units {c : Bool} {k : Nat} {A : Around} (r : RoomB c k A) : A.units + 64 < cLine := by have := r.un; omega
theorem Room.b {k : Nat} {A : Around} (r : Room k A) : RoomB true k A := ⟨fun _ => r.hd, r.dp, r.un⟩
structure FnB (P : Program) (w : World) (K : PySem.W.Frag) (mg : Str → Option Value) (base : Heap) (c : Bool) (k : Nat) (f : Addr) (fd : FuncData) (ps : List Str) (sp : Sp) : Prop where
  len : ∀ vs H Q E, sp vs H Q E → vs.length = ps.length
  run : ∀ (A : Around) (outer : List Env) (s : Shared) (H : Hp) (args : Args) (us : List Value) (vs : List V) (Q : VK) (E : XK), RoomB c k A → Env0 P w K mg base A outer s H → BindsTo s fd args (ps.zip us) → Vals vs us → sp vs H Q E →
    codeAny (model P w) A (.call (.ref f) args) (CR (CX1 P w) outer P w H s Q E) s
theorem FnB.ok {P : Program} {w : World} {K : PySem.W.Frag} {mg : Str → Option Value} {base : Heap} {k : Nat} {f : Addr} {fd : FuncData} {ps : List Str} {sp : Sp} (F : FnB P w K mg base true k f fd ps sp) : FnOk P w K mg base (CX1 P w) k f fd ps sp :=
  ⟨F.len, fun A outer s H args us vs Q E hr => F.run A outer s H args us vs Q E hr.b⟩
def cxB (c : Bool) (P : Program) (w : World) (K : PySem.W.Frag) (mg : Str → Option Value) (base : Heap) (N : List Str) (qual : Str) (scope : Scope) (f : Addr) (cd : Value) (A : Around) (outer : List Env) (s : Shared) (H : Hp) (E : XK) : Cx :=
  { cxOf (CX1 P w) P w K mg base N qual scope f cd A outer s H E with calm := c }
theorem bodyB {c : Bool} {P : Program} {w : World} {K : PySem.W.Frag} {mg : Str → Option Value} {base : Heap} {N : List Str} {qual : Str} {scope : Scope} {f : Addr} {cd : Value} {A : Around} {outer : List Env} {s : Shared} {H : Hp} {E : XK} :
    BodyCx (cxB c P w K mg base N qual scope f cd A outer s H E) E := ⟨rfl, rfl, rfl, rfl⟩
theorem inv_startB {c : Bool} {P : Program} {w : World} {K : PySem.W.Frag} {mg : Str → Option Value} {base : Heap} {N ps : List Str} {qual : Str} {scope : Scope} {f : Addr} {cd : Value} {A : Around} {outer : List Env} {s s1 : Shared} {H : Hp} {E : XK} {us : List Value} {vs : List V}
    (S : FnScope N ps scope) (hd : c = true → A.handled = none) (e0 : Env0 P w K mg base A outer s H) (hl : vs.length = ps.length) (r : Vals vs us)
    (x : InCallC s s.heap.objs.size (bindL (envOfC qual scope s.heap.objs.size f cd).kindOf (ps.zip us) fun _ => none) (cellsFrom (s.heap.objs.size + 1) scope.names []) (bindC (envOfC qual scope s.heap.objs.size f cd).kindOf (ps.zip us) fun _ => none) s1) :
    Inv (cxB c P w K mg base N qual scope f cd A outer s H E) [] (start N vs) H s1 := by
  have hpl : ps.length ≤ N.length := by have := congrArg List.length S.pre; rw [List.length_take] at this; omega
  obtain ⟨h1, tk, rfl, hk⟩ := x.done
  have noA : ∀ b : Addr, b ∉ (cxB c P w K mg base N qual scope f cd A outer s H E).ex := fun b z => absurd (show b ∈ ([] : List Addr) from z) (by simp)
  refine ⟨⟨e0.mod, S.kind, rfl, rfl, Nat.le_refl _, fun y z c h1 h2 => ?_, fun y hy => ?_, fun y c _ h => ?_, fun z => hd z, Around.frames_deeper e0.frames, .inr ⟨rfl, rfl⟩, fun b z => absurd z (noA b), e0.bs, e0.bsz, fun b _ _ => noA b, fun b z => absurd z (noA b), e0.funs, e0.frf⟩,
    rfl, e0.bare, Un.kept hk, ⟨_, x.toInCall.ns, fun i y v h1 h2 h3 => ?_⟩, fun y c h => ⟨_, x.cell y c h⟩, e0.hok.fresh (Nat.le_refl _), fun y c h => ?_, fun p hp => absurd (show p ∈ ([] : List (Addr × Obj)) from hp) (by simp), e0.hok.kept hk, ?_⟩
  · exact name_of_addr x.apart (PySem.mem_of_lookup h1) (PySem.mem_of_lookup h2)
  · have hy : scope.names.lookup y = some .cell ∨ scope.names.lookup y = some .free := hy
    rcases hy with hy | hy
    · exact cell_has hy
    · exact absurd rfl (S.nofree _ (PySem.mem_of_lookup hy))
  · exact Nat.le_of_lt (x.above y c (PySem.mem_of_lookup h))
  · have hi : i < vs.length := by
      unfold start at h2
      by_cases hi : i < vs.length
      · exact hi
      · rw [List.getElem?_append_right (by simpa using hi)] at h2
        rw [List.getElem?_replicate] at h2
        split at h2 <;> cases h2
    have ha : vs[i]? = some v := by
      unfold start at h2
      rw [List.getElem?_append_left (by simpa using hi), List.getElem?_map] at h2
      cases e : vs[i]? with
      | none => rw [e] at h2; cases h2
      | some a => rw [e] at h2; cases h2; rfl
    obtain ⟨u, hu, rv⟩ := r.get ha
    have hp : ps[i]? = some y := by
      rw [← S.pre, List.getElem?_take_of_lt (by omega)]; exact h1
    have ndP : ps.Nodup := by rw [← S.pre]; exact S.nd.sublist (List.take_sublist _ _)
    refine ⟨u, rv, ?_⟩
    rcases S.par y (List.mem_of_getElem? hp) with k | k
    · exact .inl ⟨k, bindL_get ndP hp hu k⟩
    · obtain ⟨c, e⟩ := cell_has (n := s.heap.objs.size + 1) k
      refine .inr ⟨.inl k, c, e, ?_⟩
      have q := x.cell y c e
      rw [bindC_get ndP hp hu (by show scope.names.lookup y ≠ _; rw [k]; decide)] at q
      exact q
  · exact e0.hok.fresh (Nat.le_of_lt (x.above y c (PySem.mem_of_lookup h)))
  · unfold start
    show _ = N.length
    rw [List.length_append, List.length_map, List.length_replicate]
    omega
theorem fnB_of {c : Bool} {P : Program} {w : World} {K : PySem.W.Frag} {mg : Str → Option Value} {base : Heap} {k : Nat} {f : Addr} {name qual : Str} {params : Arguments} {body : List Stmt} {scope : Scope} {dV kV doc pm cdv ct oc : Value} {an od : Option Addr}
    {osl : Array (Option Value)} {N ps : List Str} {sp : Sp} (lk : K.lookup f = some ⟨oc, od, .func (PySem.W.fnOf name qual params body scope dV kV doc pm an cdv ct), osl⟩) (hcd : PySem.W.codeIn K cdv qual = true) (S : FnScope N ps scope)
    (len : ∀ vs H Q E, sp vs H Q E → vs.length = ps.length)
    (hbody : ∀ (A : Around) (outer : List Env) (s : Shared) (H : Hp) (vs : List V) (Q : VK) (E : XK), RoomB c k (A.deeper (envOfC qual scope s.heap.objs.size f cdv)) → sp vs H Q E →
      ∃ t, PSs (cxB c P w K mg base N qual scope f cdv A outer s H E) body t ∧ t { nx := fun _ H' => Q .non H', rt := Q } (start N vs) H) :
    FnB P w K mg base c (k + 1) f (PySem.W.fnOf name qual params body scope dV kV doc pm an cdv ct) ps sp := by
  refine ⟨len, fun A outer s H args us vs Q E hr e0 hb r hsp => ?_⟩
  have hl := len _ _ _ _ hsp
  have KX : K.In s.heap := e0.mod.kin.keeps fun b o e => (e0.bs b o e).1
  have lim : s.heap.NoLimit := e0.mod.nolimit.keeps fun b o e => (e0.bs b o e).1
  have hkind : ∀ y ∈ ps.zip us, scope.names.lookup y.1 = some .local ∨ (scope.names.lookup y.1 = some .cell ∧ ((cellsFrom (s.heap.objs.size + 1) scope.names []).lookup y.1).isSome = true) := fun ⟨n, v⟩ hy => by
    rcases S.par n (List.of_mem_zip hy).1 with q | q
    · exact .inl q
    · exact .inr ⟨q, PySem.W.cellsFrom_some _ _ _ (.inl q)⟩
  refine codeAny_call_function hr.depth (KX _ _ lk) rfl S.co S.gen rfl (PySem.W.codeRec_of KX hcd) (hb _ _ _ _ ?_)
  refine wpAny_newFunctionEnv_cells S.kind hkind fun env he s1 x => ?_
  subst he
  refine ⟨lim.keeps x.toInCall.keep, codeAny_func ?_⟩
  obtain ⟨t, ht, hq⟩ := hbody A outer s H vs Q E (hr.deeper _) hsp
  have I : Inv (cxB c P w K mg base N qual scope f cdv A outer s H E) [] (start N vs) H s1 := inv_startB S hr.hd e0 hl r x
  refine wpAny_mono (ht [] s1 (start N vs) H _ I hq) (fun fl s' hs => ?_) fun e s' hs => hs
  have fin : ∀ {σ' : St} {H' : Hp} {v : V} {u : Value}, Inv (cxB c P w K mg base N qual scope f cdv A outer s H E) [] σ' H' s' → RelV v u → Q v H' → CE outer P w H s Q u s' :=
    fun {σ' H' v u} J rv q => ⟨v, H', J.os, J.bare, J.base, J.hok, rv, q⟩
  cases fl with
  | ret u =>
    obtain ⟨v, σ', H', J, rv, q⟩ := hs
    exact fin J rv q
  | next =>
    obtain ⟨σ', H', J, q⟩ := hs
    exact fin (v := V.non) (u := Value.none) J rfl q
  | brk =>
    obtain ⟨_, _, _, q⟩ := hs
    exact False.elim q
  | cont =>
    obtain ⟨_, _, _, q⟩ := hs
    exact False.elim q
structure CalB (P : Program) (w : World) (K : PySem.W.Frag) (mg : Str → Option Value) (base : Heap) (c : Bool) (k : Nat) (x : Str) (ps : List Str) (sp : Sp) : Prop where
  ex : ∃ (f : Addr) (fd : FuncData), FnB P w K mg base c k f fd ps sp ∧ mg x = some (.ref f) ∧ PySem.W.keepIn K (.ref f) = true ∧ Binds K fd ps []
theorem TopFn.calB {c : Bool} {P : Program} {w : World} {K : PySem.W.Frag} {mg : Str → Option Value} {base : Heap} {x : Str} {st : Stmt} {N ps : List Str} {k : Nat} {sp : Sp} (T : TopFn K mg x st) (S : FnScope N ps (defScope st))
    (hb : ∀ (kV doc pm : Value) (an : Option Addr) (cdv ct : Value) (us : List Value), us.length = ps.length → bindArgs (PySem.W.fnOf x x (defArgs st) (defBody st) (defScope st) .none kV doc pm an cdv ct) ⟨us, []⟩ = pure (ps.zip us))
    (len : ∀ vs H Q E, sp vs H Q E → vs.length = ps.length)
    (hbody : ∀ (f : Addr) (cdv : Value) (A : Around) (outer : List Env) (s : Shared) (H : Hp) (vs : List V) (Q : VK) (E : XK), RoomB c k (A.deeper (envOfC x (defScope st) s.heap.objs.size f cdv)) → sp vs H Q E →
      ∃ t, PSs (cxB c P w K mg base N x (defScope st) f cdv A outer s H E) (defBody st) t ∧ t { nx := fun _ H' => Q .non H', rt := Q } (start N vs) H) : CalB P w K mg base c (k + 1) x ps sp := by
  obtain ⟨f, fd, F, hm⟩ := T.ex
  obtain ⟨oc, od, kV, doc, pm, an, cdv, ct, osl, rfl, l, cd⟩ := id F.ex
  exact ⟨f, _, fnB_of l cd S len (hbody f cdv), hm, F.kp, F.binds hb⟩
theorem pass01 {P : Program} {w : World} {X : Cx} : Passes (CX1 P w) X E0 := fun _ _ _ _ _ _ _ h => by
  obtain ⟨_, _, _, _, _, _, _, _, _, _, _, _, q⟩ := h
  exact q.elim
section
variable {X : Cx} {c : Bool} {k : Nat} {ps : List Str} {sp : Sp} {x : Str} {p pos : Pos} {e : Expr} {es : List Expr} {t : TA} {E : XK}
theorem run_fnB {pins : List (Addr × Obj)} {σ : St} {H : Hp} {s : Shared} {Q : VK} {us : List Value} {vs : List V} {f : Addr} {fd : FuncData} {E' : Value → Shared → Prop} (F : FnB X.prog X.w X.K X.mg X.base c k f fd ps sp) (hr : RoomB c k X.A) (hb : Binds X.K fd ps [])
    (I : Inv X pins σ H s) (r : Vals vs us) (h : sp (vs ++ []) H Q E) (hx : ∀ e s', CX1 X.prog X.w X.stack H s E e s' → E' e s') : wpAny (model X.prog X.w) X.A (call (.ref f) us) (EP X pins σ Q) E' s := by
  have r2 : Vals (vs ++ []) (us ++ []) := r.append .nil
  have hl : (us ++ []).length = ps.length := by rw [← r2.length]; exact F.len _ _ _ _ h
  refine wpAny_call (codeAny_mono (F.run X.A X.stack s H ⟨us, []⟩ (us ++ []) (vs ++ []) Q E hr I.env0 (hb s us I.kIn hl) r2 h) fun r s' hq => ?_)
  cases r with
  | error e => exact hx e s' hq
  | ok fl =>
    cases fl with
    | ret u => exact I.after hq
    | next => exact False.elim hq
    | brk => exact False.elim hq
    | cont => exact False.elim hq
theorem pe_cB (C : CalB X.prog X.w X.K X.mg X.base c k x ps sp) (hr : RoomB c k X.A) (hx : Passes (CX1 X.prog X.w) X E) (ha : PA X (e :: es) t) (hg : Gl X x := by rfl) (hdb : (x == ("__debug__" : Str)) = false := by decide)
    (he : starEach (e :: es) X.env = (false, eval e X.env) :: starEach es X.env := by rfl) (hpl : (backTo pos (starEach es X.env)).any (·.1) = false := by rfl) :
    PE X (.Call (.Name x p) (e :: es) [] pos) (tCall sp [] E t) := by
  obtain ⟨f, fd, F, hm, hk, hb⟩ := C.ex
  intro pins s σ H Q I h
  refine wpAny_Call_Name_kw (ld_glob I hg hm ?_ hdb)
  refine PySem.W.callWith_K (h₀ := X.base) I.ok.mod.kin hk (thn (ha pos pins s σ H _ I h) fun us s1 ⟨vs, H1, I1, r, q⟩ => ⟨I1.kIn, ?_⟩) he hpl
  exact run_fnB F hr hb I1 r q fun e s' h => hx pins σ H1 s1 e s' I1 h
end
end L2
namespace L2
open PySem PySem.Spec PyProof.Rows
abbrev Cx.hnd (X : Cx) (a : Addr) : Cx := { X with A := X.A.mark (some (.ref a)), calm := false, xe := fun _ _ => False }
section
variable {X : Cx} {pins : List (Addr × Obj)} {σ : St} {H : Hp} {s : Shared}
theorem Inv.hnd (I : Inv X pins σ H s) (a : Addr) : Inv (X.hnd a) pins σ H s :=
  ⟨⟨I.ok.mod, I.ok.kind, I.ok.glob, I.ok.blt, I.ok.above, I.ok.inj, I.ok.has, I.ok.cab, (fun z => nomatch z), I.ok.frames, I.ok.stk, I.ok.exf, I.ok.bs, I.ok.bsz, I.ok.noex, I.ok.exfs, I.ok.funs, I.ok.frf⟩, I.os, I.bare, I.base, I.loc, I.cell, I.free, I.freeC, I.pin, I.hok, I.len⟩
theorem Inv.unhnd {a : Addr} (I0 : X.Ok) (I : Inv (X.hnd a) pins σ H s) : Inv X pins σ H s := ⟨I0, I.os, I.bare, I.base, I.loc, I.cell, I.free, I.freeC, I.pin, I.hok, I.len⟩
theorem gone_ok {M : Model} {A : Around} {E : Value → Shared → Prop} {i : Nat} {n : Str} {pos : Pos} {Q : Unit → Shared → Prop} (I : Inv X pins σ H s) (hN : X.N.Nodup) (hi : X.N[i]? = some n) (hk : X.env.scope.names.lookup n = some .local)
    (h : ∀ s', Inv X pins (σ.set i none) H s' → Q () s') : wpAny M A (do bindName X.env n .none; unbindBehindTheSuite X.env n pos) Q E s := by
  obtain ⟨m, hn, hl⟩ := id I.loc
  have hcls : (X.env.scope.kind == .class || (X.env.scope.kind == .module && X.env.locals != X.env.globals)) = false := by rw [I.ok.kind]; rfl
  have hiσ : i < σ.length := by rw [I.len]; exact (List.getElem?_eq_some_iff.mp hi).1
  have cne := I.cne
  refine wpAny_nameGoes_keeps hk hn hcls fun h' v hn' hs => ?_
  obtain ⟨oL, _, _, hoL, _⟩ := id hn
  have tracked : HOk X.prog X.w H h' := fun b ob e => by
    refine (I.hok b ob e).stay (fun c w' hc q => (hs.2 c ?_).trans q) (fun _ q => q) fun _ _ q => q
    intro z
    have hfree := I.free
    rw [← z] at hfree
    rcases hc with hc | hc
    · rw [hc] at hfree; rw [hfree] at e; cases e
    · rw [hfree] at hc; cases hc
  refine h _ ⟨I.ok, I.os, I.bare, ⟨fun b o e n hb hx => ?_, fun b o e n hb hx => ?_, I.base.free, fun b o e hx => ?_, I.base.tups, I.base.frzs, I.base.tbls⟩, ⟨_, hn', fun j y v' e1 e2 e3 => ?_⟩, fun y c e => ?_, I.free, I.freeC, fun p hp => ?_, tracked, by simpa using I.len⟩
  · exact (hs.2 b (Nat.ne_of_lt (Nat.lt_of_lt_of_le (Heap.lt_size e) I.ok.above))).trans (I.base.keep b o e n hb hx)
  · obtain ⟨sl, e1⟩ := I.base.slot b o e n hb hx
    exact ⟨sl, (hs.2 b (Nat.ne_of_lt (Nat.lt_of_lt_of_le (Heap.lt_size e) I.ok.above))).trans e1⟩
  · obtain ⟨o', e1⟩ := I.base.there b o e hx
    exact ⟨o', (hs.2 b (Nat.ne_of_lt (Nat.lt_of_lt_of_le (Heap.lt_size e) I.ok.above))).trans e1⟩
  · by_cases hj : j = i
    · subst hj
      rw [List.getElem?_set_self hiσ] at e2
      cases e2
    · rw [List.getElem?_set_ne (Ne.symm hj)] at e2
      obtain ⟨u', r', q⟩ := hl j y v' e1 e2 e3
      refine ⟨u', r', ?_⟩
      rcases q with ⟨k, e⟩ | ⟨k, c, e, z⟩
      · refine .inl ⟨k, ?_⟩
        have : y ≠ n := fun e => hj (nodup_ix hN e1 (e ▸ hi))
        simp [this, e]
      · exact .inr ⟨k, c, e, z.sameBut hs (cne y c e)⟩
  · obtain ⟨w', z⟩ := I.cell y c e
    exact ⟨w', z.sameBut hs (cne y c e)⟩
  · obtain ⟨e, n, ne, nf, d⟩ := I.pin p hp
    exact ⟨(hs.2 p.1 ne).trans e, n, ne, nf, d⟩
theorem inv_caughtG {H' : Hp} {h'' : Heap} {s' : Shared} {a : Addr} {φ : Heap → Prop} (I : Inv X pins σ H s) (ho : s'.os = s.os) (hg : AllBare s'.gens) (u : Un (frs X.stack) [] H H' s.heap h'' ∧ HOk X.prog X.w H' h'')
    (na : H' a = none) (nw : s.heap.get? a = none) (ex : φ h'') (hob : ∃ o, h''.get? a = some o) (sta : ∀ h1 h2 : Heap, φ h1 → (∀ o, h1.get? a = some o → h2.get? a = some o) → φ h2) : Inv X pins σ (upd H' a (.ext φ)) { s' with heap := h'' } := by
  refine inv_behind I ho hg ⟨⟨u.1.keep, u.1.slot, fun b o e n hx => ?_, u.1.there, fun b xs e => ?_, fun b o x e => ?_, fun b ps e => ?_⟩, fun b o e => ?_⟩
  · have : b ≠ a := fun z => by rw [z, nw] at e; cases e
    rw [upd_ne this]
    exact u.1.free b o e n hx
  · have q := u.1.tups b xs e
    rw [upd_ne (ne_of_none q na)]; exact q
  · have q := u.1.frzs b o x e
    rw [upd_ne (ne_of_none q na)]; exact q
  · obtain ⟨m, q⟩ := u.1.tbls b ps e
    exact ⟨m, by rw [upd_ne (ne_of_none q na)]; exact q⟩
  · by_cases hb : b = a
    · subst hb
      rw [upd_same] at e
      cases e
      exact ⟨ex, hob, sta⟩
    · rw [upd_ne hb] at e
      exact (u.2 b o e).stay (fun c v _ q => q) (fun c q => by rw [upd_ne (ne_of_none q na)]; exact q) fun c xs q => by rw [upd_ne (ne_of_none q na)]; exact q
theorem PA.any {es : List Expr} {t : TA} (h : PA X.nox es t) {E' : Value → Shared → Prop} (pos : Pos) {Q : List V → Hp → Prop} (I : Inv X pins σ H s) (q : t σ H Q) :
    wpAny (model X.prog X.w) X.A (spliced (backTo pos (starEach es X.env))) (AP X pins σ Q) E' s :=
  wpAny_mono (h pos pins s σ H Q (I.wish _) q) (fun us s1 ⟨vs, H1, I1, r, q1⟩ => ⟨vs, H1, I1.unwish, r, q1⟩) fun _ _ z => z.elim
end
abbrev Ends.gone (D : Ends) (i : Nat) : Ends := { nx := fun σ H => D.nx (σ.set i none) H, rt := D.rt, bk := fun σ H => D.bk (σ.set i none) H, ct := fun σ H => D.ct (σ.set i none) H }
section
variable {X : Cx} {pins : List (Addr × Obj)} {σ : St} {H H2 : Hp} {s s' : Shared} {a C Bc : Addr} {t : Option Addr} {B : Heap} {D : Ends} {xc n : Str} {np hp : Pos} {b₀ : Stmt} {suite : List Stmt} {rest : List ExceptHandler} {ts : TS} {i : Nat}
theorem handle_asG {φ : Heap → Prop} (hφ : ∀ h o, h.get? a = some o → o.cls = .ref C → o.dict = t → (∃ vs, o.data = .fields vs) → φ h) (sta : ∀ h1 h2 : Heap, φ h1 → (∀ o, h1.get? a = some o → h2.get? a = some o) → φ h2) (I : Inv X pins σ H s) (hst : X.stack = X.env :: X.outer) (hf : X.env.frame = some X.env.locals) (os : s'.os = s.os) (bare : AllBare s'.gens)
    (clo : ∀ h'' : Heap, B.StaysIn h'' → s'.heap.UpToSlots h'' → Un (frs X.stack) [] H H2 s.heap h'' ∧ HOk X.prog X.w H2 h'') (fly : FlyD B X.stack a (.ref C) t .none s'.heap) (na : H2 a = none) (nw : s.heap.get? a = none)
    (hg : Gl X xc) (hcl : X.mg xc = some (.ref Bc)) (hm : PySem.W.exmOne X.K (.ref C) (.ref Bc) = some true) (hs : PSs (X.hnd a) (b₀ :: suite) ts) (hN : X.N.Nodup) (hi : X.N[i]? = some n) (hloc : X.env.scope.names.lookup n = some .local)
    (q : ts (D.gone i) (σ.set i (some (.ref a))) (upd H2 a (.ext φ))) (hdb : (xc == ("__debug__" : Str)) = false := by decide) :
    wpAny (model X.prog X.w) X.A (noteFrame (.ref a) X.env) (fun _ s₂ => wpAny (model X.prog X.w) X.A (setFlight (.ref a) none) (fun _ s₃ =>
      wpAny (model X.prog X.w) X.A (handleBy (.ref a) X.env (.ExceptHandler (some (.Name xc np)) (some n) (b₀ :: suite) hp :: rest)) (SP X pins D) X.xe s₃) X.xe s₂) X.xe s' := by
  have hfr : X.A.frames = some (X.env :: X.outer) := by rw [← hst]; exact I.ok.frames
  have fly' : FlyD B (X.env :: X.outer) a (.ref C) t .none s'.heap := by rw [← hst]; exact fly
  refine note_next hfr hf fly' fun h4 held4 up4 => ?_
  refine fl_none (s := { s' with heap := h4 }) held4 fun h5 fly5 up5 => ?_
  have J5 : Inv X pins σ H2 { s' with heap := h5 } := inv_behind I os bare (clo h5 fly5.1 (up4.trans up5))
  obtain ⟨ob, hob, hobc, _⟩ := fly5.there
  have LT : PySem.W.Looks (model X.prog X.w) h5 (typeOf (.ref a)) (.ref C) := hobc ▸ (PySem.W.Looks.ld hob).andThen .now
  refine wpAny_handleBy_cons (codeAny_handlers_test (ld_glob (X := X.hnd a) (J5.hnd a) hg hcl ?_ hdb)) (by intro q; cases q)
  refine PySem.W.exm_one (K := X.K) J5.kIn LT hm _ _ _ _ (fun _ _ e => e) ?_
  refine codeAny_handlers_suite_as ?_
  refine fl_none (s := { s' with heap := h5 }) fly5 fun h6 fly6 up6 => ?_
  obtain ⟨ob6, hob6, hobc6, hobd6, hobv6⟩ := fly6.there
  have J7 : Inv X pins σ (upd H2 a (.ext φ)) { s' with heap := h6 } := inv_caughtG I os bare (clo h6 fly6.1 ((up4.trans up5).trans up6)) na nw (hφ _ _ hob6 hobc6 hobd6 hobv6) ⟨ob6, hob6⟩ sta
  refine store_ok (X := X.hnd a) (J7.hnd a) hN hi (.inl hloc) (show RelV (.ref a) (Value.ref a) from rfl) (fun s8 J8 => ?_) (.inr hloc)
  refine wpAny_mono (hs pins s8 _ _ (D.gone i) J8 q) (fun f s9 hq => ?_) (fun x s9 z => z.elim)
  cases f with
  | next =>
    obtain ⟨σ', H', J, q⟩ := hq
    exact gone_ok (J.unhnd I.ok) hN hi hloc fun s10 J10 => ⟨_, _, J10, q⟩
  | ret u =>
    obtain ⟨v, σ', H', J, r, q⟩ := hq
    exact gone_ok (J.unhnd I.ok) hN hi hloc fun s10 J10 => ⟨v, _, _, J10, r, q⟩
  | brk =>
    obtain ⟨σ', H', J, q⟩ := hq
    exact gone_ok (J.unhnd I.ok) hN hi hloc fun s10 J10 => ⟨_, _, J10, q⟩
  | cont =>
    obtain ⟨σ', H', J, q⟩ := hq
    exact gone_ok (J.unhnd I.ok) hN hi hloc fun s10 J10 => ⟨_, _, J10, q⟩
end
section
variable {prog : Program} {w : World} {A : Around} {E : Value → Shared → Prop} {s : Shared} {K : PySem.W.Frag} {x D : Addr}
theorem ExcAt.type {M : Model} {h : Heap} (I : ExcAt x D h) : PySem.W.Looks M h (typeOf (.ref x)) (.ref D) := by
  obtain ⟨o, h1, h2⟩ := I
  exact h2 ▸ (PySem.W.Looks.ld h1).andThen .now
structure ExcK (K : PySem.W.Frag) (D : Addr) : Prop where
  cl : (PySem.W.clsIn K D).isSome = true
  ga : PySem.W.findIn K (.ref D) "__getattribute__" = some (some (.builtin "BaseException.__getattribute__"))
  gt : PySem.W.findIn K (.ref D) "__getattr__" = some none
  ha : PySem.W.findIn K (.ref D) "__class__" = some (some (.builtin "object.__class__"))
  hn : PySem.W.specialIn K (.builtin "object.__class__") "__get__" = some (some (.builtin "getset_descriptor.__get__"))
  ht : PySem.W.takesIn K (.builtin "object.__class__") = some true
  hm : PySem.W.mroIn K D (.type "object") = some true
  hb : PySem.W.mroIn K D (.type "BaseException") = some true
end
end L2
namespace L2
open PySem PySem.Spec PySem.Calls PyProof.Rows PySem.W Builtin Builtin.ObjectAttr Builtin.Getset_descriptor
section
variable {prog : Program} {w : World} {A : Around} {E : Value → Shared → Prop} {s : Shared} {K : PySem.W.Frag} {x D : Addr}
theorem exc_find {M : Model} {h : Heap} (X : K.In h) (F : ExcK K D) : Looks M h (find (.ref x) (.ref D) "__class__") (.bind (.builtin "getset_descriptor.__get__") (.builtin "object.__class__")) := by
  have a1 := looks_findIn (M := M) X F.ha
  have a2 : Looks M h (getOf (some (.builtin "object.__class__"))) (some (.builtin "getset_descriptor.__get__")) := looks_specialIn X F.hn
  have a3 : Looks M h (dataDescriptor? (some (.builtin "object.__class__")) (some (.builtin "getset_descriptor.__get__"))) (some (.builtin "getset_descriptor.__get__", .builtin "object.__class__")) := (looks_takesIn (M := M) X F.ht).andThen .now
  exact a1.andThen (a2.andThen (a3.andThen (Looks.tag .now)))
theorem exc_get {R : Result → Shared → Prop} {tp : Value} (X : K.In s.heap) (I : ExcAt x D s.heap) (F : ExcK K D) (h : R (.ok (.ret (.ref D))) s) :
    codeAny (model prog w) A (.call (.builtin "getset_descriptor.__get__") ⟨[.builtin "object.__class__", .ref x, tp], []⟩) R s := by
  obtain ⟨hh, g, dr, t, os⟩ := s
  have y0 := ExcAt.type (M := model prog w) I
  have y1 := looks_mroIn (M := model prog w) X F.hm
  refine codeAny_call_builtin KF.slot_gs.plain KF.entry_gs (KF.slot_gs.check _ _ _ _ _ _ _ _ KF.type_class (KF.args_gs _ _ _) ?_)
  unfold Builtin.«getset_descriptor.__get__» descrGet
  rw [dga_obj]
  refine wpAny_bind (wpAny_pure ?_)
  unfold descrGetter descrCheckInstance descrNameAndClass isInstance
  simp only [KF.owner_class]
  repeat lk
  refine ⟨Code.quiet_builtin _ (by decide +kernel), codeAny_builtin KF.entry_class ?_⟩
  unfold Builtin.«object.__class__» shownTypeOf
  repeat lk
  exact h
theorem exc_check {M : Model} {nameV : Value} {Q : Unit → Shared → Prop} (X : K.In s.heap) (I : ExcAt x D s.heap) (F : ExcK K D) (hq : Q () s) : wpAny M A (checkBuiltinCall "BaseException.__getattribute__" ⟨[.ref x, nameV], []⟩) Q E s := by
  obtain ⟨hh, g, d, t, os⟩ := s
  have y0 := ExcAt.type (M := M) I
  have y1 := looks_mroIn (M := M) X F.hb
  have hk : builtinKind "BaseException.__getattribute__" = some .slot := by decide +kernel
  have hsplit : splitId "BaseException.__getattribute__" = some ("BaseException", "__getattribute__") := by decide +kernel
  have ha := PySem.F.args_bexc_ga (.ref x) nameV
  simp only [checkBuiltinCall, hk, hsplit]
  refine wpAny_bind ?_
  unfold isInstance
  repeat (first | lk | wp_step)
  exact hq
theorem exc_entry {Q : Fin → Shared → Prop} {tk : Tok} (X : K.In s.heap) (I : ExcAt x D s.heap) (F : ExcK K D) (hq : Q (.done (.ret (.ref D))) s) :
    wpAny (model prog w) A (Builtin.«object.__getattribute__» ⟨[.ref x, .str "__class__" tk], []⟩) Q E s := by
  obtain ⟨hh, g, d, t, os⟩ := s
  have y0 := ExcAt.type (M := model prog w) I
  have y2 := exc_find (M := model prog w) (x := x) X F
  unfold Builtin.«object.__getattribute__»
  repeat (any_goals (first | assumption | (with_reducible refine y0.at ?_) | (with_reducible refine y2.at ?_) | wp_step))
  refine exc_get (s := ⟨hh, g, d, t, os⟩) X I F ?_
  repeat (any_goals (first | assumption | (with_reducible refine y0.at ?_) | (with_reducible refine y2.at ?_) | wp_step))
theorem exc_class {Q : Option Value → Shared → Prop} (X : K.In s.heap) (I : ExcAt x D s.heap) (F : ExcK K D) (q : Q (some (.ref D)) { s with toks := s.toks + 1 }) :
    wpAny (model prog w) A (getAttr? (.ref x) "__class__") Q E s := by
  obtain ⟨hh, g, d, t, os⟩ := s
  have y0 := ExcAt.type (M := model prog w) I
  have y1 := looks_findIn (M := model prog w) X F.ga
  have y3 := looks_findIn (M := model prog w) X F.gt
  have f3 := PySem.F.excAttr_ValueError.ga.bind (.ref x)
  have hx1 : (onTheHeap (Value.ref D) && Value.builtin "BaseException.__getattribute__" == Value.builtin "object.__getattribute__") = false := by
    rw [show (Value.builtin "BaseException.__getattribute__" == Value.builtin "object.__getattribute__") = false by decide +kernel]; rfl
  unfold getAttr? getAttrBy? getAttrBy
  refine wpAny_bind (wpAny_mkText (wpAny_bind (wpAny_attempt (wpAny_holding (wpAny_bind (y0.at (wpAny_bind (y1.at ?_))))))))
  dsimp only
  rw [hx1]
  rw [if_neg Bool.false_ne_true]
  unfold getAttrByItsOwn hookBefore
  repeat (any_goals (first | assumption | wp_step | lk))
  refine codeAny_call_builtin PySem.F.excAttr_ValueError.ga.plain PySem.F.entry_bexc_ga (exc_check (s := ⟨hh, g, d, t + 1, os⟩) X I F (exc_entry (s := ⟨hh, g, d, t + 1, os⟩) X I F ?_))
  repeat (any_goals (first | assumption | wp_step | lk))
theorem kitx_exc (F : ExcK K D) : KitX K (.ref x) (.ref D) (ExcAt x D) where
  ty := fun _ _ _ I => I.type
  it := fun M h X _ => by
    obtain ⟨cd, hc⟩ := Option.isSome_iff_exists.mp F.cl
    unfold clsIn at hc
    split at hc
    · rename_i c' d' cd' sl' ho
      intro A' Q' E' s' k q
      unfold isType loadHead
      exact wpAny_bind (wpAny_loadPart (k _ _ (X _ _ ho)) (wpAny_pure q))
    · cases hc
  ne := fun h tp dd its n sl X htp => by
    obtain ⟨cd, hc⟩ := Option.isSome_iff_exists.mp F.cl
    refine Bool.eq_false_iff.mpr fun q => ?_
    have e : D = tp := Value.ref.inj (beq_iff_eq.mp q)
    subst e
    unfold clsIn at hc
    split at hc
    · rename_i c' d' cd' sl' ho
      have z := (X _ _ ho).symm.trans htp
      cases z
    · cases hc
  ca := fun X I k => exc_class X I F k
end
end L2
namespace Fr
theorem absE (i : Int) : (if i < 0 then -i else i) = (i.natAbs : Int) := by omega
theorem gcd_turn (m n : Nat) : Nat.gcd n (m % n) = Nat.gcd m n := by
  rw [Nat.gcd_comm n (m % n), ← Nat.gcd_rec n m, Nat.gcd_comm]
def gcd (a b : Int) : Int := ((Nat.gcd a.natAbs b.natAbs : Nat) : Int)
theorem gcd_nn (a b : Int) : 0 ≤ gcd a b := Int.natCast_nonneg _
theorem gcd_pos {a b : Int} (h : b ≠ 0) : 0 < gcd a b := by
  unfold gcd
  have : 0 < Nat.gcd a.natAbs b.natAbs := Nat.gcd_pos_of_pos_right _ (by omega)
  omega
theorem gcd_le {a b : Int} (h : b ≠ 0) : gcd a b ≤ (b.natAbs : Int) := by
  unfold gcd
  have : Nat.gcd a.natAbs b.natAbs ≤ b.natAbs := Nat.gcd_le_right _ (by omega)
  omega
theorem gcd_dvd_l (a b : Int) : gcd a b ∣ a := by
  unfold gcd
  exact Int.ofNat_dvd_left.mpr (Nat.gcd_dvd_left _ _)
theorem gcd_dvd_r (a b : Int) : gcd a b ∣ b := by
  unfold gcd
  exact Int.ofNat_dvd_left.mpr (Nat.gcd_dvd_right _ _)
def sg (t b : Int) : Int := if b < 0 then 0 - gcd t b else gcd t b
def lt (t b : Int) : Int := t.fdiv (sg t b)
def lb (t b : Int) : Int := b.fdiv (sg t b)
theorem sg_ne {t b : Int} (h : b ≠ 0) : sg t b ≠ 0 := by
  unfold sg
  have := gcd_pos (a := t) h
  split <;> omega
theorem sg_abs {t b : Int} : (sg t b).natAbs = (gcd t b).natAbs := by
  unfold sg
  split <;> omega
theorem sg_dvd_t (t b : Int) : sg t b ∣ t := by
  unfold sg
  split
  · rw [Int.zero_sub]; exact Int.neg_dvd.mpr (gcd_dvd_l t b)
  · exact gcd_dvd_l t b
theorem sg_dvd_b (t b : Int) : sg t b ∣ b := by
  unfold sg
  split
  · rw [Int.zero_sub]; exact Int.neg_dvd.mpr (gcd_dvd_r t b)
  · exact gcd_dvd_r t b
theorem fdiv_mul {a g : Int} (h : g ∣ a) : a.fdiv g * g = a := by
  rw [Int.fdiv_eq_ediv_of_dvd h]
  exact Int.ediv_mul_cancel h
theorem lt_mul (t b : Int) : lt t b * sg t b = t := fdiv_mul (sg_dvd_t t b)
theorem lb_mul (t b : Int) : lb t b * sg t b = b := fdiv_mul (sg_dvd_b t b)
theorem lb_pos {t b : Int} (h : b ≠ 0) : 0 < lb t b := by
  have e := lb_mul t b
  have g := gcd_pos (a := t) h
  have hs : sg t b = if b < 0 then 0 - gcd t b else gcd t b := rfl
  rcases Int.lt_trichotomy (lb t b) 0 with z | z | z
  · exfalso
    by_cases hb : b < 0
    · rw [if_pos hb] at hs
      have : 0 < lb t b * sg t b := by
        rw [hs]
        exact Int.mul_pos_of_neg_of_neg z (by omega)
      omega
    · rw [if_neg hb] at hs
      have : lb t b * sg t b < 0 := by
        rw [hs]
        exact Int.mul_neg_of_neg_of_pos z g
      omega
  · rw [z] at e; omega
  · exact z
theorem low_same {t b : Int} (h : 0 < b) : (lt t b = t ∧ lb t b = b) ↔ gcd t b = 1 := by
  have hs : sg t b = gcd t b := if_neg (by omega)
  have g := gcd_pos (a := t) (b := b) (by omega)
  have e := lb_mul t b
  constructor
  · rintro ⟨-, h2⟩
    rw [h2, hs] at e
    have : b * gcd t b = b * 1 := by omega
    exact Int.eq_of_mul_eq_mul_left (by omega) this
  · intro h1
    unfold lt lb
    rw [hs, h1, Int.fdiv_one, Int.fdiv_one]
    exact ⟨rfl, rfl⟩
theorem log2_small {n k : Nat} (h : n < 2 ^ k) (hk : 0 < k) : n.log2 < k := by
  by_cases z : n = 0
  · subst z; simpa using hk
  · exact (Nat.log2_lt z).mpr h
theorem draw_abs {c m : Int} (hm : 0 ≤ m) : (c % (2 * m + 1) - m).natAbs ≤ m.natAbs := by
  have h1 := Int.emod_nonneg c (b := 2 * m + 1) (by omega)
  have h2 := Int.emod_lt_of_pos c (b := 2 * m + 1) (by omega)
  omega
theorem lb_abs {t b : Int} (h : b ≠ 0) : (lb t b).natAbs ≤ b.natAbs := by
  have e := lb_mul t b
  have g := sg_ne (t := t) h
  have h1 : (lb t b).natAbs * (sg t b).natAbs = b.natAbs := by rw [← Int.natAbs_mul, e]
  have h2 : 1 ≤ (sg t b).natAbs := by omega
  calc (lb t b).natAbs = (lb t b).natAbs * 1 := (Nat.mul_one _).symm
    _ ≤ (lb t b).natAbs * (sg t b).natAbs := Nat.mul_le_mul_left _ h2
    _ = b.natAbs := h1
end Fr
namespace Fr
theorem gcd_comm' (t b : Int) : ((b.gcd t : Nat) : Int) = gcd t b := by
  unfold gcd Int.gcd
  rw [Nat.gcd_comm]
theorem lt_num {t b : Int} (h : b ≠ 0) : lt t b = (Rat.divInt t b).num := by
  have g0 := gcd_pos (a := t) h
  rw [Rat.num_divInt, gcd_comm']
  have e := lt_mul t b
  have d : gcd t b ∣ b.sign * t := Int.dvd_mul_of_dvd_right (gcd_dvd_l t b)
  refine (Int.ediv_eq_of_eq_mul_left (by omega) ?_).symm
  have hs : sg t b = b.sign * gcd t b := by
    unfold sg
    rcases Int.lt_trichotomy b 0 with z | z | z
    · rw [if_pos z, Int.sign_eq_neg_one_of_neg z]; omega
    · exact absurd z h
    · rw [if_neg (by omega), Int.sign_eq_one_of_pos z]; omega
  have h2 : b.sign * b.sign = 1 := by
    rcases Int.lt_trichotomy b 0 with z | z | z
    · rw [Int.sign_eq_neg_one_of_neg z]; rfl
    · exact absurd z h
    · rw [Int.sign_eq_one_of_pos z]; rfl
  calc b.sign * t = b.sign * (lt t b * sg t b) := by rw [e]
    _ = (b.sign * b.sign) * (lt t b * gcd t b) := by rw [hs]; grind
    _ = lt t b * gcd t b := by rw [h2]; omega
theorem lb_den {t b : Int} (h : b ≠ 0) : lb t b = ((Rat.divInt t b).den : Int) := by
  have e1 := lt_mul t b
  have e2 := lb_mul t b
  have s0 := sg_ne (t := t) h
  have n := lt_num (t := t) h
  have c : (Rat.divInt t b).num * b = t * ((Rat.divInt t b).den : Int) := by
    have z : Rat.divInt (Rat.divInt t b).num ((Rat.divInt t b).den : Int) = Rat.divInt t b := Rat.num_divInt_den _
    have d0 : (((Rat.divInt t b).den : Nat) : Int) ≠ 0 := by
      have := (Rat.divInt t b).den_nz
      omega
    exact (Rat.divInt_eq_divInt_iff d0 h).mp z
  by_cases t0 : t = 0
  · subst t0
    have : Rat.divInt 0 b = 0 := Rat.zero_divInt b
    rw [this]
    have g : gcd 0 b = (b.natAbs : Int) := by unfold gcd; simp
    have bp := lb_pos (t := 0) h
    have a1 : (lb 0 b).natAbs * (sg 0 b).natAbs = b.natAbs := by rw [← Int.natAbs_mul, e2]
    rw [sg_abs, g] at a1
    have b0 : 0 < b.natAbs := by omega
    have a2 : (lb 0 b).natAbs = 1 := by
      have : (lb 0 b).natAbs * b.natAbs = 1 * b.natAbs := by simpa using a1
      exact Nat.eq_of_mul_eq_mul_right b0 this
    show lb 0 b = 1
    omega
  · rw [← n] at c
    have h1 : t * lb t b = t * ((Rat.divInt t b).den : Int) := by
      rw [← c]
      calc t * lb t b = (lt t b * sg t b) * lb t b := by rw [e1]
        _ = lt t b * (lb t b * sg t b) := by grind
        _ = lt t b * b := by rw [e2]
    exact Int.eq_of_mul_eq_mul_left t0 h1
end Fr
namespace Fr
theorem lt_abs (t b : Int) (h : b ≠ 0) : (lt t b).natAbs ≤ t.natAbs := by
  have e := lt_mul t b
  have g := sg_ne (t := t) h
  have h1 : (lt t b).natAbs * (sg t b).natAbs = t.natAbs := by rw [← Int.natAbs_mul, e]
  have h2 : 1 ≤ (sg t b).natAbs := by omega
  calc (lt t b).natAbs = (lt t b).natAbs * 1 := (Nat.mul_one _).symm
    _ ≤ (lt t b).natAbs * (sg t b).natAbs := Nat.mul_le_mul_left _ h2
    _ = t.natAbs := h1
end Fr
namespace L2
open PySem PySem.Spec PyProof.Rows
theorem TopFn.calN {c : Bool} {P : Program} {w : World} {K : PySem.W.Frag} {mg : Str → Option Value} {base : Heap} {x : Str} {st : Stmt} {N ps : List Str} {k : Nat} {sp : Sp} (T : TopFn K mg x st) (S : FnScope N ps (defScope st))
    (hb : ∀ (kV doc pm : Value) (an : Option Addr) (cdv ct : Value) (us : List Value), us.length = ps.length → bindArgs (PySem.W.fnOf x x (defArgs st) (defBody st) (defScope st) .none kV doc pm an cdv ct) ⟨us, []⟩ = pure (ps.zip us))
    (len : ∀ vs H Q E, sp vs H Q E → vs.length = ps.length)
    (hbody : ∀ (f : Addr) (cdv : Value) (A : Around) (outer : List Env) (s : Shared) (H : Hp) (vs : List V) (Q : VK) (E : XK), RoomB c k (A.deeper (envOfC x (defScope st) s.heap.objs.size f cdv)) → sp vs H Q E →
      ∃ t, PSs (cxB c P w K mg base N x (defScope st) f cdv A outer s H E).nox (defBody st) t ∧ t { nx := fun _ H' => Q .non H', rt := Q } (start N vs) H) : CalB P w K mg base c (k + 1) x ps sp :=
  T.calB S hb len fun f cdv A outer s H vs Q E hr h => by
    obtain ⟨t, h1, h2⟩ := hbody f cdv A outer s H vs Q E hr h
    exact ⟨t, h1.nox, h2⟩
theorem bt_ValueError : bootBuiltins "ValueError" = some (.type "ValueError") := by decide +kernel
theorem Fun.okB {c : Bool} {P : Program} {w : World} {K : PySem.W.Frag} {mg : Str → Option Value} {base : Heap} {x : Str} {st : Stmt} {f : Addr} {fd : FuncData} {N ps : List Str} {k : Nat} {sp : Sp} (F : Fun K x x st f fd) (S : FnScope N ps (defScope st))
    (len : ∀ vs H Q E, sp vs H Q E → vs.length = ps.length)
    (hbody : ∀ (cdv : Value) (A : Around) (outer : List Env) (s : Shared) (H : Hp) (vs : List V) (Q : VK) (E : XK), RoomB c k (A.deeper (envOfC x (defScope st) s.heap.objs.size f cdv)) → sp vs H Q E →
      ∃ t, PSs (cxB c P w K mg base N x (defScope st) f cdv A outer s H E).nox (defBody st) t ∧ t { nx := fun _ H' => Q .non H', rt := Q } (start N vs) H) : FnB P w K mg base c (k + 1) f fd ps sp := by
  obtain ⟨oc, od, kV, doc, pm, an, cdv, ct, osl, rfl, l, cd⟩ := id F.ex
  exact fnB_of l cd S len fun A outer s H vs Q E hr h => by
    obtain ⟨t, h1, h2⟩ := hbody cdv A outer s H vs Q E hr h
    exact ⟨t, h1.nox, h2⟩
end L2
namespace Lib
open PySem L2
def lim : Nat := 2 ^ 9000
theorem lim_log {n : Nat} (h : n < lim) : n.log2 < 9000 := Fr.log2_small h (by decide)
def spDiv : Sp := fun vs H Q _ => ∃ a b : Int, vs = [.int a, .int b] ∧ Q (.int (Fr.gcd a b)) H
def spLaw (K : PySem.W.Frag) : Sp := fun vs H Q _ => ∃ (a : Addr) (ns : List Int), vs = [.ref a] ∧ SqL K H a (ns.map V.int) ∧ ns.length ≤ 63 ∧ ∀ H', Q (.bl true) H'
theorem decI (i j : Int) : decide (V.int i = V.int j) = decide (i = j) := by
  by_cases h : i = j
  · subst h; simp
  · have : ¬ V.int i = V.int j := fun z => h (V.int.inj z)
    rw [decide_eq_false h, decide_eq_false this]
theorem atI_in {xs : List V} {r : Int} (h0 : 0 ≤ r) (h1 : r < (xs.length : Int)) : ∃ v, atI xs r = some v ∧ v ∈ xs := by
  have hj : r.toNat < xs.length := by omega
  have e : ((r.toNat : Nat) : Int) = r := by omega
  have q : atI xs ((r.toNat : Nat) : Int) = some xs[r.toNat] := atI_nat (List.getElem?_eq_getElem hj)
  rw [e] at q
  exact ⟨_, q, List.getElem_mem hj⟩
theorem cut_ints (ns : List Int) (lo hi : Option Int) : ∀ x ∈ cutV (ns.map V.int) lo hi, ∃ z : Int, x = .int z := fun x hx => by
  unfold cutV at hx
  have h1 := List.mem_of_mem_drop (List.mem_of_mem_take hx)
  obtain ⟨z, _, rfl⟩ := List.mem_map.mp h1
  exact ⟨z, rfl⟩
def forBody (s : Stmt) : List Stmt := match s with
  | .For _ _ b _ _ => b
  | _ => []
theorem eqv_pair (a b c d : Int) : PyData.eqv (.tuple [.int a, .int b]) (.tuple [.int c, .int d]) = (decide (a = c) && decide (b = d)) := by
  simp only [PyData.eqv, PyData.eqvAll, Bool.and_true]
  by_cases h1 : a = c <;> by_cases h2 : b = d <;> simp [h1, h2]
end Lib
namespace Lib
open PySem L2
abbrev frO (q : Rat) : HO := .tup [.int q.num, .int (q.den : Int)]
theorem denp (q : Rat) : (0 : Int) < ((q.den : Nat) : Int) := by have := q.den_nz; omega
theorem frO_of {t b : Int} (h : b ≠ 0) : (HO.tup [.int (Fr.lt t b), .int (Fr.lb t b)]) = frO (Rat.divInt t b) := by
  rw [Fr.lt_num h, Fr.lb_den h]
theorem frO_gcd (q : Rat) : Fr.gcd q.num (q.den : Int) = 1 := by
  unfold Fr.gcd
  have := q.reduced
  unfold Nat.Coprime at this
  rw [Int.natAbs_natCast, this]
  rfl
theorem eqv_fr (p q : Rat) : PyData.eqv (.tuple [.int p.num, .int (p.den : Int)]) (.tuple [.int q.num, .int (q.den : Int)]) = decide (p = q) := by
  rw [eqv_pair]
  by_cases h : p = q
  · subst h; simp
  · rw [decide_eq_false h]
    by_cases h1 : p.num = q.num
    · have h2 : ¬ ((p.den : Int) = (q.den : Int)) := fun z => h (Rat.ext h1 (Int.ofNat.inj z))
      simp [h2]
    · simp [h1]
end Lib
namespace Lib
open PySem L2
end Lib
namespace L2
open PySem PySem.Spec PyProof.Rows PySem.Builtin PySem.Builtin.Str
section
variable {X : Cx}
variable {a : Expr} {ta : TE} {es : List Expr} {tr : Str → St → Hp → VK → Prop} {p pos : Pos}
theorem call_all (hc : X.calm = true) : CallR X (.builtin "all") (fun xs H Q => ∃ (p : Addr) (bs : List Bool), xs = [.ref p] ∧ SqL X.K H p (bs.map V.bl) ∧ Q (.bl (bs.all id)) H) := by
  intro pins s σ H xs us Q I r h
  obtain ⟨p, bs, rfl, hp, q⟩ := h
  obtain ⟨u, rfl, ru⟩ := vals1 r
  cases ru
  obtain ⟨its, rv, pl, hz⟩ := I.list hp
  have hlen : its.toArray.size = bs.length := by
    have := rv.length
    rw [List.length_map] at this
    rw [List.size_toArray]; exact this.symm
  have hlt : p < s.heap.objs.size := by
    obtain ⟨o, e, _⟩ := pl.isList
    exact Heap.lt_size e
  have hh : X.A.in1.handled = none := I.ok.hd hc
  refine call_all_walk (wpAny_pyIter_list pl.isList ⟨s.heap.objs.size, _, _, _, _, _, fun i => bs.getD i false, rfl, Walks.list hh s.heap.objs.size p (Nat.ne_of_lt hlt) its.toArray, ⟨⟨_, Heap.get?_push_size _ rfl, rfl, rfl⟩, pl.isList.push _⟩, ?_, fun h' tk k => ?_⟩)
  · intro i v s1 Q1 E1 hP hQ
    have hg : its[i]? = some v := by simpa using hP
    have hb : bs[i]? = some (bs.getD i false) ∧ RelV (.bl (bs.getD i false)) v := by
      have hi : i < bs.length := by
        have := (List.getElem?_eq_some_iff.mp hg).1
        rw [← hlen, List.size_toArray]; exact this
      have e1 : (bs.map V.bl)[i]? = some (.bl (bs.getD i false)) := by
        rw [List.getElem?_map, List.getD_eq_getElem?_getD, List.getElem?_eq_getElem hi]; rfl
      obtain ⟨u, hu, ru⟩ := rv.get e1
      rw [hg] at hu
      cases hu
      refine ⟨?_, ru⟩
      rw [List.getD_eq_getElem?_getD, List.getElem?_eq_getElem hi]; rfl
    obtain ⟨_, ru⟩ := hb
    cases ru
    exact wpAny_truthy_bool hQ
  · have e : (List.range its.toArray.size).all (fun i => bs.getD i false) = bs.all id := by
      rw [hlen]
      clear hlen rv q k hp hz
      induction bs with
      | nil => rfl
      | cons b r ih =>
        rw [List.length_cons, List.range_succ_eq_map, List.all_cons, List.all_map, List.all_cons, ← ih]
        rfl
    rw [e]
    exact ⟨.bl _, H, I.kept (h' := h') (t' := tk) fun b o e => k b o (by
      intro hb
      have : b = s.heap.objs.size := by simpa using hb
      exact absurd (Heap.lt_size e) (by rw [this]; exact Nat.lt_irrefl _)) (Heap.get?_push_of_some _ e), rfl, q⟩
end
end L2
namespace L2
open PySem PySem.Spec PyProof.Rows PySem.Builtin PySem.Builtin.Str
theorem vals_of_signs {G : Str} : ∀ {vs : List Value} {zs : List Str} {rs : List Value}, AreOf .str vs zs → Paired (fun v r => ∃ z t, v = .str z t ∧ r = .bool (!(occurrences G z 0 G.length 1).isEmpty)) vs rs →
    Vals (zs.map fun z => V.bl (!(occurrences G z 0 G.length 1).isEmpty)) rs
  | _, _, _, .nil, r => by cases r; exact .nil
  | _, _, _, .cons h hs, r => by
    cases r with
    | cons r1 r2 =>
      obtain ⟨t, rfl⟩ := h
      obtain ⟨z, t', e, rfl⟩ := r1
      cases e
      exact .cons rfl (vals_of_signs hs r2)
section
variable {X : Cx}
theorem Inv.laidN {pins : List (Addr × Obj)} {σ : St} {H : Hp} {s : Shared} {a : Addr} {o : HO} {h' : Heap} {tk : Nat} (I : Inv X pins σ H s) (k : ∀ b u, s.heap.get? b = some u → h'.get? b = some u) (na : s.heap.get? a = none)
    (new : ObjOk X.prog X.w (upd H a o) h' a o) : Inv X pins σ (upd H a o) { s with heap := h', toks := tk } := by
  have hn : H a = none := I.hok.none_of na
  refine inv_behind (s' := { s with heap := h', toks := tk }) I rfl I.bare ⟨⟨fun b u e _ _ _ => k b u e, fun b u e _ _ _ => ⟨u.slots, k b u e⟩, fun b u e n _ => ?_, fun b u e _ => ⟨u, k b u e⟩, fun b xs e => ?_, fun b u x e => ?_, fun b ps e => ?_⟩, fun b u e => ?_⟩
  · have : b ≠ a := fun z => by rw [z, na] at e; cases e
    rw [upd_ne this]
    exact n
  · rw [upd_ne (ne_of_none e hn)]; exact e
  · rw [upd_ne (ne_of_none e hn)]; exact e
  · exact ⟨#[], by rw [upd_ne (ne_of_none e hn), Array.append_empty]; exact e⟩
  · by_cases hb : b = a
    · subst hb
      rw [upd_same] at e
      cases e
      exact new
    · rw [upd_ne hb] at e
      exact (I.hok b u e).stay (fun c v _ q => k c v q) (fun c q => by rw [upd_ne (ne_of_none q hn)]; exact q) fun c xs q => by rw [upd_ne (ne_of_none q hn)]; exact q
theorem pe_compIn {x g : Str} {px p1 p2 p3 pos : Pos} {iter : Expr} {ti : TE} {scope : Scope} {G : Str} {tG : Tok} (hc : X.calm = true) (hi : PE X iter ti) (hm : X.mg g = some (.str G tG))
    (hfree : ∀ y ∈ scope.names, y.2 ≠ .free) (hcell : ∀ y ∈ scope.names, y.2 ≠ .cell) (hkind : scope.kind = .function) (hnames : ∀ y ∈ scope.names, y.2 = .local → scope.names.lookup y.1 = some .local)
    (hx : scope.names.lookup x = some .local) (hg : scope.names.lookup g = some .globalImplicit) (hd : (x == ("__debug__" : Str)) = false) (hd2 : (g == ("__debug__" : Str)) = false) (hs : ∀ x, foldedSetIterable iter X.env x = pure x := by intro _; rfl) (hmk : behindInMarks .In (.Name g p2) = false := by rfl) :
    PE X (.ListComp (.Compare (.Name x p1) [.In] [.Name g p2] p3) [⟨.Name x px, iter, [], 0⟩] scope pos)
      (fun σ H Q => ti σ H fun v H1 => ∃ y, v = .str y ∧ y.length ≤ sizeLine ∧ ∀ p, H1 p = none → Q (.ref p) (upd H1 p (.lst ((signs y).map fun z => V.bl (!(occurrences G z 0 G.length 1).isEmpty))))) := by
  intro pins s σ H Q I h
  refine wpAny_ListComp_walk (fun _ => true) (fun v r => ∃ z t, v = .str z t ∧ r = .bool (!(occurrences G z 0 G.length 1).isEmpty)) hfree hcell hkind hnames hx (thn (hi pins s σ H _ I h) fun xv s1 ⟨v, H1, I1, r1, y, e, hz, q⟩ => ?_) hs
  subst e
  obtain ⟨t, rfl⟩ := r1
  refine wpAny_pyIter_str fun o St W hst => ?_
  have up : ∀ (h' : Heap), (∀ b o', b ∉ [s1.heap.objs.size] → (s1.heap.push o).get? b = some o' → h'.get? b = some o') → ∀ b o', s1.heap.get? b = some o' → h'.get? b = some o' :=
    fun h' hk b o' e => hk b o' (old_not_new e) (Heap.get?_push_of_some _ e)
  refine ⟨s1.heap.objs.size, [s1.heap.objs.size], [s1.heap.objs.size], y.cps.size, SignAt y, St, rfl, W X.A (I1.ok.hd hc), hz, hst, ?_, ⟨?_, ?_⟩, ?_⟩
  · intro b hb
    show b < (s1.heap.push o).objs.size
    rw [Heap.size_push, List.mem_singleton.mp hb]
    exact Nat.lt_succ_self _
  · intro C i v s₃ m₃ E' hP hn hm' _ _
    exact wpAny_pure ⟨rfl, s₃.heap, s₃.toks, rfl, fun _ _ e => e⟩
  · intro C i v s₃ m₃ E' hP hp hn hm' k _
    obtain ⟨c, u, hcu, rfl⟩ := hP
    have ns : s₃.heap.Ns mainGlobals X.mg := (I1.mod.glob.keeps I1.bk).keeps (up s₃.heap k)
    refine wpAny_Compare1 (wpAny_Name (wpAny_loadName_local hkind hx hn hm' ?_) hd) hmk
    refine Calls.Name_function_global hkind hg (Calls.loadGlobal_global (by show s₃.heap.Ns X.env.globals X.mg; rw [I1.ok.glob]; exact ns) hm ?_) hd2
    exact in_str ⟨⟨_, _, rfl, rfl⟩, s₃.heap, s₃.toks, rfl, fun _ _ e => e⟩
  · intro D h' tk ys vs hnew hlD hplD hlen hP hF hk
    have hD : s1.heap.get? D = none := by
      cases e : s1.heap.get? D with
      | none => rfl
      | some ob =>
        have z : (s1.heap.push o).get? D = some ob := Heap.get?_push_of_some _ e
        have hnew' : (s1.heap.push o).get? D = none := hnew
        rw [z] at hnew'
        cases hnew'
    have hF' : Paired (fun v r => ∃ z t, v = .str z t ∧ r = .bool (!(occurrences G z 0 G.length 1).isEmpty)) vs ys.toList := by
      rw [List.filter_eq_self.mpr (fun _ _ => rfl)] at hF
      exact hF
    have rv := vals_of_signs (areOf_signs hlen hP) hF'
    obtain ⟨n0, hn0⟩ := hplD
    refine ⟨.ref D, _, I1.laidN (a := D) (o := .lst _) (tk := tk) (up h' hk) hD ⟨?_, ys.toList, n0, rv, ?_⟩, rfl, q D (I1.hok.none_of hD)⟩
    · rw [List.length_map, signs_length]; exact hz
    · rw [hn0]
end
end L2
namespace Tx
open PySem PySem.Builtin PySem.Builtin.Str PySem.NumText PyProof.Rows
end Tx
namespace Tx
open PySem PySem.Builtin PySem.Builtin.Str PySem.NumText PyProof.Rows
end Tx
namespace Lib
open PySem L2 Tx PySem.NumText
end Lib
namespace Lib
open PySem L2 Tx PySem.NumText
end Lib
namespace Tx
end Tx
namespace Lib
open PySem L2 Tx PySem.NumText
theorem rat_of {i j : Int} (h1 : 1 ≤ j) (h2 : Fr.gcd i j = 1) : ∃ q : Rat, q.num = i ∧ ((q.den : Nat) : Int) = j := by
  have hj : j ≠ 0 := by omega
  obtain ⟨g1, g2⟩ := (Fr.low_same (t := i) (b := j) (by omega)).mpr h2
  exact ⟨Rat.divInt i j, by rw [← Fr.lt_num hj, g1], by rw [← Fr.lb_den hj, g2]⟩
end Lib
namespace Lib
open PySem L2 Tx
end Lib
namespace L2
open PySem PySem.Spec PyProof.Rows
section
variable {prog : Program} {w : World} {A : Around} {R : Result → Shared → Prop} {s : Shared}
theorem compLoop_own {elt target iter : Expr} {ifs : List Expr} {scope : Scope} {pos : Pos} {it acc : Value} {env : Env} (I : Nat → Shared → Prop)
    (turn : ∀ n s, I n s → wpAny (model prog w) A (pyNext it) (fun r s₁ => match r with
      | none => R (.ok .next) s₁
      | some v => wpAny (model prog w) A (letOwnedTupleGo target it v) (fun _ s₁' => wpAny (model prog w) A (assign target env v) (fun _ s₂ =>
          wpAny (model prog w) A (forIn ifs true fun c r => if r = true then do let ok ← isTrue c env (eval c env); pure (ForInStep.yield ok) else pure (ForInStep.yield r)) (fun ok s₃ =>
            if ok = true then wpAny (model prog w) A (eval elt env) (fun x s₄ =>
              wpAny (model prog w) A (call (.builtin "list.append") [acc, x]) (fun _ s₅ => ∃ m, m < n ∧ I m s₅) (fun _ _ => False) s₄) (fun _ _ => False) s₃
            else ∃ m, m < n ∧ I m s₃) (fun _ _ => False) s₂) (fun _ _ => False) s₁') (fun _ _ => False) s₁) (fun _ _ => False) s)
    (n : Nat) (h : I n s) :
    codeAny (model prog w) A (.compLoop (.ListComp elt [⟨target, iter, ifs, 0⟩] scope pos) 0 it acc env) R s := by
  refine codeAny_loop rfl I (fun n s hI => ?_) n h
  show wpAny _ A ((compTurn (.ListComp elt [⟨target, iter, ifs, 0⟩] scope pos) 0 it acc env).onRaise (fun x => do noteFrame x env; theTreesLotGoes x)) _ _ s
  refine wpAny_noted ?_
  rw [compTurn_list]
  refine wpAny_bind (wpAny_standAt (wpAny_bind (wpAny_mono (turn n s hI) (fun r s₁ h₁ => ?_) fun _ _ z => z.elim)))
  cases r with
  | none => exact wpAny_pure h₁
  | some v =>
    refine wpAny_bind (wpAny_mono h₁ (fun _ s₁' h₁' => ?_) fun _ _ z => z.elim)
    refine wpAny_bind (wpAny_mono h₁' (fun _ s₂ h₂ => wpAny_bind (wpAny_mono h₂ (fun ok s₃ h₃ => ?_) fun _ _ z => z.elim)) fun _ _ z => z.elim)
    cases ok with
    | false => exact wpAny_pure ⟨rfl, h₃⟩
    | true =>
      exact wpAny_bind (wpAny_bind (wpAny_mono h₃ (fun x s₄ h₄ => wpAny_bind (wpAny_mono h₄ (fun _ s₅ h₅ => wpAny_pure (wpAny_pure ⟨rfl, h₅⟩)) fun _ _ z => z.elim)) fun _ _ z => z.elim))
end
def cxC (X : Cx) (scope : Scope) (cl : List (Str × Addr)) (N' : List Str) (C : Addr) (fp : List Addr) (pins : List (Addr × Obj)) (s2 : Shared) (H2 : Hp) : Cx :=
  { X with N := N', s₀ := s2, H₀ := H2, env := compEnvC scope cl C X.env, outer := X.stack, ex := fp, fn := fun _ => false, pn := X.pn ++ pins, xe := fun _ _ => False }
structure CapOk (X : Cx) (scope : Scope) (cl : List (Str × Addr)) : Prop where
  clos : closureFor scope X.env = pure cl
  sub : ∀ y c, cl.lookup y = some c → X.env.cells.lookup y = some c
  has : ∀ y, ((relabel scope X.env).names.lookup y = some .cell ∨ (relabel scope X.env).names.lookup y = some .free) → ∃ c, cl.lookup y = some c
theorem relabel_same {scope : Scope} {env : Env} (hfree : ∀ y ∈ scope.names, y.2 ≠ .free) : (relabel scope env).names = scope.names := by
  unfold relabel
  exact map_eq_self (l := scope.names) fun x hx => by
    obtain ⟨n, k⟩ := x
    have : (k == NameKind.free) = false := by simpa using hfree _ hx
    simp [this]
theorem cap_nil {X : Cx} {scope : Scope} (hfree : ∀ y ∈ scope.names, y.2 ≠ .free) (hcell : ∀ y ∈ scope.names, y.2 ≠ .cell) : CapOk X scope [] := by
  refine ⟨closureFor_none hfree, fun y c e => (by simp at e), fun y e => ?_⟩
  rw [relabel_same hfree] at e
  exfalso
  rcases e with e | e
  · exact hcell _ (PySem.mem_of_lookup e) rfl
  · exact hfree _ (PySem.mem_of_lookup e) rfl
def capSt (caps : List (Option Nat)) (σ : St) : St := caps.map fun o => o.bind fun j => (σ[j]?).join
section
variable {X : Cx} {pins : List (Addr × Obj)} {σ : St} {H2 : Hp} {s2 : Shared} {scope : Scope} {cl : List (Str × Addr)} {N' : List Str} {C : Addr} {fp : List Addr} {caps : List (Option Nat)}
theorem notStk (I : Inv X pins σ H2 s2) {b : Addr} (h1 : b ≠ X.env.locals) (h2 : b ∉ X.fs) : b ∉ frs X.stack := fun z => (List.mem_cons.mp (I.stkSub b z)).elim h1 h2
theorem inv_comp (I : Inv X pins σ H2 s2) (hf : ∀ b ∈ fp, FpOk X pins H2 b) (hl : ∀ b ∈ fp, b < s2.heap.objs.size) (hk : scope.kind = .function) (cap : CapOk X scope cl) (hC : s2.heap.objs.size ≤ C) {s4 : Shared} (os : s4.os = s2.os) (bare : AllBare s4.gens)
    (k : ∀ b o, s2.heap.get? b = some o → s4.heap.get? b = some o) (ns : s4.heap.Ns C fun _ => none) (hN : caps.length = N'.length)
    (hcap : ∀ (i j : Nat), caps[i]? = some (some j) → ∃ y : Str, N'[i]? = some y ∧ X.N[j]? = some y ∧ (relabel scope X.env).names.lookup y = some .cell ∧ X.env.scope.names.lookup y = some .cell) :
    Inv (cxC X scope cl N' C fp pins s2 H2) [] (capSt caps σ) H2 s4 := by
  have neC : ∀ b : Addr, b < s2.heap.objs.size → b ≠ C := fun b h => Nat.ne_of_lt (Nat.lt_of_lt_of_le h hC)
  refine ⟨⟨I.ok.mod, ?_, I.ok.glob, I.ok.blt, hC, fun y z c h1 h2 => I.ok.inj y z c (cap.sub y c h1) (cap.sub z c h2), fun y h => cap.has y h, (fun y c z => nomatch z), I.ok.hd, I.ok.frames, .inl rfl, fun b hb => ⟨neC b (hl b hb), fun y c e => (hf b hb).2.2.2.2.1 y c (cap.sub y c e)⟩,
    fun b o e => I.bs b o e, Nat.le_trans I.ok.bsz I.sz, fun b o e hb => ?_, fun b hb => notStk I (hf b hb).2.1 (hf b hb).2.2.1, I.stack, I.stkFree⟩,
    os, bare, Un.kept k, ⟨_, ns, fun i y v h1 h2 h3 => ?_⟩, fun y c e => ?_, I.hok.fresh hC, fun y c e => I.freeC y c (cap.sub y c e), fun p hp => ?_, I.hok.kept k, ?_⟩
  · show (relabel scope X.env).kind = .function
    exact hk
  · rcases (hf b hb).2.2.2.1 with z | z
    · exact I.ok.noex b o e z
    · exact absurd (Nat.lt_of_lt_of_le (Heap.lt_size e) (Nat.le_trans I.ok.bsz z)) (Nat.lt_irrefl _)
  · have h1 : N'[i]? = some y := h1
    unfold capSt at h2
    rw [List.getElem?_map] at h2
    cases hc : caps[i]? with
    | none => rw [hc] at h2; cases h2
    | some o =>
      rw [hc] at h2
      cases o with
      | none => cases h2
      | some j =>
        obtain ⟨y', e1, e2, e3, e4⟩ := hcap i j hc
        rw [h1] at e1
        cases e1
        have hj : σ[j]? = some (some v) := by
          have z : (σ[j]?).join = some v := by simpa using h2
          cases q : σ[j]? with
          | none => rw [q] at z; cases z
          | some w' => rw [q] at z; exact congrArg some z
        obtain ⟨m, hn, hm⟩ := I.loc
        obtain ⟨u, ru, lk⟩ := hm j y v e2 hj (.inr (.inl e4))
        refine ⟨u, ru, .inr ⟨.inl e3, ?_⟩⟩
        rcases lk with ⟨z, _⟩ | ⟨_, c, ec, o', ho', hd'⟩
        · rw [show X.env.kindOf y = X.env.scope.names.lookup y from rfl, e4] at z; cases z
        · obtain ⟨c', ec'⟩ := cap.has y (.inl e3)
          have := cap.sub y c' ec'
          rw [ec] at this
          cases this
          exact ⟨c, ec', o', k _ _ ho', hd'⟩
  · obtain ⟨v, o, ho, hd⟩ := I.cell y c (cap.sub y c e)
    exact ⟨v, o, k _ _ ho, hd⟩
  · have hp : p ∈ (X.pn ++ pins) ++ [] := hp
    rw [List.append_nil] at hp
    obtain ⟨e, n, ne, nf, d⟩ := I.pin p hp
    exact ⟨k _ _ e, n, neC _ (Heap.lt_size e), notStk I ne nf, d⟩
  · show (capSt caps σ).length = N'.length
    unfold capSt
    rw [List.length_map]
    exact hN
theorem comp_end {pl : List (Addr × Obj)} {σ' : St} {H' : Hp} {s' : Shared} {D : Addr} {items : Array Value} {ys : List V} {h'' : Heap} (I : Inv X pins σ H2 s2) (hf : ∀ b ∈ fp, FpOk X pins H2 b) (I' : Inv (cxC X scope cl N' C fp pins s2 H2) pl σ' H' s')
    (hpl : s'.heap.PlainList D items) (nD : H' D = none) (newD : s2.heap.get? D = none) (hDC : D ≠ C) (rv : Vals ys items.toList) (hz : ys.length ≤ sizeLine) (sb : Heap.SameBut C s'.heap h'') : Inv X pins σ (upd H' D (.lst ys)) { s' with heap := h'' } := by
  have hC : s2.heap.objs.size ≤ C := I'.ok.above
  have neC : ∀ b o, s2.heap.get? b = some o → b ≠ C := fun b o e => Nat.ne_of_lt (Nat.lt_of_lt_of_le (Heap.lt_size e) hC)
  have nC : H' C = none := I'.free
  obtain ⟨n0, ho⟩ := hpl
  refine I.call' (s' := { s' with heap := h'' }) (ch := fp) I'.os ⟨fun b o e n hb hx => sb.extBut b o (neC b o e) (I'.base.keep b o e n hb hx), fun b o e n hb hx => ?_, fun b o e n hx => ?_, fun b o e hx => ?_, fun b xs e => ?_, fun b o u e => ?_, fun b ps e => ?_⟩ (fun b o e => ?_) I'.bare fun b hb => ?_
  · obtain ⟨sl, q⟩ := I'.base.slot b o e n hb hx
    exact ⟨sl, sb.extBut b _ (neC b o e) q⟩
  · have : b ≠ D := fun z => by rw [z, newD] at e; cases e
    rw [upd_ne this]
    exact I'.base.free b o e n hx
  · obtain ⟨o', q⟩ := I'.base.there b o e hx
    exact ⟨o', sb.extBut b _ (neC b o e) q⟩
  · have q := I'.base.tups b xs e
    rw [upd_ne (ne_of_none q nD)]; exact q
  · have q := I'.base.frzs b o u e
    rw [upd_ne (ne_of_none q nD)]; exact q
  · obtain ⟨m, q⟩ := I'.base.tbls b ps e
    exact ⟨m, by rw [upd_ne (ne_of_none q nD)]; exact q⟩
  · by_cases hb : b = D
    · subst hb
      rw [upd_same] at e
      cases e
      exact ⟨hz, items.toList, n0, rv, sb.extBut _ _ hDC ho⟩
    · rw [upd_ne hb] at e
      refine (I'.hok b o e).stay (fun c v hc q => sb.extBut c v ?_ q) (fun c q => by rw [upd_ne (ne_of_none q nD)]; exact q) fun c xs q => by rw [upd_ne (ne_of_none q nD)]; exact q
      intro z
      subst z
      rcases hc with z | z
      · rw [← z, nC] at e; cases e
      · rw [nC] at z; cases z
  · obtain ⟨f0, f1, f2, f3, f4, f5⟩ := hf b hb
    exact ⟨f3, f1, f4, f5⟩
end
def PIfs (X : Cx) (ifs : List Expr) (t : TT) : Prop :=
  ∀ (pins : List (Addr × Obj)) (s : Shared) (σ : St) (H : Hp) (Q : Bool → Hp → Prop), Inv X pins σ H s → t σ H Q →
    wpAny (model X.prog X.w) X.A (forIn ifs true fun c r => if r = true then do let ok ← isTrue c X.env (eval c X.env); pure (ForInStep.yield ok) else pure (ForInStep.yield r)) (TP X pins σ Q) X.xe s
def tYes : TT := fun _ H Q => Q true H
theorem pifs_nil {X : Cx} : PIfs X [] tYes := fun pins s σ H Q I h => by
  simp only [List.forIn_nil]
  exact wpAny_pure ⟨H, I, h⟩
theorem pifs_one {X : Cx} {c : Expr} {t : TT} (hc : PT X c t) : PIfs X [c] t := fun pins s σ H Q I h => by
  simp only [List.forIn_cons, List.forIn_nil, if_true]
  exact wpAny_bind (wpAny_bind (wpAny_mono (hc pins s σ H Q I h) (fun b s' hb => wpAny_pure (wpAny_pure hb)) fun _ _ x => x))
def tCompB (g : TG) (tt : TT) (te : TE) (J : It) (σ : St) (H1 : Hp) (Q : VK) : Prop := ∃ W : Nat → Nat → St → List V → Hp → Prop, (∃ m, W 0 m σ [] H1) ∧ ∀ i m σ' ys H, W i m σ' ys H → ys.length ≤ sizeLine ∧
  ((J.stop i H ∧ ∀ p, H p = none → Q (.ref p) (upd H p (.lst ys))) ∨
   (J.go i H ∧ ∀ x H', J.yld i H x H' → g x σ' H' fun σ2 H2 => tt σ2 H2 fun b H3 => if b = true then te σ2 H3 fun y H4 => ∃ m', m' < m ∧ W (i + 1) m' σ2 (ys ++ [y]) H4 else ∃ m', m' < m ∧ W (i + 1) m' σ2 ys H3))
def tComp (wi : TI) (g : TG) (tt : TT) (te : TE) (caps : List (Option Nat)) : TE := fun σ H Q => wi σ H fun J H1 => tCompB g tt te J (capSt caps σ) H1 Q
theorem comp_run {X : Cx} {tg elt iter : Expr} {ifs : List Expr} {scope : Scope} {pos : Pos} {wi : TI} {g : TG} {tt : TT} {te : TE} {cl : List (Str × Addr)} (N' : List Str) (caps : List (Option Nat)) (hc : X.calm = true) (hi : PI X tg iter wi)
    (hg : ∀ C fp pins s2 H2, PG (cxC X scope cl N' C fp pins s2 H2) tg g) (ht : ∀ C fp pins s2 H2, PIfs (cxC X scope cl N' C fp pins s2 H2) ifs tt) (he : ∀ C fp pins s2 H2, PE (cxC X scope cl N' C fp pins s2 H2) elt te)
    (cap : CapOk X scope cl) (hcell : ∀ y ∈ scope.names, y.2 ≠ .cell) (hkind : scope.kind = .function) (hnames : ∀ y ∈ scope.names, y.2 = .local → scope.names.lookup y.1 = some .local) (hN : caps.length = N'.length)
    (hcap : ∀ (i j : Nat), caps[i]? = some (some j) → ∃ y : Str, N'[i]? = some y ∧ X.N[j]? = some y ∧ (relabel scope X.env).names.lookup y = some .cell ∧ X.env.scope.names.lookup y = some .cell)
    (hs : ∀ x, foldedSetIterable iter X.env x = pure x) {pins : List (Addr × Obj)} {s : Shared} {σ : St} {H : Hp} {Q : VK} {use : Option (Value → Sem Unit)} {QQ : Value → Shared → Prop}
    (fin : ∀ (C D : Addr) (fp : List Addr) (s2 s4 : Shared) (H2 H4 : Hp) (pl : List (Addr × Obj)) (σ' : St) (items : Array Value) (ys : List V), Inv X pins σ H2 s2 → (∀ b ∈ fp, FpOk X pins H2 b) → Inv (cxC X scope cl N' C fp pins s2 H2) pl σ' H4 s4 → s4.heap.PlainList D items → H4 D = none → s2.heap.get? D = none → D ≠ C →
      Vals ys items.toList → ys.length ≤ sizeLine → (∀ p, H4 p = none → Q (.ref p) (upd H4 p (.lst ys))) → compPost (model X.prog X.w) X.A X.xe use QQ (.ref D) C (.ok .next) s4)
    (I : Inv X pins σ H s) (h : tComp wi g tt te caps σ H Q) : wpAny (model X.prog X.w) X.A (comprehension (.ListComp elt [⟨tg, iter, ifs, 0⟩] scope pos) scope X.env (firstIterPos [⟨tg, iter, ifs, 0⟩] pos) (newList []) false (eval iter X.env) use) QQ X.xe s := by
  refine wpAny_comprehension_free (use := use) rfl hs cap.clos hkind hnames (thn (hi pins s σ H _ I h) fun xv s₁ h₁ => thn h₁ fun itv s₂ h₂ => ?_)
  obtain ⟨it, fp, tn, J, H2, rfl, I2, T, st2, f2, W, ⟨m0, w0⟩, turn⟩ := h₂
  have hfp : ∀ b ∈ fp, b < s₂.heap.objs.size := fun b hb => by obtain ⟨o, e, _⟩ := T.obj _ _ st2 b hb; exact Heap.lt_size e
  refine wpAny_newObj_type (wpAny_newFunctionEnv hcell (by intro y hy; simp at hy) (fun h₁ hns₁ hsb₁ => ?_) hkind)
  dsimp only at hns₁ hsb₁ ⊢
  generalize hH2 : s₂.heap.push { cls := .type "list", dict := none, data := .seq ([] : List Value).toArray } = H2' at hns₁ hsb₁ ⊢
  have hC : H2'.objs.size = s₂.heap.objs.size + 1 := by rw [← hH2, Heap.size_push]
  have hDC : s₂.heap.objs.size ≠ H2'.objs.size := by rw [hC]; exact Nat.ne_of_lt (Nat.lt_succ_self _)
  have hCle : s₂.heap.objs.size ≤ H2'.objs.size := by rw [hC]; exact Nat.le_succ _
  have below : ∀ b, b < s₂.heap.objs.size → b ≠ H2'.objs.size := fun b hb => by rw [hC]; exact Nat.ne_of_lt (Nat.lt_succ_of_lt hb)
  have old : ∀ b o, s₂.heap.get? b = some o → h₁.get? b = some o := fun b o e => hsb₁.extBut b o (below b (Heap.lt_size e)) (Heap.get?_push_of_some _ (hH2 ▸ Heap.get?_push_of_some _ e))
  have hacc : h₁.PlainList s₂.heap.objs.size #[] := ⟨_, hsb₁.extBut _ _ hDC (Heap.get?_push_of_some _ (hH2 ▸ Heap.get?_push_size _ rfl))⟩
  have newD : s₂.heap.get? s₂.heap.objs.size = none := Heap.get?_none_of_le (Nat.le_refl _)
  have nD2 : H2 s₂.heap.objs.size = none := I2.hok.fresh (Nat.le_refl _)
  generalize hDD : s₂.heap.objs.size = D at *
  generalize hCC : H2'.objs.size = C at *
  have fpD : ∀ b ∈ fp, b ≠ D := fun b hb => Nat.ne_of_lt (hfp b hb)
  have statX : ∀ {H' : Hp} {pl : List (Addr × Obj)}, (∀ p ∈ pl, p.1 = D) → (∀ b ∈ fp, H' b = none) → ∀ b ∈ fp, FpOk (cxC X scope cl N' C fp pins s₂ H2) pl H' b := fun {H' pl} hpl hn b hb => by
    obtain ⟨f0, f1, f2', f3, f4, f5⟩ := f2 b hb
    refine ⟨hn b hb, below b (hfp b hb), notStk I2 f1 f2', .inl hb, fun y c e => f4 y c (cap.sub y c e), fun p hp => ?_⟩
    rcases List.mem_append.mp hp with hp | hp
    · exact f5 p hp
    · rw [hpl p hp]; exact (fpD b hb).symm
  have ht' : ∀ n s', (∃ i σ' ys, ∃ (items : Array Value), ∃ H', Inv (cxC X scope cl N' C fp pins s₂ H2) [] σ' H' s' ∧ tn i s'.heap ∧ (∀ b ∈ fp, H' b = none) ∧ s'.heap.PlainList D items ∧ Vals ys items.toList ∧ H' D = none ∧ W i n σ' ys H') →
      wpAny (model X.prog X.w) X.A (pyNext (.ref it)) (fun r s₁ => match r with
      | none => compPost (model X.prog X.w) X.A X.xe use QQ (.ref D) C (.ok .next) s₁
      | some v => wpAny (model X.prog X.w) X.A (letOwnedTupleGo tg (.ref it) v) (fun _ s₁' => wpAny (model X.prog X.w) X.A (assign tg (compEnvC scope cl C X.env) v) (fun _ s₂' =>
          wpAny (model X.prog X.w) X.A (forIn ifs true fun c r => if r = true then do let ok ← isTrue c (compEnvC scope cl C X.env) (eval c (compEnvC scope cl C X.env)); pure (ForInStep.yield ok) else pure (ForInStep.yield r)) (fun ok s₃ =>
            if ok = true then wpAny (model X.prog X.w) X.A (eval elt (compEnvC scope cl C X.env)) (fun x s₄ =>
              wpAny (model X.prog X.w) X.A (call (.builtin "list.append") [.ref D, x]) (fun _ s₅ => ∃ m, m < n ∧ ∃ i σ' ys, ∃ (items : Array Value), ∃ H', Inv (cxC X scope cl N' C fp pins s₂ H2) [] σ' H' s₅ ∧ tn i s₅.heap ∧ (∀ b ∈ fp, H' b = none) ∧ s₅.heap.PlainList D items ∧ Vals ys items.toList ∧ H' D = none ∧ W i m σ' ys H') (fun _ _ => False) s₄) (fun _ _ => False) s₃
            else ∃ m, m < n ∧ ∃ i σ' ys, ∃ (items : Array Value), ∃ H', Inv (cxC X scope cl N' C fp pins s₂ H2) [] σ' H' s₃ ∧ tn i s₃.heap ∧ (∀ b ∈ fp, H' b = none) ∧ s₃.heap.PlainList D items ∧ Vals ys items.toList ∧ H' D = none ∧ W i m σ' ys H') (fun _ _ => False) s₂') (fun _ _ => False) s₁') (fun _ _ => False) s₁) (fun _ _ => False) s' := by
    rintro n s3 ⟨i, σ3, ys, items, H3, I3, st3, fr3, pl3, rv3, nD3, w3⟩
    obtain ⟨hz, hw⟩ := turn i n σ3 ys H3 w3
    obtain ⟨n0, ho⟩ := id pl3
    have nfsD : D ∉ frs X.stack := fun z => by
      obtain ⟨_, o, e, _⟩ := I2.stack.mem z
      rw [newD] at e; cases e
    have I3p : Inv (cxC X scope cl N' C fp pins s₂ H2) [(D, { cls := .type "list", data := .seq items n0 })] σ3 H3 s3 := I3.pins_of fun p hp => by
      have e : p = (D, { cls := .type "list", data := .seq items n0 }) := by simpa using hp
      subst e
      exact ⟨ho, nD3, hDC, nfsD, fun v z => by cases z⟩
    have one : ∀ p ∈ [(D, ({ cls := .type "list", data := .seq items n0 } : Obj))], p.1 = D := fun p hp => by
      have e : p = (D, { cls := .type "list", data := .seq items n0 }) := by simpa using hp
      subst e; rfl
    rcases hw with ⟨stop, qn⟩ | ⟨go, step⟩
    · refine thn (T.done (cxC X scope cl N' C fp pins s₂ H2) rfl rfl rfl hc i _ s3 σ3 H3 (fun _ _ => False) I3p (statX one fr3) st3 stop) fun r s4 ⟨hr, I4⟩ => ?_
      subst hr
      obtain ⟨e4, nD4, _⟩ := I4.pin _ (List.mem_append_right _ (List.mem_singleton.mpr rfl))
      exact fin C D fp s₂ s4 H2 H3 _ σ3 items ys I2 f2 I4 ⟨n0, e4⟩ nD4 (hDD ▸ newD) hDC rv3 hz qn
    · refine thn (T.item (cxC X scope cl N' C fp pins s₂ H2) rfl rfl rfl hc i _ s3 σ3 H3 (fun _ _ => False) I3p (statX one fr3) st3 go) fun r s4 ⟨u, hr, h4⟩ => ?_
      subst hr
      refine thn h4 fun _ s5 ⟨x, H5, I5, r5, y5, st5, fr5⟩ => ?_
      have I5' := I5.pinned (statX one fr5) (T.obj _ _ st5)
      refine thn (hg C fp pins s₂ H2 _ s5 σ3 H5 x u _ I5' r5 (step x H5 y5)) fun _ s6 ⟨σ6, H6, I6, q6⟩ => ?_
      refine thn (ht C fp pins s₂ H2 _ s6 σ6 H6 _ I6 q6) fun b s7 ⟨H7, I7, q7⟩ => ?_
      have back : ∀ {H8 : Hp} {s8 : Shared}, Inv (cxC X scope cl N' C fp pins s₂ H2) ([(D, ({ cls := .type "list", data := .seq items n0 } : Obj))] ++ pinsAt fp s5.heap) σ6 H8 s8 →
          Inv (cxC X scope cl N' C fp pins s₂ H2) [] σ6 H8 s8 ∧ tn (i + 1) s8.heap ∧ (∀ b ∈ fp, H8 b = none) ∧ s8.heap.PlainList D items ∧ H8 D = none := fun {H8 s8} I8 => by
        refine ⟨I8.pins_of (fun p hp => nomatch hp), T.keep _ _ _ st5 fun b hb o e => (I8.pin (b, o) (List.mem_append_right _ (List.mem_append_right _ (mem_pinsAt hb e)))).1, fun b hb => ?_, ?_, ?_⟩
        · obtain ⟨o, e, d⟩ := T.obj _ _ st5 b hb
          exact (I8.pin (b, o) (List.mem_append_right _ (List.mem_append_right _ (mem_pinsAt hb e)))).2.1
        · exact ⟨n0, (I8.pin _ (List.mem_append_right _ (List.mem_append_left _ (List.mem_singleton.mpr rfl)))).1⟩
        · exact (I8.pin _ (List.mem_append_right _ (List.mem_append_left _ (List.mem_singleton.mpr rfl)))).2.1
      cases b with
      | false =>
        rw [if_neg Bool.false_ne_true] at q7
        obtain ⟨m', hm, w7⟩ := q7
        obtain ⟨J1, J2, J3, J4, J5⟩ := back I7
        rw [if_neg Bool.false_ne_true]
        exact ⟨m', hm, i + 1, σ6, ys, items, H7, J1, J2, J3, J4, rv3, J5, w7⟩
      | true =>
        rw [if_pos rfl] at q7
        rw [if_pos rfl]
        refine thn (he C fp pins s₂ H2 _ s7 σ6 H7 _ I7 q7) fun v s8 ⟨y, H8, I8, r8, m', hm, w8⟩ => ?_
        obtain ⟨J1, J2, J3, J4, J5⟩ := back I8
        have hit : items.size ≤ sizeLine := by
          have e : ys.length = items.size := by simpa using rv3.length
          omega
        refine wpAny_list_append_plain (hsz := hit) J4 fun h9 hl9 hs9 => ?_
        have nc : ∀ y c, cl.lookup y = some c → c ≠ D := fun y c e z => by
          obtain ⟨v, o, ho, _⟩ := I2.cell y c (cap.sub y c e)
          rw [z, newD] at ho; cases ho
        have np : ∀ p ∈ (X.pn ++ pins) ++ [], p.1 ≠ D := fun p hp z => by
          rw [List.append_nil] at hp
          have e := (I2.pin p hp).1
          rw [z, newD] at e; cases e
        have J9 : Inv (cxC X scope cl N' C fp pins s₂ H2) [] σ6 H8 { s8 with heap := h9 } := J1.turned (it := D) (t' := s8.toks) (fun b o hb e => hs9.extBut b o hb e) J5 hDC (.inr (Nat.le_of_eq hDD)) nc np
        refine ⟨m', hm, i + 1, σ6, ys ++ [y], items.push v, H8, J9, T.keep _ _ _ J2 fun b hb o e => hs9.extBut b o (fpD b hb) e, J3, hl9, ?_, J5, w8⟩
        rw [Array.toList_push]
        exact rv3.append (.cons r8 .nil)
  have I0 : Inv (cxC X scope cl N' C fp pins s₂ H2) [] (capSt caps σ) H2 { s₂ with heap := h₁, toks := s₂.toks + ([] : List (Str × Value)).length } :=
    inv_comp I2 f2 (fun b hb => hDD ▸ hfp b hb) hkind cap (by rw [hDD]; exact hCle) rfl I2.bare old hns₁ hN hcap
  have st0 : tn 0 h₁ := T.keep _ _ _ st2 fun b _ o e => old b o e
  have loop : ∀ s₃ : Shared, s₃ = { s₂ with heap := h₁, toks := s₂.toks + ([] : List (Str × Value)).length } →
      codeAny (model X.prog X.w) X.A (.compLoop (.ListComp elt [⟨tg, iter, ifs, 0⟩] scope pos) 0 (.ref it) (.ref D) (compEnvC scope cl C X.env)) (compPost (model X.prog X.w) X.A X.xe use QQ (.ref D) C) s₃ := by
    rintro s₃ rfl
    exact compLoop_own _ ht' m0 ⟨0, _, [], #[], H2, I0, st0, fun b hb => (f2 b hb).1, hacc, .nil, nD2, w0⟩
  exact codeAny_compStart_list (loop _ rfl) (T.self X.A 0 _ _ _ st0 (loop _ rfl))
theorem pe_comp {X : Cx} {tg elt iter : Expr} {ifs : List Expr} {scope : Scope} {pos : Pos} {wi : TI} {g : TG} {tt : TT} {te : TE} {cl : List (Str × Addr)} (N' : List Str) (caps : List (Option Nat)) (hc : X.calm = true) (hi : PI X tg iter wi)
    (hg : ∀ C fp pins s2 H2, PG (cxC X scope cl N' C fp pins s2 H2) tg g) (ht : ∀ C fp pins s2 H2, PIfs (cxC X scope cl N' C fp pins s2 H2) ifs tt) (he : ∀ C fp pins s2 H2, PE (cxC X scope cl N' C fp pins s2 H2) elt te)
    (cap : CapOk X scope cl) (hcell : ∀ y ∈ scope.names, y.2 ≠ .cell) (hkind : scope.kind = .function) (hnames : ∀ y ∈ scope.names, y.2 = .local → scope.names.lookup y.1 = some .local) (hN : caps.length = N'.length)
    (hcap : ∀ (i j : Nat), caps[i]? = some (some j) → ∃ y : Str, N'[i]? = some y ∧ X.N[j]? = some y ∧ (relabel scope X.env).names.lookup y = some .cell ∧ X.env.scope.names.lookup y = some .cell)
    (hs : ∀ x, foldedSetIterable iter X.env x = pure x := by intro _; rfl) :
    PE X (.ListComp elt [⟨tg, iter, ifs, 0⟩] scope pos) (tComp wi g tt te caps) := by
  intro pins s σ H Q I h
  rw [eval_ListComp]
  refine comp_run (use := none) N' caps hc hi hg ht he cap hcell hkind hnames hN hcap hs (fun C D fp s2 s4 H2 H4 pl σ' items ys I2 f2 I4 hpl nD newD hDC rv hz qn => ?_) I h
  obtain ⟨m, hn, _⟩ := I4.loc
  exact ⟨m, hn, fun h' sb => ⟨.ref D, _, comp_end I2 f2 I4 hpl nD newD hDC rv hz sb, rfl, qn D nD⟩⟩
def tSetC (i : Nat) (t : TE) : TS := fun D σ H => t σ H fun v H1 => D.nx (σ.set i (some v)) H1
theorem ps_comp {X : Cx} {tg elt iter : Expr} {ifs : List Expr} {scope : Scope} {pos spos py : Pos} {wi : TI} {g : TG} {tt : TT} {te : TE} {cl : List (Str × Addr)} {y : Str} {i : Nat} (hND : X.N.Nodup) (hiy : X.N[i]? = some y) (hy : Loc X.env.scope y) (N' : List Str) (caps : List (Option Nat)) (hc : X.calm = true) (hi : PI X tg iter wi)
    (hg : ∀ C fp pins s2 H2, PG (cxC X scope cl N' C fp pins s2 H2) tg g) (ht : ∀ C fp pins s2 H2, PIfs (cxC X scope cl N' C fp pins s2 H2) ifs tt) (he : ∀ C fp pins s2 H2, PE (cxC X scope cl N' C fp pins s2 H2) elt te)
    (cap : CapOk X scope cl) (hcell : ∀ y ∈ scope.names, y.2 ≠ .cell) (hkind : scope.kind = .function) (hnames : ∀ y ∈ scope.names, y.2 = .local → scope.names.lookup y.1 = some .local) (hN : caps.length = N'.length)
    (hcap : ∀ (i j : Nat), caps[i]? = some (some j) → ∃ y : Str, N'[i]? = some y ∧ X.N[j]? = some y ∧ (relabel scope X.env).names.lookup y = some .cell ∧ X.env.scope.names.lookup y = some .cell)
    (hs : ∀ x, foldedSetIterable iter X.env x = pure x := by intro _; rfl) (hsw : swapsWith (.ListComp elt [⟨tg, iter, ifs, 0⟩] scope pos) (some (.Name y py)) spos.line X.env = pure true := by rfl)
    (hfn : X.fn y = true ∨ X.env.scope.names.lookup y = some .local := by first | exact .inl rfl | exact .inr rfl | assumption) :
    PS X (.Assign [.Name y py] (.ListComp elt [⟨tg, iter, ifs, 0⟩] scope pos) spos) (tSetC i (tComp wi g tt te caps)) := by
  intro pins s σ H D I h
  rw [exec_Assign_Name_used _ _ _ _ hsw]
  refine wpAny_bind (wpAny_standAt (wpAny_bind ?_))
  show wpAny _ X.A (do let _ ← comprehension (.ListComp elt [⟨tg, iter, ifs, 0⟩] scope pos) scope X.env _ (newList []) false (eval iter X.env) (some (assign (.Name y py) X.env))) _ _ s
  refine wpAny_bind (wpAny_mono (comp_run (use := some (assign (.Name y py) X.env)) (QQ := fun _ s' => SP X pins D .next s') N' caps hc hi hg ht he cap hcell hkind hnames hN hcap hs
    (fun C Dl fp s2 s4 H2 H4 pl σ' items ys I2 f2 I4 hpl nD newD hDC rv hz qn => ?_) I h) (fun _ s' hq => wpAny_pure (wpAny_pure hq)) fun _ _ e => e)
  have hC : s2.heap.objs.size ≤ C := I4.ok.above
  obtain ⟨m, hn, _⟩ := I4.loc
  obtain ⟨oC, es, ep, hoC, hdC, hrest⟩ := id hn
  have J : Inv X pins σ (upd H4 Dl (.lst ys)) s4 := comp_end I2 f2 I4 hpl nD newD hDC rv hz (Heap.SameBut.refl ..)
  have nC : upd H4 Dl (.lst ys) C = none := by rw [upd_ne (Ne.symm hDC)]; exact I4.free
  have c1 : C ≠ X.env.locals := Nat.ne_of_gt (Nat.lt_of_lt_of_le I2.lt hC)
  have c2 : C ∉ X.fs := I2.nofs hC
  have J1 : Inv X (pins ++ [(C, oC)]) σ (upd H4 Dl (.lst ys)) s4 := J.pins_of fun p hp => by
    rcases List.mem_append.mp hp with hp | hp
    · exact J.pin p (List.mem_append_right _ hp)
    · have e : p = (C, oC) := by simpa using hp
      subst e
      exact ⟨hoC, nC, c1, c2, fun v z => by rw [hdC] at z; cases z⟩
  show wpAny _ X.A (assign (.Name y py) X.env (.ref Dl)) _ _ s4
  refine wpAny_assign_Name (store_ok J1 hND hiy hy (show RelV (.ref Dl) (Value.ref Dl) from rfl) (fun s5 J5 => ?_) hfn)
  obtain ⟨e5, _⟩ := J5.pin (C, oC) (List.mem_append_right _ (List.mem_append_right _ (List.mem_singleton.mpr rfl)))
  refine ⟨m, ⟨oC, es, ep, e5, hdC, hrest⟩, fun h' sb => ?_⟩
  have J6 : Inv X pins (σ.set i (some (.ref Dl))) (upd H4 Dl (.lst ys)) s5 := J5.unpinned
  refine ⟨_, _, J6.turned (it := C) (t' := s5.toks) (fun b o hb e => sb.extBut b o hb e) nC c1 (.inr (Nat.le_trans I2.sz hC)) (fun x c e z => ?_) (fun p hp z => ?_), qn Dl nD⟩
  · obtain ⟨v, o, ho, _⟩ := I2.cell x c e
    exact absurd (Heap.lt_size ho) (by rw [z]; exact Nat.not_lt.mpr hC)
  · have e := (I2.pin p hp).1
    exact absurd (Heap.lt_size e) (by rw [z]; exact Nat.not_lt.mpr hC)
end L2
namespace L2
open PySem PySem.Spec PyProof.Rows
theorem SqT.keep {K : PySem.W.Frag} {H H' : Hp} {a : Addr} {xs : List V} (s : Same H H') (h : SqT K H a xs) : SqT K H' a xs := by
  rcases h with (h | ⟨o, h⟩) | h
  · exact .inl (.inl (s _ _ h))
  · exact .inl (.inr ⟨o, s _ _ h⟩)
  · exact .inr h
theorem SqL.keep {K : PySem.W.Frag} {H H' : Hp} {a : Addr} {xs : List V} (s : Same H H') (h : SqL K H a xs) : SqL K H' a xs := s.seq h
mutual
theorem DV.keep {K : PySem.W.Frag} {H H' : Hp} (s : Same H H') : ∀ {v : V} {d : PyData}, DV K H v d → DV K H' v d
  | _, _, .non => .non
  | _, _, .bl b => .bl b
  | _, _, .int i => .int i
  | _, _, .str x => .str x
  | _, _, .lst h q => .lst (h.keep s) (DVs.keep s q)
  | _, _, .tup h q => .tup (h.keep s) (DVs.keep s q)
  | _, _, .dct h => .dct (s _ _ h)
theorem DVs.keep {K : PySem.W.Frag} {H H' : Hp} (s : Same H H') : ∀ {vs : List V} {ds : List PyData}, DVs K H vs ds → DVs K H' vs ds
  | _, _, .nil => .nil
  | _, _, .cons h q => .cons (DV.keep s h) (DVs.keep s q)
end
section
variable {K : PySem.W.Frag} {H : Hp} {v : V} {vs : List V} {d d1 d2 d3 d4 : PyData} {ds : List PyData}
theorem DVs.len : ∀ {vs : List V} {ds : List PyData}, DVs K H vs ds → vs.length = ds.length
  | _, _, .nil => rfl
  | _, _, .cons _ q => by rw [List.length_cons, List.length_cons, DVs.len q]
theorem DVs.cons_of (h : DVs K H vs (d :: ds)) : ∃ x xs, vs = x :: xs ∧ DV K H x d ∧ DVs K H xs ds := by
  cases h with
  | cons h q => exact ⟨_, _, rfl, h, q⟩
theorem DV.tup_of (h : DV K H v (.tuple ds)) : ∃ a xs, v = .ref a ∧ SqT K H a xs ∧ DVs K H xs ds := by
  cases h with
  | tup h q => exact ⟨_, _, rfl, h, q⟩
theorem DV.lst_of (h : DV K H v (.list ds)) : ∃ a xs, v = .ref a ∧ SqL K H a xs ∧ DVs K H xs ds := by
  cases h with
  | lst h q => exact ⟨_, _, rfl, h, q⟩
theorem DVs.one (h : DVs K H vs [d1]) : ∃ x, vs = [x] ∧ DV K H x d1 := by
  cases h with
  | cons h q => cases q; exact ⟨_, rfl, h⟩
theorem DVs.two (h : DVs K H vs [d1, d2]) : ∃ x y, vs = [x, y] ∧ DV K H x d1 ∧ DV K H y d2 := by
  cases h with
  | cons h q =>
    obtain ⟨y, rfl, hy⟩ := q.one
    exact ⟨_, _, rfl, h, hy⟩
theorem DV.t2 (h : DV K H v (.tuple [d1, d2])) : ∃ a x y, v = .ref a ∧ SqT K H a [x, y] ∧ DV K H x d1 ∧ DV K H y d2 := by
  obtain ⟨a, xs, rfl, ha, q⟩ := h.tup_of
  obtain ⟨x, y, rfl, hx, hy⟩ := q.two
  exact ⟨a, x, y, rfl, ha, hx, hy⟩
theorem DV.int_of {i : Int} (h : DV K H v (.int i)) : v = .int i := by cases h; rfl
theorem DV.str_of {x : Str} (h : DV K H v (.str x)) : v = .str x := by cases h; rfl
theorem DVs.get : ∀ {vs : List V} {ds : List PyData} {i : Nat} {v : V}, DVs K H vs ds → vs[i]? = some v → ∃ d, ds[i]? = some d ∧ DV K H v d
  | _, _, _, _, .nil, e => by simp at e
  | _, _, 0, _, .cons h _, e => by simp at e; subst e; exact ⟨_, rfl, h⟩
  | _, _, i + 1, v, .cons _ q, e => by
    obtain ⟨d, h1, h2⟩ := DVs.get (i := i) (v := v) q (by simpa using e)
    exact ⟨d, by simpa using h1, h2⟩
theorem DVs.append : ∀ {vs ws : List V} {ds es : List PyData}, DVs K H vs ds → DVs K H ws es → DVs K H (vs ++ ws) (ds ++ es)
  | _, _, _, _, .nil, q => q
  | _, _, _, _, .cons h t, q => .cons h (DVs.append t q)
theorem DVs.take : ∀ {vs : List V} {ds : List PyData} (n : Nat), DVs K H vs ds → DVs K H (vs.take n) (ds.take n)
  | _, _, 0, _ => .nil
  | _, _, _ + 1, .nil => .nil
  | _, _, n + 1, .cons h t => .cons h (DVs.take n t)
theorem DVs.drop : ∀ {vs : List V} {ds : List PyData} (n : Nat), DVs K H vs ds → DVs K H (vs.drop n) (ds.drop n)
  | _, _, 0, h => h
  | _, _, _ + 1, .nil => .nil
  | _, _, n + 1, .cons _ t => DVs.drop n t
end
def tyD : PyData → String
  | .none => "NoneType"
  | .bool _ => "bool"
  | .int _ => "int"
  | .str _ => "str"
  | .list _ => "list"
  | .tuple _ => "tuple"
  | .dict _ => "dict"
section
variable {X : Cx}
theorem call_isiD : CallR X (.builtin "isinstance") (fun xs H Q => ∃ x d c b, xs = [x, .ty c] ∧ DV X.K H x d ∧ bsub (tyD d) c = some b ∧ Q (.bl b) H) := by
  intro pins s σ H xs us Q I r h
  obtain ⟨x, d, c, b, rfl, hd, e, q⟩ := h
  obtain ⟨u, v, rfl, ru, rv⟩ := vals2 r
  cases (show v = Value.type c from rv)
  have e' := kit_b (K := X.K) e
  have fin : ∀ tk, EP X pins σ Q (.bool b) { s with toks := tk } := fun tk => ⟨.bl b, H, I.tok _, rfl, q⟩
  cases hd with
  | non => exact isinst_ok I ru .non e' fin
  | bl b => exact isinst_ok I ru (.bl b) e' fin
  | int i => exact isinst_ok I ru (.int i) e' fin
  | str x => exact isinst_ok I ru (.str x) e' fin
  | lst h _ =>
    cases ru
    obtain ⟨its, rv, ⟨o, n, e1, e2, _⟩, _⟩ := I.list h
    exact PySem.W.kia_one PySem.W.kitx_list I.kIn ⟨o, e1, e2⟩ e' (fun z => nomatch z) fin
  | tup h _ =>
    cases ru
    obtain ⟨its, rv, ⟨o, e1, e2, _⟩, _⟩ := I.tuple h
    exact PySem.W.kia_one PySem.W.kitx_tuple I.kIn ⟨o, e1, e2⟩ e' (fun z => nomatch z) fin
  | dct h => exact isinst_ok I ru (.dK h) e' fin
end
section
variable {X : Cx} {K : PySem.W.Frag}
theorem ix_tupK (hK : X.K = K := by rfl) : IxR X (rIxT K) := hK ▸ ix_tup
end
def Nx (n : Nat) (Pv : Nat → St → List V → Hp → Prop) (i : Nat) (σ : St) (ys : List V) (H : Hp) : Prop := ∃ m', m' < n - i ∧ (m' = n - (i + 1) ∧ i + 1 ≤ n ∧ Pv (i + 1) σ ys H)
theorem nx {n : Nat} {Pv : Nat → St → List V → Hp → Prop} {i : Nat} {σ : St} {ys : List V} {H : Hp} (hi : i < n) (h : Pv (i + 1) σ ys H) : Nx n Pv i σ ys H := ⟨n - (i + 1), by omega, rfl, hi, h⟩
theorem lt_of_get {α : Type} {xs : List α} {i : Nat} {x : α} (h : xs[i]? = some x) : i < xs.length := (List.getElem?_eq_some_iff.mp h).1
theorem comp_list {K : PySem.W.Frag} {a : Addr} {xs : List V} {g : TG} {tt : TT} {te : TE} {Q : VK} {σ : St} {H : Hp} (Pv : Nat → St → List V → Hp → Prop) (h0 : Pv 0 σ [] H) (hz : ∀ i σ ys H, i ≤ xs.length → Pv i σ ys H → ys.length ≤ sizeLine ∧ SqL K H a xs)
    (hs : ∀ i x σ ys H, xs[i]? = some x → Pv i σ ys H → g x σ H fun σ2 H2 => tt σ2 H2 fun b H3 => if b = true then te σ2 H3 fun y H4 => Nx xs.length Pv i σ2 (ys ++ [y]) H4 else Nx xs.length Pv i σ2 ys H3)
    (hd : ∀ σ ys H p, Pv xs.length σ ys H → H p = none → Q (.ref p) (upd H p (.lst ys))) :
    tCompB g tt te (Itl K a) σ H Q := by
  refine ⟨fun i m σ ys H => m = xs.length - i ∧ i ≤ xs.length ∧ Pv i σ ys H, ⟨xs.length, by simp, Nat.zero_le _, h0⟩, ?_⟩
  rintro i m σ' ys H ⟨rfl, hi, p⟩
  obtain ⟨z, q⟩ := hz i σ' ys H hi p
  refine ⟨z, ?_⟩
  by_cases hlt : i < xs.length
  · refine .inr ⟨⟨xs, xs[i], q, by simp [hlt]⟩, fun x H' y => ?_⟩
    obtain ⟨rfl, y⟩ := y
    exact hs i x σ' ys _ (y xs q) p
  · have e : i = xs.length := by omega
    subst e
    exact .inl ⟨⟨xs, q, Nat.le_refl _⟩, fun r n => hd σ' ys _ r p n⟩
theorem comp_range {lo : Int} {n : Nat} {g : TG} {tt : TT} {te : TE} {Q : VK} {σ : St} {H : Hp} (Pv : Nat → St → List V → Hp → Prop) (h0 : Pv 0 σ [] H) (hz : ∀ i σ ys H, i ≤ n → Pv i σ ys H → ys.length ≤ sizeLine)
    (hs : ∀ i σ ys H, i < n → Pv i σ ys H → g (.int (lo + i)) σ H fun σ2 H2 => tt σ2 H2 fun b H3 => if b = true then te σ2 H3 fun y H4 => Nx n Pv i σ2 (ys ++ [y]) H4 else Nx n Pv i σ2 ys H3)
    (hd : ∀ σ ys H p, Pv n σ ys H → H p = none → Q (.ref p) (upd H p (.lst ys))) :
    tCompB g tt te (Itr lo n) σ H Q := by
  refine ⟨fun i m σ ys H => m = n - i ∧ i ≤ n ∧ Pv i σ ys H, ⟨n, by simp, Nat.zero_le _, h0⟩, ?_⟩
  rintro i m σ' ys H ⟨rfl, hi, p⟩
  refine ⟨hz i σ' ys H hi p, ?_⟩
  by_cases hlt : i < n
  · refine .inr ⟨hlt, fun x H' y => ?_⟩
    obtain ⟨rfl, rfl⟩ := y
    exact hs i σ' ys _ hlt p
  · have e : i = n := by omega
    subst e
    exact .inl ⟨Nat.le_refl _, fun r n => hd σ' ys _ r p n⟩
theorem comp_list0 {K : PySem.W.Frag} {a : Addr} {xs : List V} {g : TG} {te : TE} {Q : VK} {σ : St} {H : Hp} (Pv : Nat → St → List V → Hp → Prop) (h0 : Pv 0 σ [] H) (hz : ∀ i σ ys H, i ≤ xs.length → Pv i σ ys H → ys.length ≤ sizeLine ∧ SqL K H a xs)
    (hs : ∀ i x σ ys H, xs[i]? = some x → Pv i σ ys H → g x σ H fun σ2 H2 => te σ2 H2 fun y H4 => Nx xs.length Pv i σ2 (ys ++ [y]) H4)
    (hd : ∀ σ ys H p, Pv xs.length σ ys H → H p = none → Q (.ref p) (upd H p (.lst ys))) : tCompB g tYes te (Itl K a) σ H Q :=
  comp_list Pv h0 hz (fun i x σ ys H hx hp => by
    have := hs i x σ ys H hx hp
    simpa only [tYes, if_true] using this) hd
theorem comp_range0 {lo : Int} {n : Nat} {g : TG} {te : TE} {Q : VK} {σ : St} {H : Hp} (Pv : Nat → St → List V → Hp → Prop) (h0 : Pv 0 σ [] H) (hz : ∀ i σ ys H, i ≤ n → Pv i σ ys H → ys.length ≤ sizeLine)
    (hs : ∀ i σ ys H, i < n → Pv i σ ys H → g (.int (lo + i)) σ H fun σ2 H2 => te σ2 H2 fun y H4 => Nx n Pv i σ2 (ys ++ [y]) H4)
    (hd : ∀ σ ys H p, Pv n σ ys H → H p = none → Q (.ref p) (upd H p (.lst ys))) : tCompB g tYes te (Itr lo n) σ H Q :=
  comp_range Pv h0 hz (fun i σ ys H hx hp => by
    have := hs i σ ys H hx hp
    simpa only [tYes, if_true] using this) hd
theorem nocap {caps : List (Option Nat)} {P : Nat → Nat → Prop} (h : caps.all (·.isNone) = true) : ∀ i j, caps[i]? = some (some j) → P i j := fun i j e => by
  have := List.all_eq_true.mp h _ (List.mem_of_getElem? e)
  cases this
end L2
namespace L2
open PySem PySem.Spec PyProof.Rows
theorem RoomB.room {k : Nat} {A : Around} (r : RoomB true k A) : Room k A := ⟨r.hd rfl, r.dp, r.un⟩
structure MC (P : Program) (w : World) (K : PySem.W.Frag) (mg : Str → Option Value) (base : Heap) (k : Nat) (C : Addr) (m : Str) (ps : List Str) (sp : Sp) : Prop where
  ex : ∃ (f : Addr) (fd : FuncData), FnB P w K mg base true k f fd ps sp ∧ Meth K C m f ∧ Binds K fd ps []
  cl : Cls K C
structure MtFn (K : PySem.W.Frag) (C : Addr) (m qual : Str) (st : Stmt) : Prop where
  ex : ∃ (f : Addr) (fd : FuncData), Fun K m qual st f fd ∧ Meth K C m f
  cl : Cls K C
theorem MtFn.mc {P : Program} {w : World} {K : PySem.W.Frag} {mg : Str → Option Value} {base : Heap} {C : Addr} {m qual : Str} {st : Stmt} {N ps : List Str} {k : Nat} {sp : Sp} (T : MtFn K C m qual st) (S : FnScope N ps (defScope st))
    (hb : ∀ (kV doc pm : Value) (an : Option Addr) (cdv ct : Value) (us : List Value), us.length = ps.length → bindArgs (PySem.W.fnOf m qual (defArgs st) (defBody st) (defScope st) .none kV doc pm an cdv ct) ⟨us, []⟩ = pure (ps.zip us))
    (len : ∀ vs H Q E, sp vs H Q E → vs.length = ps.length)
    (hbody : ∀ (f : Addr) (cdv : Value) (A : Around) (outer : List Env) (s : Shared) (H : Hp) (vs : List V) (Q : VK) (E : XK), RoomB true k (A.deeper (envOfC qual (defScope st) s.heap.objs.size f cdv)) → sp vs H Q E →
      ∃ t, PSs (cxB true P w K mg base N qual (defScope st) f cdv A outer s H E).nox (defBody st) t ∧ t { nx := fun _ H' => Q .non H', rt := Q } (start N vs) H) : MC P w K mg base (k + 1) C m ps sp := by
  obtain ⟨f, fd, F, hm⟩ := T.ex
  obtain ⟨oc, od, kV, doc, pm, an, cdv, ct, osl, rfl, l, cd⟩ := id F.ex
  refine ⟨⟨f, _, fnB_of l cd S len fun A outer s H vs Q E hr h => ?_, hm, F.binds hb⟩, T.cl⟩
  obtain ⟨t, h1, h2⟩ := hbody f cdv A outer s H vs Q E hr h
  exact ⟨t, h1.nox, h2⟩
structure MkC (P : Program) (w : World) (K : PySem.W.Frag) (mg : Str → Option Value) (base : Heap) (k : Nat) (x : Str) (C : Addr) (ps : List Str) (sp : Sp) : Prop where
  ex : ∃ (f : Addr) (fd : FuncData), FnB P w K mg base true k f fd ps sp ∧ Mk K C f ∧ Binds K fd ps []
  mg : mg x = some (.ref C)
structure MkFn (K : PySem.W.Frag) (mg : Str → Option Value) (x : Str) (C : Addr) (qual : Str) (st : Stmt) : Prop where
  ex : ∃ (f : Addr) (fd : FuncData), Fun K "__init__" qual st f fd ∧ Mk K C f
  mg : mg x = some (.ref C)
theorem MkFn.mkc {P : Program} {w : World} {K : PySem.W.Frag} {mg : Str → Option Value} {base : Heap} {x : Str} {C : Addr} {qual : Str} {st : Stmt} {N ps : List Str} {k : Nat} {sp : Sp} (T : MkFn K mg x C qual st) (S : FnScope N ps (defScope st))
    (hb : ∀ (kV doc pm : Value) (an : Option Addr) (cdv ct : Value) (us : List Value), us.length = ps.length → bindArgs (PySem.W.fnOf "__init__" qual (defArgs st) (defBody st) (defScope st) .none kV doc pm an cdv ct) ⟨us, []⟩ = pure (ps.zip us))
    (len : ∀ vs H Q E, sp vs H Q E → vs.length = ps.length)
    (hbody : ∀ (f : Addr) (cdv : Value) (A : Around) (outer : List Env) (s : Shared) (H : Hp) (vs : List V) (Q : VK) (E : XK), RoomB true k (A.deeper (envOfC qual (defScope st) s.heap.objs.size f cdv)) → sp vs H Q E →
      ∃ t, PSs (cxB true P w K mg base N qual (defScope st) f cdv A outer s H E).nox (defBody st) t ∧ t { nx := fun _ H' => Q .non H', rt := Q } (start N vs) H) : MkC P w K mg base (k + 1) x C ps sp := by
  obtain ⟨f, fd, F, hm⟩ := T.ex
  obtain ⟨oc, od, kV, doc, pm, an, cdv, ct, osl, rfl, l, cd⟩ := id F.ex
  refine ⟨⟨f, _, fnB_of l cd S len fun A outer s H vs Q E hr h => ?_, hm, F.binds hb⟩, T.mg⟩
  obtain ⟨t, h1, h2⟩ := hbody f cdv A outer s H vs Q E hr h
  exact ⟨t, h1.nox, h2⟩
section
variable {X : Cx} {k : Nat} {C : Addr} {ps : List Str} {sp : Sp} {x m : Str} {p pos apos : Pos} {e o : Expr} {es : List Expr} {ta : TE} {t : TA}
def tMB (P : Program) (w : World) (K : PySem.W.Frag) (mg : Str → Option Value) (base : Heap) (k : Nat) (m : Str) (ta : TE) (t : TA) : TE := fun σ H Q => ta σ H fun x H1 => ∃ a C dx fs ps sp, x = .ref a ∧ H1 a = some (.ins C dx fs) ∧ fs.lookup m = none ∧
  MC P w K mg base k C m ps sp ∧ t σ H1 fun vs H2 => sp (x :: vs) H2 Q E0
theorem pe_mB {pl : Sem Bool} (he : PE X o ta) (hr : RoomB true k X.A) (ha : PA X (e :: es) t)
    (hst : starEach (e :: es) X.env = (false, eval e X.env) :: starEach es X.env := by rfl) (hpl : (backTo pos (starEach es X.env)).any (·.1) = false := by rfl)
    (ht : eval (.Call (.Attribute o m apos) (e :: es) [] pos) X.env = (do
      let ov ← eval o X.env
      standAt apos.atName
      let (f, first) ← holding [ov] (getMethod ov m pl)
      callWith pos f first (backTo pos (starEach (e :: es) X.env)) (backToKw pos (keywordEach [] X.env))) := by rfl) :
    PE X (.Call (.Attribute o m apos) (e :: es) [] pos) (tMB X.prog X.w X.K X.mg X.base k m ta t) := by
  intro pins s σ H Q I h
  refine PySem.W.methodCall_KW (pl := pl) (thn (he pins s σ H _ I h) fun u s1 ⟨x, H1, I1, rx, a, C, dx, fs, ps, sp, ex, ea, l, M, q⟩ => ?_) ht
  subst ex
  obtain rfl : u = Value.ref a := rx
  obtain ⟨f, fd, F, hm, hb⟩ := M.ex
  refine getmeth_ok I1 ea M.cl hm l ?_
  refine PySem.W.callWith_K (first := [.ref a]) (h₀ := X.base) I.ok.mod.kin hm.kp (thn (ha pos pins s1 σ H1 _ I1 q) fun us s2 ⟨vs, H2, I2, r, q2⟩ => ⟨I2.kIn, ?_⟩) hst hpl
  exact run_fn (us := .ref a :: us) (vs := .ref a :: vs) (dvs := []) (ds := []) (E := E0) F.ok hr.room hb .nil pass01 I2 (.cons rfl r) (by rw [List.append_nil]; exact q2)
theorem pe_mB0 {pl : Sem Bool} (he : PE X o ta) (hr : RoomB true k X.A)
    (ht : eval (.Call (.Attribute o m apos) [] [] pos) X.env = (do
      let ov ← eval o X.env
      standAt apos.atName
      let (f, first) ← holding [ov] (getMethod ov m pl)
      callWith pos f first (backTo pos (starEach [] X.env)) (backToKw pos (keywordEach [] X.env))) := by rfl) :
    PE X (.Call (.Attribute o m apos) [] [] pos) (tMB X.prog X.w X.K X.mg X.base k m ta tNil) := by
  intro pins s σ H Q I h
  refine PySem.W.methodCall_KW (pl := pl) (thn (he pins s σ H _ I h) fun u s1 ⟨x, H1, I1, rx, a, C, dx, fs, ps, sp, ex, ea, l, M, q⟩ => ?_) ht
  subst ex
  obtain rfl : u = Value.ref a := rx
  obtain ⟨f, fd, F, hm, hb⟩ := M.ex
  refine getmeth_ok I1 ea M.cl hm l ?_
  exact PySem.W.callWith_K0 (first := [.ref a]) I1.kIn hm.kp (run_fn (us := [.ref a]) (vs := [.ref a]) (dvs := []) (ds := []) (E := E0) F.ok hr.room hb .nil pass01 I1 (.cons rfl .nil) q)
theorem pe_mkB (M : MkC X.prog X.w X.K X.mg X.base k x C ps sp) (hr : RoomB true (k + 1) X.A) (ha : PA X (e :: es) t) (hg : Gl X x := by rfl) (hdb : (x == ("__debug__" : Str)) = false := by decide)
    (he : starEach (e :: es) X.env = (false, eval e X.env) :: starEach es X.env := by rfl) (hpl : (backTo pos (starEach es X.env)).any (·.1) = false := by rfl) :
    PE X (.Call (.Name x p) (e :: es) [] pos) (tMake C sp [] E0 t) := by
  obtain ⟨f, fd, F, hm, hb⟩ := M.ex
  exact pe_make hm F.ok hr.room hg M.mg hb .nil pass01 ha hdb he hpl
theorem pe_fldB {f : Str} (he : PE X e ta) (hb : attributeBase e f X.env (eval e X.env) = eval e X.env := by rfl) : PE X (.Attribute e f pos) (tFld X.K ta f) := pe_fld he hb
theorem ps_fldB {f : Str} {pos' : Pos} {value : Expr} {tv : TE} (ha : PE X o ta) (hv : PE X value tv) (hs : swapsWith value (some (.Attribute o f pos')) pos.line X.env = pure false := by rfl) : PS X (.Assign [.Attribute o f pos'] value pos) (sFld X.K ta tv f) := ps_fld ha hv hs
end
end L2
namespace L2
open PySem PySem.Spec PyProof.Rows
theorem clos_run (env : Env) : ∀ (l : List (Str × NameKind)) (acc : List (Str × Addr)), (∀ y ∈ l, y.2 = .free → ∃ c, env.cells.lookup y.1 = some c) →
    ∃ cl, (forIn l acc fun (x : Str × NameKind) (cs : List (Str × Addr)) => (if (x.2 == NameKind.free) = true then (cellOf env x.1 >>= fun a => pure (ForInStep.yield ((x.1, a) :: cs))) else pure (ForInStep.yield cs) : Sem (ForInStep (List (Str × Addr))))) = pure cl ∧
      (∀ y c, cl.lookup y = some c → acc.lookup y = some c ∨ env.cells.lookup y = some c) ∧ (∀ y c, acc.lookup y = some c → ∃ c', cl.lookup y = some c') ∧ ∀ y ∈ l, y.2 = .free → ∃ c, cl.lookup y.1 = some c := by
  intro l
  induction l with
  | nil => intro acc _; exact ⟨acc, rfl, fun y c e => .inl e, fun y c e => ⟨c, e⟩, fun _ h => nomatch h⟩
  | cons x r ih =>
    intro acc h
    obtain ⟨n, k⟩ := x
    have hr : ∀ y ∈ r, y.2 = .free → ∃ c, env.cells.lookup y.1 = some c := fun y hy => h y (List.mem_cons_of_mem _ hy)
    rw [List.forIn_cons]
    by_cases hk : k = .free
    · subst hk
      obtain ⟨c, hc⟩ := h (n, .free) List.mem_cons_self rfl
      have ec : cellOf env n = pure c := by unfold cellOf; rw [show env.cells.lookup n = some c from hc]
      rw [if_pos (by rfl), ec, pure_bind, pure_bind]
      obtain ⟨cl, e, h1, h2, h3⟩ := ih ((n, c) :: acc) hr
      refine ⟨cl, e, fun y c' hy => ?_, fun y c' hy => ?_, fun y hy hf => ?_⟩
      · rcases h1 y c' hy with z | z
        · rw [List.lookup_cons] at z
          split at z
          · rename_i ey
            have ey : y = n := by simpa using ey
            subst ey
            cases z
            exact .inr hc
          · exact .inl z
        · exact .inr z
      · by_cases ey : y = n
        · subst ey
          exact h2 y c (by simp)
        · have eb : (y == n) = false := by simpa using ey
          exact h2 y c' (by rw [List.lookup_cons, eb]; exact hy)
      · rcases List.mem_cons.mp hy with z | z
        · subst z
          exact h2 n c (by simp)
        · exact h3 y z hf
    · have hb : ¬ (k == NameKind.free) = true := by simpa using hk
      rw [if_neg hb, pure_bind]
      obtain ⟨cl, e, h1, h2, h3⟩ := ih acc hr
      refine ⟨cl, e, h1, h2, fun y hy hf => ?_⟩
      rcases List.mem_cons.mp hy with z | z
      · subst z; exact absurd hf hk
      · exact h3 y z hf
theorem cap_of {X : Cx} {scope : Scope} (hcell : ∀ y ∈ scope.names, y.2 ≠ .cell) (hf : ∀ y ∈ scope.names, y.2 = .free → ∃ c, X.env.cells.lookup y.1 = some c) : ∃ cl, CapOk X scope cl := by
  obtain ⟨cl, e, h1, h2, h3⟩ := clos_run X.env scope.names [] hf
  refine ⟨cl, ?_, fun y c hy => ?_, fun y hy => ?_⟩
  · unfold closureFor
    rw [show (pure cl : Sem _) = (pure cl >>= fun cs => pure cs) by rw [pure_bind], ← e]
  · rcases h1 y c hy with z | z
    · simp at z
    · exact z
  · have hm : ∃ k, (y, k) ∈ (relabel scope X.env).names ∧ (k = .cell ∨ k = .free) := by
      rcases hy with z | z
      · exact ⟨_, PySem.mem_of_lookup z, .inl rfl⟩
      · exact ⟨_, PySem.mem_of_lookup z, .inr rfl⟩
    obtain ⟨k, hm, hk⟩ := hm
    unfold relabel at hm
    obtain ⟨⟨n, k'⟩, hn, e'⟩ := List.mem_map.mp hm
    have hk' : k' = .free := by
      by_cases z : k' = .free
      · exact z
      · have zb : (k' == NameKind.free) = false := by simpa using z
        simp only [zb, Bool.false_and, Bool.false_eq_true, if_false, Prod.mk.injEq] at e'
        obtain ⟨_, rfl⟩ := e'
        rcases hk with rfl | rfl
        · exact absurd rfl (hcell _ hn)
        · exact absurd rfl z
    subst hk'
    have en : n = y := by
      dsimp only at e'
      split at e'
      · exact (Prod.mk.inj e').1
      · exact (Prod.mk.inj e').1
    subst en
    exact h3 _ hn rfl
theorem cap_def {X : Cx} {scope : Scope} {n : Nat} (hc : X.env.cells = cellsFrom n X.env.scope.names [] := by rfl) (hcell : ∀ y ∈ scope.names, y.2 ≠ .cell) (hf : ∀ y ∈ scope.names, y.2 = .free → X.env.scope.names.lookup y.1 = some .cell) : ∃ cl, CapOk X scope cl :=
  cap_of hcell fun y hy hz => by
    rw [hc]
    exact cell_has (hf y hy hz)
section
variable {X : Cx} {tg elt iter : Expr} {ifs : List Expr} {scope : Scope} {pos spos py : Pos} {wi : TI} {g : TG} {tt : TT} {te : TE}
theorem pe_compX (N' : List Str) (caps : List (Option Nat)) (hc : X.calm = true) (hi : PI X tg iter wi)
    (hg : ∀ cl C fp pins s2 H2, PG (cxC X scope cl N' C fp pins s2 H2) tg g) (ht : ∀ cl C fp pins s2 H2, PIfs (cxC X scope cl N' C fp pins s2 H2) ifs tt) (he : ∀ cl C fp pins s2 H2, PE (cxC X scope cl N' C fp pins s2 H2) elt te)
    (cap : ∃ cl, CapOk X scope cl) (hcell : ∀ y ∈ scope.names, y.2 ≠ .cell) (hkind : scope.kind = .function) (hnames : ∀ y ∈ scope.names, y.2 = .local → scope.names.lookup y.1 = some .local) (hN : caps.length = N'.length)
    (hcap : ∀ (i j : Nat), caps[i]? = some (some j) → ∃ y : Str, N'[i]? = some y ∧ X.N[j]? = some y ∧ (relabel scope X.env).names.lookup y = some .cell ∧ X.env.scope.names.lookup y = some .cell)
    (hs : ∀ x, foldedSetIterable iter X.env x = pure x := by intro _; rfl) :
    PE X (.ListComp elt [⟨tg, iter, ifs, 0⟩] scope pos) (tComp wi g tt te caps) := by
  obtain ⟨cl, cap⟩ := cap
  exact pe_comp N' caps hc hi (hg cl) (ht cl) (he cl) cap hcell hkind hnames hN hcap hs
theorem ps_compX {y : Str} {i : Nat} (hND : X.N.Nodup) (hiy : X.N[i]? = some y) (hy : Loc X.env.scope y) (N' : List Str) (caps : List (Option Nat)) (hc : X.calm = true) (hi : PI X tg iter wi)
    (hg : ∀ cl C fp pins s2 H2, PG (cxC X scope cl N' C fp pins s2 H2) tg g) (ht : ∀ cl C fp pins s2 H2, PIfs (cxC X scope cl N' C fp pins s2 H2) ifs tt) (he : ∀ cl C fp pins s2 H2, PE (cxC X scope cl N' C fp pins s2 H2) elt te)
    (cap : ∃ cl, CapOk X scope cl) (hcell : ∀ y ∈ scope.names, y.2 ≠ .cell) (hkind : scope.kind = .function) (hnames : ∀ y ∈ scope.names, y.2 = .local → scope.names.lookup y.1 = some .local) (hN : caps.length = N'.length)
    (hcap : ∀ (i j : Nat), caps[i]? = some (some j) → ∃ y : Str, N'[i]? = some y ∧ X.N[j]? = some y ∧ (relabel scope X.env).names.lookup y = some .cell ∧ X.env.scope.names.lookup y = some .cell)
    (hs : ∀ x, foldedSetIterable iter X.env x = pure x := by intro _; rfl) (hsw : swapsWith (.ListComp elt [⟨tg, iter, ifs, 0⟩] scope pos) (some (.Name y py)) spos.line X.env = pure true := by rfl)
    (hfn : X.fn y = true ∨ X.env.scope.names.lookup y = some .local := by first | exact .inl rfl | exact .inr rfl | assumption) :
    PS X (.Assign [.Name y py] (.ListComp elt [⟨tg, iter, ifs, 0⟩] scope pos) spos) (tSetC i (tComp wi g tt te caps)) := by
  obtain ⟨cl, cap⟩ := cap
  exact ps_comp hND hiy hy N' caps hc hi (hg cl) (ht cl) (he cl) cap hcell hkind hnames hN hcap hs hsw hfn
end
end L2
namespace Fr
theorem num_den_le {r : Rat} {t b : Int} (h : b ≠ 0) (e : r = Rat.divInt t b) : r.num.natAbs ≤ t.natAbs ∧ r.den ≤ b.natAbs := by
  subst e
  have h1 := lt_abs t b h
  have h2 := lb_abs (t := t) h
  rw [lt_num h] at h1
  rw [lb_den h, Int.natAbs_natCast] at h2
  exact ⟨h1, h2⟩
structure Bd (k : Nat) (q : Rat) : Prop where
  n : q.num.natAbs < 2 ^ k
  d : q.den < 2 ^ k
theorem pow_le {m n : Nat} (h : m ≤ n) : 2 ^ m ≤ 2 ^ n := Nat.pow_le_pow_right (by decide) h
theorem Bd.of {n : Nat} {t b : Int} (b0 : b ≠ 0) (ht : t.natAbs < 2 ^ n) (hb : b.natAbs < 2 ^ n) : Bd n (Rat.divInt t b) := by
  obtain ⟨h1, h2⟩ := num_den_le b0 (rfl : Rat.divInt t b = Rat.divInt t b)
  exact ⟨by omega, by omega⟩
end Fr
namespace Op
open Fr
inductive Pc where
  | gap (d : Rat)
  | glass (p : Rat)
  | stop (lo hi : Rat)
abbrev Ray := Rat × Rat
end Op
namespace Lib
open PySem L2 Fr Op
def frD (q : Rat) : PyData := .tuple [.int q.num, .int (q.den : Int)]
def pcD : Pc → PyData
  | .gap d => .tuple [.str "gap", frD d]
  | .glass p => .tuple [.str "glass", frD p]
  | .stop lo hi => .tuple [.str "stop", frD lo, frD hi]
def benchD (ps : List Pc) : PyData := .list (ps.map pcD)
section
variable {K : PySem.W.Frag} {H : Hp} {v : V}
theorem dv_fr {q : Rat} {a : Addr} (h : SqT K H a [.int q.num, .int (q.den : Int)]) : DV K H (.ref a) (frD q) := .tup h (.cons (.int _) (.cons (.int _) .nil))
theorem dv_low {t b : Int} {p : Addr} (b0 : b ≠ 0) : DV K (upd H p (.tup [.int (Fr.lt t b), .int (Fr.lb t b)])) (.ref p) (frD (Rat.divInt t b)) := by
  rw [frO_of b0]
  exact dv_fr (SqT.of upd_same)
end
structure Flat (n : Nat) (d : PyData) : Prop where
  c : d.canLay0 = true
  d : d.depth ≤ n
theorem Flat.sh {n : Nat} {d : PyData} (h : Flat n d) (hn : n ≤ 64) : SeqAt.shaped d = true := by
  unfold SeqAt.shaped
  rw [h.c, Bool.true_and]
  exact decide_eq_true (Nat.le_trans h.d hn)
theorem flat_all {n : Nat} : ∀ {ds : List PyData}, (∀ d ∈ ds, Flat n d) → PyData.canLayAll0 ds = true ∧ PyData.depthAll ds ≤ n
  | [], _ => ⟨rfl, Nat.zero_le _⟩
  | d :: ds, h => by
    obtain ⟨h1, h2⟩ := flat_all (fun x hx => h x (List.mem_cons_of_mem _ hx))
    have h3 := h d List.mem_cons_self
    refine ⟨?_, ?_⟩
    · rw [PyData.canLayAll0, h3.c, h1]; rfl
    · rw [PyData.depthAll]; exact Nat.max_le.mpr ⟨h3.d, h2⟩
theorem flat_tup {n : Nat} {ds : List PyData} (h : ∀ d ∈ ds, Flat n d) : Flat (n + 1) (.tuple ds) := ⟨(flat_all h).1, by rw [PyData.depth]; exact Nat.succ_le_succ (flat_all h).2⟩
theorem flat_lst {n : Nat} {ds : List PyData} (h : ∀ d ∈ ds, Flat n d) : Flat (n + 1) (.list ds) := ⟨(flat_all h).1, by rw [PyData.depth]; exact Nat.succ_le_succ (flat_all h).2⟩
theorem flat_fr (q : Rat) : Flat 1 (frD q) := ⟨rfl, by show 1 ≤ 1; exact Nat.le_refl _⟩
theorem flat_pc : ∀ p : Pc, Flat 2 (pcD p)
  | .gap d => flat_tup fun x hx => by
    simp only [List.mem_cons, List.not_mem_nil, or_false] at hx
    rcases hx with rfl | rfl
    · exact ⟨by decide +kernel, by decide⟩
    · exact flat_fr _
  | .glass d => flat_tup fun x hx => by
    simp only [List.mem_cons, List.not_mem_nil, or_false] at hx
    rcases hx with rfl | rfl
    · exact ⟨by decide +kernel, by decide⟩
    · exact flat_fr _
  | .stop lo hi => flat_tup fun x hx => by
    simp only [List.mem_cons, List.not_mem_nil, or_false] at hx
    rcases hx with rfl | rfl | rfl
    · exact ⟨by decide +kernel, by decide⟩
    · exact flat_fr _
    · exact flat_fr _
theorem flat_map {α : Type} {n : Nat} {f : α → PyData} (h : ∀ x, Flat n (f x)) (l : List α) : ∀ d ∈ l.map f, Flat n d := fun d hd => by
  obtain ⟨x, _, rfl⟩ := List.mem_map.mp hd
  exact h x
theorem flat_bench (ps : List Pc) : Flat 3 (benchD ps) := flat_lst (flat_map flat_pc ps)
section
variable {K : PySem.W.Frag} {H : Hp} {x y : V} {d : PyData} {Q : VK}
theorem eq_same {n : Nat} (hx : DV K H x d) (hy : DV K H y d) (f : Flat n d) (k : Q (.bl true) H) (hn : n ≤ 64 := by decide) : rEqD K x y H Q :=
  ⟨d, d, hx, hy, f.sh hn, f.sh hn, by rw [SeqAt.eqv_refl d f.c]; exact k⟩
theorem ne_same {n : Nat} (hx : DV K H x d) (hy : DV K H y d) (f : Flat n d) (k : Q (.bl false) H) (hn : n ≤ 64 := by decide) : rNeD K x y H Q :=
  ⟨d, d, hx, hy, f.sh hn, f.sh hn, by rw [SeqAt.eqv_refl d f.c]; exact k⟩
theorem ne_frD {p q : Rat} (hx : DV K H x (frD p)) (hy : DV K H y (frD q)) (k : Q (.bl (!decide (p = q))) H) : rNeD K x y H Q :=
  ⟨_, _, hx, hy, (flat_fr p).sh (by decide), (flat_fr q).sh (by decide), by unfold frD; rw [eqv_fr]; exact k⟩
end
mutual
def noL : PyData → Bool
  | .list _ => false
  | .dict _ => false
  | .tuple ds => noLs ds
  | .none => true
  | .bool _ => true
  | .int _ => true
  | .str _ => true
def noLs : List PyData → Bool
  | [] => true
  | d :: ds => noL d && noLs ds
end
def SameT (H H' : Hp) : Prop := ∀ b xs, (H b = some (.tup xs) → H' b = some (.tup xs)) ∧ ∀ o, H b = some (.frz o (.tup xs)) → H' b = some (.frz o (.tup xs))
theorem sameT_upd {H : Hp} {l : Addr} {xs : List V} (h : H l = some (.lst xs)) (o : HO) : SameT H (upd H l o) := fun b ys => ⟨fun e => by rw [upd_ne (fun z => by rw [z, h] at e; cases e)]; exact e, fun o e => by rw [upd_ne (fun z => by rw [z, h] at e; cases e)]; exact e⟩
mutual
theorem dv_keepT {K : PySem.W.Frag} {H H' : Hp} (s : SameT H H') : ∀ {v : V} {d : PyData}, noL d = true → DV K H v d → DV K H' v d
  | _, _, _, .non => .non
  | _, _, _, .bl b => .bl b
  | _, _, _, .int i => .int i
  | _, _, _, .str x => .str x
  | _, _, n, .lst h q => nomatch n
  | _, _, n, .tup h q => .tup (by
      rcases h with (h | ⟨o, h⟩) | h
      · exact .inl (.inl ((s _ _).1 h))
      · exact .inl (.inr ⟨o, (s _ _).2 o h⟩)
      · exact .inr h) (dvs_keepT s n q)
  | _, _, n, .dct h => nomatch n
theorem dvs_keepT {K : PySem.W.Frag} {H H' : Hp} (s : SameT H H') : ∀ {vs : List V} {ds : List PyData}, noLs ds = true → DVs K H vs ds → DVs K H' vs ds
  | _, _, _, .nil => .nil
  | _, _, n, .cons h q => .cons (dv_keepT s (by rw [noLs] at n; exact (Bool.and_eq_true_iff.mp n).1) h) (dvs_keepT s (by rw [noLs] at n; exact (Bool.and_eq_true_iff.mp n).2) q)
end
theorem noLs_map {α : Type} {f : α → PyData} (h : ∀ x, noL (f x) = true) : ∀ l : List α, noLs (l.map f) = true
  | [] => rfl
  | x :: l => by rw [List.map_cons, noLs, h x, noLs_map h l]; rfl
theorem DV.upd2 {K : PySem.W.Frag} {H : Hp} {r : Addr} {x y : V} {d1 d2 : PyData} (hr : H r = none) (hx : DV K H x d1) (hy : DV K H y d2) : DV K (upd H r (.tup [x, y])) (.ref r) (.tuple [d1, d2]) :=
  .tup (SqT.of upd_same) (.cons (hx.keep (same_new hr _)) (.cons (hy.keep (same_new hr _)) .nil))
def ratD : PyData → Bool
  | .tuple [.int t, .int b] => decide (1 ≤ b) && decide (Fr.gcd t b = 1)
  | _ => false
theorem ratD_fr (q : Rat) : ratD (frD q) = true := by
  show (decide (1 ≤ (q.den : Int)) && decide (Fr.gcd q.num (q.den : Int) = 1)) = true
  rw [decide_eq_true (by have := denp q; omega), decide_eq_true (frO_gcd q)]
  rfl
theorem ratD_of {d : PyData} (h : ratD d = true) : ∃ q : Rat, d = frD q := by
  unfold ratD at h
  split at h
  · rename_i t b
    obtain ⟨h1, h2⟩ := Bool.and_eq_true_iff.mp h
    obtain ⟨q, rfl, rfl⟩ := rat_of (of_decide_eq_true h1) (of_decide_eq_true h2)
    exact ⟨q, rfl⟩
  · cases h
def isIntD : PyData → Bool
  | .int _ => true
  | _ => false
def isTupD : PyData → Bool
  | .tuple _ => true
  | _ => false
theorem isInt_of {d : PyData} (h : isIntD d = true) : ∃ i, d = .int i := by
  cases d with
  | int i => exact ⟨i, rfl⟩
  | _ => cases h
theorem isTup_of {d : PyData} (h : isTupD d = true) : ∃ ds, d = .tuple ds := by
  cases d with
  | tuple ds => exact ⟨ds, rfl⟩
  | _ => cases h
theorem isInt_b (d : PyData) : ∃ b c, bsub (tyD d) "int" = some b ∧ bsub (tyD d) "bool" = some c ∧ (b && !c) = isIntD d := by
  cases d with
  | none => exact ⟨false, false, by show bsub "NoneType" "int" = _; decide +kernel, by show bsub "NoneType" "bool" = _; decide +kernel, rfl⟩
  | bool b => exact ⟨true, true, by show bsub "bool" "int" = _; decide +kernel, by show bsub "bool" "bool" = _; decide +kernel, rfl⟩
  | int i => exact ⟨true, false, by show bsub "int" "int" = _; decide +kernel, by show bsub "int" "bool" = _; decide +kernel, rfl⟩
  | str x => exact ⟨false, false, by show bsub "str" "int" = _; decide +kernel, by show bsub "str" "bool" = _; decide +kernel, rfl⟩
  | list xs => exact ⟨false, false, by show bsub "list" "int" = _; decide +kernel, by show bsub "list" "bool" = _; decide +kernel, rfl⟩
  | tuple xs => exact ⟨false, false, by show bsub "tuple" "int" = _; decide +kernel, by show bsub "tuple" "bool" = _; decide +kernel, rfl⟩
  | dict xs => exact ⟨false, false, by show bsub "dict" "int" = _; decide +kernel, by show bsub "dict" "bool" = _; decide +kernel, rfl⟩
theorem isTup_b (d : PyData) : bsub (tyD d) "tuple" = some (isTupD d) := by
  cases d with
  | none => show bsub "NoneType" "tuple" = some false; decide +kernel
  | bool b => show bsub "bool" "tuple" = some false; decide +kernel
  | int i => show bsub "int" "tuple" = some false; decide +kernel
  | str x => show bsub "str" "tuple" = some false; decide +kernel
  | list xs => show bsub "list" "tuple" = some false; decide +kernel
  | tuple xs => show bsub "tuple" "tuple" = some true; decide +kernel
  | dict xs => show bsub "dict" "tuple" = some false; decide +kernel
def isLstD : PyData → Bool
  | .list _ => true
  | _ => false
theorem isLst_b (d : PyData) : bsub (tyD d) "list" = some (isLstD d) := by
  cases d with
  | none => show bsub "NoneType" "list" = some false; decide +kernel
  | bool b => show bsub "bool" "list" = some false; decide +kernel
  | int i => show bsub "int" "list" = some false; decide +kernel
  | str x => show bsub "str" "list" = some false; decide +kernel
  | list xs => show bsub "list" "list" = some true; decide +kernel
  | tuple xs => show bsub "tuple" "list" = some false; decide +kernel
  | dict xs => show bsub "dict" "list" = some false; decide +kernel
def isStrD : PyData → Bool
  | .str _ => true
  | _ => false
theorem isStr_of {d : PyData} (h : isStrD d = true) : ∃ x, d = .str x := by
  cases d with
  | str i => exact ⟨i, rfl⟩
  | _ => cases h
theorem isStr_b (d : PyData) : bsub (tyD d) "str" = some (isStrD d) := by
  cases d with
  | none => show bsub "NoneType" "str" = some false; decide +kernel
  | bool b => show bsub "bool" "str" = some false; decide +kernel
  | int i => show bsub "int" "str" = some false; decide +kernel
  | str x => show bsub "str" "str" = some true; decide +kernel
  | list xs => show bsub "list" "str" = some false; decide +kernel
  | tuple xs => show bsub "tuple" "str" = some false; decide +kernel
  | dict xs => show bsub "dict" "str" = some false; decide +kernel
theorem ratD_no {d : PyData} (h : isTupD d = false) : ratD d = false := by
  cases d with
  | tuple ds => cases h
  | _ => rfl
theorem ratD_len {ds : List PyData} (h : ¬ ds.length = 2) : ratD (.tuple ds) = false := by
  unfold ratD
  split
  · rename_i t b e
    cases e
    exact absurd rfl h
  · rfl
theorem ratD_two {d1 d2 : PyData} (h : isIntD d1 = false ∨ isIntD d2 = false) : ratD (.tuple [d1, d2]) = false := by
  unfold ratD
  split
  · rename_i t b e
    cases e
    rcases h with h | h <;> cases h
  · rfl
def spW (K : PySem.W.Frag) : Sp := fun vs H Q _ => ∃ v d, vs = [v] ∧ DV K H v d ∧ Q (.bl (isIntD d)) H
def spRat (K : PySem.W.Frag) : Sp := fun vs H Q _ => ∃ v d, vs = [v] ∧ DV K H v d ∧ Q (.bl (ratD d)) H
end Lib
namespace Lib
open PySem L2 Fr Op
theorem iteT' {b : Bool} {A B : Prop} (hb : b = true) (h : A) : if b = true then A else B := by rw [if_pos hb]; exact h
theorem iteF' {b : Bool} {A B : Prop} (hb : b = false) (h : B) : if b = true then A else B := by rw [if_neg (by rw [hb]; exact Bool.false_ne_true)]; exact h
theorem decS (x y : Str) : decide (V.str x = V.str y) = decide (x = y) := by
  by_cases h : x = y
  · subst h; simp
  · have : ¬ V.str x = V.str y := fun z => h (V.str.inj z)
    rw [decide_eq_false h, decide_eq_false this]
end Lib
namespace Lib
open PySem L2 Fr Op
theorem draw_le {n m : Int} (hm : 0 ≤ m) (h99 : m ≤ 99) : (n % (2 * m + 1) - m).natAbs < 2 ^ 7 := by
  have := Fr.draw_abs (c := n) hm
  have : (2 : Nat) ^ 7 = 128 := by decide
  omega
end Lib
namespace Lib
open PySem L2 Fr Op
end Lib
namespace Lib
open PySem L2 Fr Op
theorem atI0 {x : V} {xs : List V} : atI (x :: xs) 0 = some x := atI_nat (j := 0) rfl
end Lib
namespace Op
open Fr
end Op
namespace Lib
open PySem L2 Fr Op
theorem cut_take (xs : List V) (k : Nat) : cutV xs none (some (k : Int)) = xs.take k := by
  unfold cutV
  rw [HT.sIx_nat, HT.sIx_none, List.drop_zero, Nat.sub_zero, ← List.take_take]
  rw [List.take_length]
theorem cut_drop (xs : List V) (k : Nat) : cutV xs (some (k : Int)) none = xs.drop k := by
  unfold cutV
  rw [HT.sIx_nat, HT.sIx_none]
  by_cases h : k ≤ xs.length
  · rw [Nat.min_eq_left h]
    exact List.take_of_length_le (by rw [List.length_drop]; exact Nat.le_refl _)
  · rw [Nat.min_eq_right (by omega), List.drop_eq_nil_of_le (Nat.le_refl _), List.drop_eq_nil_of_le (by omega), List.take_nil]
end Lib
namespace Op
open Fr
end Op
namespace Lib
open PySem L2 Fr Op
end Lib
namespace Lib
open PySem L2 Fr Op
end Lib
namespace Op
open Fr
end Op
namespace Lib
open PySem L2 Fr Op
end Lib
namespace Lib
open PySem L2 Fr Op
def spLowP : Sp := fun vs H Q _ => ∃ t b : Int, vs = [.int t, .int b] ∧ 0 < b ∧ b.natAbs < lim ∧ ∀ p, H p = none → Q (.ref p) (upd H p (.tup [.int (Fr.lt t b), .int (Fr.lb t b)]))
end Lib
namespace Lib
open PySem L2 Fr Op
end Lib
namespace Lib
open PySem L2 Fr Op
end Lib
namespace Lib
open PySem L2 Fr Op
def spRatC (K : PySem.W.Frag) : Sp := fun vs H Q _ => ∃ c b : Int, vs = [.int c, .int b] ∧ 0 ≤ b ∧ b < 2 ^ 32 ∧ ∀ v H' q, Same H H' → DV K H' v (frD q) → Bd 7 q → Q v H'
end Lib
namespace Lib
open PySem L2 Fr Op
theorem by1 {α : Type} {p : List α → Prop} (h : ∀ a, p [a]) : ∀ us : List α, us.length = 1 → p us
  | [_], _ => h _
theorem by2 {α : Type} {p : List α → Prop} (h : ∀ a b, p [a, b]) : ∀ us : List α, us.length = 2 → p us
  | [_, _], _ => h _ _
theorem by3 {α : Type} {p : List α → Prop} (h : ∀ a b c, p [a, b, c]) : ∀ us : List α, us.length = 3 → p us
  | [_, _, _], _ => h _ _ _
end Lib
namespace Lib
open PySem L2 Fr Op
end Lib
namespace Lib
open PySem L2 Fr Op
end Lib
namespace Lib
open PySem L2 Fr Op
end Lib
namespace Lib
open PySem L2 Fr Op
end Lib
namespace Lib
open PySem L2 Fr Op
end Lib
namespace Lib
open PySem L2 Fr Op
end Lib
namespace Lib
open PySem L2 Fr Op
end Lib
namespace Lib
open PySem L2 Fr Op
end Lib
namespace Lib
open PySem L2 Fr Op
end Lib
namespace Lib
open PySem L2 Fr Op
end Lib
namespace Lib
open PySem L2 Fr Op
end Lib
namespace Lib
open PySem L2 Fr Op
end Lib
namespace Op
open Fr
end Op
namespace Lib
open PySem L2 Fr Op
end Lib
namespace Lib
open PySem L2 Fr Op
end Lib
namespace L2
open PySem PySem.Spec PyProof.Rows
end L2
namespace L2
open PySem PySem.Spec PyProof.Rows
end L2
namespace Lib
open PySem L2 Fr Op
end Lib
namespace Lib
open PySem L2 Fr Op
end Lib
namespace Lib
open PySem L2 Fr Op
end Lib
namespace Lib
open PySem L2 Fr Op
end Lib
namespace Lib
open PySem L2 Fr Op
end Lib
namespace Lib
open PySem L2 Fr Op
end Lib
namespace L2
open PySem PySem.Spec PyProof.Rows PySem.Builtin
end L2
namespace Lib
open PySem L2 Fr Op
end Lib
namespace Lib
open PySem L2 Fr Op
end Lib
namespace Lib
open PySem L2 Fr Op
end Lib
namespace Lib
open PySem L2 Fr Op
end Lib
namespace Lib
open PySem L2 Fr Op
end Lib
namespace L2
open PySem PySem.Spec PyProof.Rows PySem.Builtin
end L2
namespace L2
open PySem PySem.Spec PyProof.Rows PySem.Builtin
end L2
namespace L2
open PySem PySem.Spec PyProof.Rows PySem.Builtin
end L2
namespace L2
open PySem PySem.Spec PyProof.Rows PySem.Builtin
end L2
namespace L2
open PySem PySem.Spec PyProof.Rows PySem.Builtin
end L2
namespace L2
open PySem PySem.Spec PyProof.Rows
end L2
namespace Lib
open PySem L2 Fr Op
def spMixQ : Sp := fun vs H Q _ => ∃ c b : Int, vs = [.int c, .int b] ∧ 0 ≤ b ∧ b < 2 ^ 32 ∧ ∀ x : Int, 0 ≤ x → x < 2147483629 → Q (.int x) H
end Lib
namespace Op
open Fr
end Op
namespace Lib
open PySem L2 Fr Op
end Lib
namespace Op
open Fr
end Op
namespace Lib
open PySem L2 Fr Op
end Lib
namespace Lib
open PySem L2 Fr Op
end Lib
namespace L2
open PySem PySem.Spec PyProof.Rows PySem.Builtin
end L2
namespace Op
open Fr
end Op
namespace Lib
open PySem L2 Fr Op
end Lib
namespace Op
open Fr Lib
end Op
namespace Lib
open PySem L2 Fr Op
theorem ne_frG {K : PySem.W.Frag} {H : Hp} {x y : V} {p q : Rat} {σ : List (Option V)} {Q : VK} (hx : DV K H x (frD p)) (hy : DV K H y (frD q)) (k : Q (.bl (!decide (p = q))) H) : tC y σ H (fun y H2 => rNeD K x y H2 Q) := ne_frD hx hy k
end Lib
namespace Lib
open PySem L2 Fr Op
end Lib
namespace L2
open PySem PySem.Spec PyProof.Rows PySem.Builtin
end L2
namespace Lib
open PySem L2 Fr Op
end Lib
namespace L2
open PySem PySem.Spec PyProof.Rows
end L2
namespace Lib
open PySem L2 Fr Op
end Lib
namespace L2
open PySem PySem.Spec PyProof.Rows
end L2
namespace Lib
open PySem L2 Fr Op
end Lib
namespace L2
open PySem PySem.Spec PyProof.Rows
abbrev TBd := XK → (Hp → Prop) → St → Hp → Prop
def PTB (X : Cx) (body : List Stmt) (t : TBd) : Prop := ∀ (pins : List (Addr × Obj)) (s : Shared) (σ : St) (H : Hp) (E : XK) (k : Hp → Prop), Inv X pins σ H s → t E k σ H →
  wpAny (model X.prog X.w) X.A (execs body X.env) (fun f s1 => f = .next ∧ ∃ H2, Inv X pins σ H2 s1 ∧ k H2) (fun e s' => ∃ H1 s1, Inv X pins σ H1 s1 ∧ CX1 X.prog X.w X.stack H1 s1 E e s') s
section
variable {X : Cx} {c : Bool} {k : Nat} {ps : List Str} {sp : Sp} {x xc n : Str} {p pos cpos epos np hp : Pos} {e : Expr} {es : List Expr} {t : TA} {Bc : Addr} {b₀ : Stmt} {suite : List Stmt} {ts : TS} {i : Nat}
theorem ptb_if {cd : Expr} {tc : TT} {a b : List Stmt} {ta tb : TBd} (hc : PT X.nox cd tc) (ha : PTB X a ta) (hb : PTB X b tb) : PTB X [.If cd a b pos] (fun E k σ H => tc σ H fun d H1 => if d = true then ta E k σ H1 else tb E k σ H1) := by
  intro pins s σ H E k I h
  refine wpAny_execs_cons (wpAny_If (wpAny_mono (hc pins s σ H _ (I.wish _) h) (fun d s1 hd => ?_) (fun _ _ z => z.elim)))
  obtain ⟨H1, I1, q⟩ := hd
  have I1 := I1.unwish
  cases d with
  | true =>
    rw [if_pos rfl] at q
    exact wpAny_mono (ha pins s1 σ H1 E k I1 q) (fun f s2 ⟨e, r⟩ => by subst e; exact wpAny_execs_nil ⟨rfl, r⟩) (fun _ _ z => z)
  | false =>
    rw [if_neg Bool.false_ne_true] at q
    exact wpAny_mono (hb pins s1 σ H1 E k I1 q) (fun f s2 ⟨e, r⟩ => by subst e; exact wpAny_execs_nil ⟨rfl, r⟩) (fun _ _ z => z)
end
end L2
namespace L2
open PySem PySem.Spec PyProof.Rows PySem.Builtin
open PySem.AutoSeq1 (wpAny_loadPart')
end L2
namespace L2
open PySem PySem.Spec PySem.Calls PyProof.Rows PySem.W Builtin Builtin.ObjectAttr
abbrev bmVE : List Value := [.type "ValueError", .type "Exception", .type "BaseException", .type "object"]
structure ExcI (K : PySem.W.Frag) (C CB fI : Addr) : Prop where
  ob : ∃ nm q N bs sn sub ab col dd k0 k1 k2 k3 k5, K.lookup C = some (excClassObj nm q C N bs (.ref CB :: bmVE) true sn sub ab col dd k0 k1 k2 k3 k5 "ValueError.__new__")
  cb : PySem.W.excIn K CB bmVE "ValueError.__new__" = true
  it : PySem.W.findIn K (.ref C) "__init__" = some (some (.ref fI))
  kp : PySem.W.keepIn K (.ref C) = true
  hm : PySem.W.mroIn K C (.type "object") = some true
  hd : PySem.W.hasDictIn K C = true
  fn : PySem.W.typeIn K (.ref fI) = some (.type "function")
  sa : PySem.W.findIn K (.ref C) "__setattr__" = some (some (.builtin "object.__setattr__"))
  na : PySem.W.findIn K (.ref C) "at" = some none
  rd : PySem.W.readsIn K CB (.type "type") = true
  fc : PySem.W.findCls K (.ref CB) (.type "type") "__init__" = some (.val (.builtin "ValueError.__init__"))
  sg : PySem.W.specialIn K (.ref CB) "__getattribute__" = some (some (.builtin "type.__getattribute__"))
theorem ExcI.obj {K : PySem.W.Frag} {C CB fI : Addr} {h : Heap} (O : ExcI K C CB fI) (X : K.In h) :
    ∃ nm q N bs sn sub ab col dd k0 k1 k2 k3 k5, h.get? C = some (excClassObj nm q C N bs (.ref CB :: bmVE) true sn sub ab col dd k0 k1 k2 k3 k5 "ValueError.__new__") ∧ OwnTail h bmVE (.ref CB :: bmVE) := by
  obtain ⟨nm, q, N, bs, sn, sub, ab, col, dd, k0, k1, k2, k3, k5, l⟩ := O.ob
  obtain ⟨bm, N', nm', qn', bs', hdct', sn', sub', ab', col', dd', a0, a1, a2, a3, a5, mN, hC, hN, hni, TL⟩ := exc_obj X O.cb
  exact ⟨nm, q, N, bs, sn, sub, ab, col, dd, k0, k1, k2, k3, k5, X _ _ l, .own hC hN hni .base⟩
abbrev tupO (vs : List Value) : Obj := { cls := .type "tuple", data := .seq vs.toArray }
abbrev excN (C t : Addr) : Obj := { cls := .ref C, data := .fields #[.ref t, .none, .none, .none, .bool false, .none] }
section
variable {prog : Program} {w : World} {A : Around} {E : Value → Shared → Prop} {h : Heap} {g : Array GenState} {d : Drawn} {t : Nat} {os : OsState} {K : PySem.W.Frag} {C CB fI : Addr}
theorem tcall_excI {rest : List Value} {Q : Fin → Shared → Prop} (X : K.In h) (O : ExcI K C CB fI)
    (hq : wpAny (model prog w) A (call (.ref fI) (.ref (h.objs.size + 1) :: rest)) (fun r s' => r = .none ∧ Q (.done (.ret (.ref (h.objs.size + 1)))) s') E ⟨(h.push (tupO rest)).push (excN C h.objs.size), g, d, t, os⟩) (hrest : rest.length ≤ sizeLine) :
    wpAny (model prog w) A (Builtin.«type.__call__» ⟨.ref C :: rest, []⟩) Q E ⟨h, g, d, t, os⟩ := by
  obtain ⟨nm, q, N, bs, sn, sub, ab, col, dd, k0, k1, k2, k3, k5, hC, T⟩ := O.obj X
  have kk : ∀ b o, h.get? b = some o → ((h.push (tupO rest)).push (excN C h.objs.size)).get? b = some o := fun b o e => Heap.get?_push_of_some _ (Heap.get?_push_of_some _ e)
  have X1 := X.keeps kk
  have hC1 := kk _ _ hC
  have hx : ((h.push (tupO rest)).push (excN C h.objs.size)).get? (h.objs.size + 1) = some (excN C h.objs.size) := by heap_get
  have hcC : (Value.ref C :: (.ref CB :: bmVE)).contains (.ref C) = true := by simp
  repeat (first | with_reducible refine wpAny_loadPart_at hC ?_ | with_reducible refine wpAny_madeBy_exc hC ?_ | wp_step)
  refine codeAny_call_builtin_code (Code.quiet_builtin _ F.excBase_ValueError.quiet) (wpAny_check_new_subT F.excBase_ValueError T hC (codeAny_exc_new_subT F.excBase_ValueError T hC ?_ hrest))
  show wpAny _ _ _ _ _ _; unfold isInstance
  repeat (first | with_reducible refine wpAny_loadPart_at hx ?_ | (with_reducible refine wpAny_isSubtype_exc hC1 ?_; rw [hcC]) | wp_step)
  show wpAny _ _ (typeLookup (.ref C) _) _ _ _; refine (looks_findIn X1 O.it).at (wpAny_holding (wpAny_bind ((bind_fn X1 _ O.fn).at ?_)))
  refine wpAny_bind (wpAny_mono hq (fun r s' ⟨e, z⟩ => ?_) fun _ _ x => x)
  subst e
  wp_walk
  exact z
theorem call_excI {rest : List Value} {Q : Value → Shared → Prop} (X : K.In h) (O : ExcI K C CB fI)
    (hq : wpAny (model prog w) (A.under (.builtin "type.__call__" ⟨.ref C :: rest, []⟩)) (call (.ref fI) (.ref (h.objs.size + 1) :: rest)) (fun r s' => r = .none ∧ Q (.ref (h.objs.size + 1)) s') E ⟨(h.push (tupO rest)).push (excN C h.objs.size), g, d, t, os⟩) (hrest : rest.length ≤ sizeLine) :
    wpAny (model prog w) A (call (.ref C) rest) Q E ⟨h, g, d, t, os⟩ := by
  obtain ⟨nm, q, N, bs, sn, sub, ab, col, dd, k0, k1, k2, k3, k5, hC, T⟩ := O.obj X
  have l1 := tc_lookup
  have l2 := tc_bind (.ref C)
  have l3 : (⟨h, g, d, t, os⟩ : Shared).TypeIs (.ref C) "type" := ⟨_, hC, rfl⟩
  refine wpAny_call (codeAny_of_tree ?_)
  show wpAny _ _ (callAny (.ref C) _) _ _ _
  repeat (any_goals (first | assumption | with_reducible refine wpAny_loadPart_at hC ?_ | wp_step))
  exact ⟨rfl, codeAny_call_builtin_at (Code.quiet_builtin _ (by decide +kernel)) entry_typeCall (wpAny_check_type_call_sub hC (tcall_excI X O hq hrest))⟩
theorem raise_obj {s : Shared} {env : Env} {x : Sem Value} {Q : Flow → Shared → Prop} (hh : A.handled = none)
    (hx : wpAny (model prog w) A x (fun v s₁ => ∃ e t od sl, v = .ref e ∧ K.In s₁.heap ∧ ExcI K C CB fI ∧ s₁.heap.get? e = some ⟨.ref C, od, .fields #[.ref t, .none, .none, .none, .bool false, .none], sl⟩ ∧ E (.ref e) s₁) E s) : wpAny (model prog w) A (raiseStmt env (some x) none) Q E s := by
  unfold raiseStmt
  refine wpAny_bind (wpAny_mono hx (fun v s₁ ⟨e, t0, od, sl, ev, X, O, he, z⟩ => ?_) fun _ _ x => x)
  subst ev
  obtain ⟨nm, q, N, bs, sn, sub, ab, col, dd, k0, k1, k2, k3, k5, hC, T⟩ := O.obj X
  have hcB : (Value.ref C :: (.ref CB :: bmVE)).contains (.type "BaseException") = true := by rw [List.contains_cons, T.hasType (X := "BaseException") (b := true) (by decide +kernel), Bool.or_true]
  obtain ⟨hp, g, d, tk, os⟩ := s₁
  repeat (first | with_reducible refine wpAny_loadPart_at he ?_ | with_reducible refine wpAny_loadPart_at hC ?_ | (with_reducible refine wpAny_isSubtype_exc hC ?_; rw [hcB]) | wp_step)
  exact wpAny_raiseNew_none hh z
abbrev excB (C t : Addr) (od : Option Addr) (sl : Array (Option Value)) : Obj := ⟨.ref C, od, .fields #[.ref t, .none, .none, .none, .bool false, .none], sl⟩
theorem binit_run {e t0 : Addr} {u : Value} {od : Option Addr} {sl : Array (Option Value)} {Q : Value → Shared → Prop} (X : K.In h) (O : ExcI K C CB fI) (he : h.get? e = some (excB C t0 od sl))
    (hq : ∀ h' t1, h'.get? e = some (excB C t1 od sl) → (∀ b o, b ≠ e → h.get? b = some o → h'.get? b = some o) → Q .none ⟨h', g, d, t, os⟩) :
    wpAny (model prog w) A (call (.builtin "ValueError.__init__") [.ref e, u]) Q E ⟨h, g, d, t, os⟩ := by
  obtain ⟨nm, q, N, bs, sn, sub, ab, col, dd, k0, k1, k2, k3, k5, hC, T⟩ := O.obj X
  refine wpAny_call (codeAny_call_builtin F.excBase_ValueError.init.plain F.excBase_ValueError.initEntry (wpAny_check_init_subT F.excBase_ValueError T hC he rfl ?_))
  have he1 : (h.push (tupO [u])).get? e = some (excB C t0 od sl) := Heap.get?_push_of_some _ he
  wp_walk
  refine hq _ h.objs.size ?_ fun b o n z => ?_
  · rw [Heap.get?_update_self _ he1 rfl]; rfl
  · rw [Heap.get?_update_other _ _ (Ne.symm n)]; exact Heap.get?_push_of_some _ z
theorem xset_run {e t0 : Addr} {u : Value} {sl : Array (Option Value)} {Q : Unit → Shared → Prop} (X : K.In h) (O : ExcI K C CB fI) (he : h.get? e = some (excB C t0 none sl))
    (hq : ∀ h', h'.Ns1 h.objs.size (fun y => if y = "at" then some u else none) → h'.get? e = some (excB C t0 (some h.objs.size) sl) → (∀ b o, b ≠ e → h.get? b = some o → h'.get? b = some o) → Q () ⟨h', g, d, t + 2, os⟩) :
    wpAny (model prog w) A (setAttr (.ref e) "at" u) Q E ⟨h, g, d, t, os⟩ := by
  obtain ⟨nm, q, N, bs, sn, sub, ab, col, dd, k0, k1, k2, k3, k5, hC, T⟩ := O.obj X
  have J : InstAt h e (excB C t0 none sl) C none := ⟨he, rfl, rfl, trivial⟩
  have SF := PySem.F.store_object
  have LT := J.type (M := model prog w)
  have sb : Looks (model prog w) h (isInstance (.ref e) (.type "object")) true := LT.andThen (looks_mroIn X O.hm)
  have LF := looks_findIn (M := model prog w) X O.na
  refine set_plain (s := ⟨h, g, d, t, os⟩) X J O.sa (codeAny_call_builtin SF.slot.plain SF.entry (@check_slot (model prog w) _ _ ⟨h, g, d, t + 1, os⟩ "object.__setattr__" "object" "__setattr__" (.ref e) [.str "at" t, u] [] _ SF.kind SF.split sb (SF.args (.ref e) (.str "at" t) u) ?_))
  rw [osa_eq, refuse_eq]; refine wpAny_bind (wpAny_bind (LT.at (wpAny_bind (wpAny_mroOf_exc hC ?_))))
  rw [refuseLoop_ref, refuseLoop_ref, F.store_ValueError.passes]
  refine wpAny_pure (wpAny_bind (LT.at (wpAny_bind (LF.at (wpAny_bind (wpAny_pure ?_))))))
  have hes : e ≠ h.objs.size := Nat.ne_of_lt (Heap.lt_size he)
  have he1 : (h.push { cls := .type "dict", data := .dict #[] }).get? e = some (excB C t0 none sl) := Heap.get?_push_of_some _ he
  unfold storeInOwnDict ownDictForStores instanceDict
  iterate 14 (first | with_reducible refine wpAny_loadPart_at he ?_ | with_reducible refine wpAny_loadPart_at hC ?_ | wp_step)
  dsimp only
  refine wpAny_bind (wpAny_alloc' (wpAny_bind (wpAny_update' he1 (wpAny_pure ?_))))
  have g1 : ((h.push { cls := .type "dict", data := .dict #[] }).update e fun o => { cls := o.cls, dict := some h.objs.size, data := o.data, slots := o.slots }).get? h.objs.size = some { cls := .type "dict", data := .dict #[] } :=
    (Heap.get?_update_ne _ _ _ _ hes.symm).trans (Heap.get?_push_at rfl rfl)
  have g2 : ((h.push { cls := .type "dict", data := .dict #[] }).update e fun o => { cls := o.cls, dict := some h.objs.size, data := o.data, slots := o.slots }).get? e = some (excB C t0 (some h.objs.size) sl) := Heap.get?_update_self _ he1 rfl
  have g3 : ∀ b o, b ≠ e → h.get? b = some o → ((h.push { cls := .type "dict", data := .dict #[] }).update e fun o => { cls := o.cls, dict := some h.objs.size, data := o.data, slots := o.slots }).get? b = some o := fun b o n z => (Heap.get?_update_ne _ _ _ _ n).trans (Heap.get?_push_of_some _ z)
  generalize ((h.push { cls := .type "dict", data := .dict #[] }).update e fun o => { cls := o.cls, dict := some h.objs.size, data := o.data, slots := o.slots }) = hm at g1 g2 g3 ⊢
  have n1 : hm.Ns h.objs.size (fun _ => none) := ⟨_, #[], _, g1, rfl, (fun x hx => absurd hx (by simp)), fun _ => rfl⟩
  show wpAny _ _ (storeInDict h.objs.size (.str "at" t) "at" u) _ _ _
  unfold storeInDict newKeyGuard; refine wpAny_bind (wpAny_pure (wpAny_bind (wpAny_nsSet1 (Heap.Ns1.of_empty n1) fun h' n2 sb2 => ?_)))
  obtain ⟨oD, eD, pD, z1, z2, z3⟩ := n2.count (Within.cons "at" u Within.nil)
  refine wpAny_bind (wpAny_lookBehind z1 (by rw [z2]; exact pastItsLine_dict (Nat.le_trans z3 (by decide))) (wpAny_pure ?_))
  exact hq h' n2 ((sb2.2 _ hes).trans g2) fun b o n z => (sb2.2 b (Nat.ne_of_lt (Heap.lt_size z))).trans (g3 b o n z)
end
end L2
namespace L2
open PySem PySem.Spec PySem.Calls PyProof.Rows PySem.W Builtin Builtin.ObjectAttr
def XN (e C : Addr) (d : Option Addr) (h : Heap) : Prop := ∃ t sl, h.get? e = some (excB C t d sl)
abbrev xN (e C : Addr) (d : Option Addr) : HO := .ext (XN e C d)
theorem XN.stay {e C : Addr} {d : Option Addr} {h1 h2 : Heap} (x : XN e C d h1) (k : ∀ o, h1.get? e = some o → h2.get? e = some o) : XN e C d h2 := let ⟨t, sl, z⟩ := x; ⟨t, sl, k _ z⟩
theorem XN.ok {P : Program} {w : World} {H : Hp} {h : Heap} {e C : Addr} {d : Option Addr} (x : XN e C d h) : ObjOk P w H h e (xN e C d) :=
  let ⟨_, _, z⟩ := x; ⟨x, ⟨_, z⟩, fun _ _ y k => y.stay k⟩
def XC (e C : Addr) (d : Option Addr) (h : Heap) : Prop := ∃ o vs, h.get? e = some o ∧ o.cls = .ref C ∧ o.dict = d ∧ o.data = .fields vs
abbrev xC (e C : Addr) (d : Option Addr) : HO := .ext (XC e C d)
theorem XC.stay {e C : Addr} {d : Option Addr} {h1 h2 : Heap} (x : XC e C d h1) (k : ∀ o, h1.get? e = some o → h2.get? e = some o) : XC e C d h2 := let ⟨o, vs, z, r⟩ := x; ⟨o, vs, k _ z, r⟩
theorem XC.at {e C : Addr} {d : Option Addr} {h : Heap} (x : XC e C d h) : ExcAt e C h := let ⟨o, _, z, r, _⟩ := x; ⟨o, z, r⟩
section
variable {X : Cx} {C CB fI : Addr} {nb : Str} {e1 o value : Expr} {es : List Expr} {t : TA} {ta tv : TE} {np apos cpos epos pos pos' : Pos}
def sBinit (C : Addr) (t : TA) : TS := fun D σ H => t σ H fun vs H1 => ∃ e v d, vs = [.ref e, v] ∧ H1 e = some (xN e C d) ∧ D.nx σ H1
theorem ps_binit {pl : Sem Bool} (O : ExcI X.K C CB fI) (hm : X.mg nb = some (.ref CB)) (ha : PA X (e1 :: es) t) (hg : Gl X nb := by rfl) (hdb : (nb == ("__debug__" : Str)) = false := by decide)
    (he : starEach (e1 :: es) X.env = (false, eval e1 X.env) :: starEach es X.env := by rfl) (hpl : (backTo cpos (starEach es X.env)).any (·.1) = false := by rfl)
    (hsw : swapsWith (.Call (.Attribute (.Name nb np) "__init__" apos) (e1 :: es) [] cpos) none epos.line X.env = pure false := by rfl)
    (ht : eval (.Call (.Attribute (.Name nb np) "__init__" apos) (e1 :: es) [] cpos) X.env = (do
      let ov ← eval (.Name nb np) X.env
      standAt apos.atName
      let (f, first) ← holding [ov] (getMethod ov "__init__" pl)
      callWith cpos f first (backTo cpos (starEach (e1 :: es) X.env)) (backToKw cpos (keywordEach [] X.env))) := by rfl) :
    PS X (.Expr (.Call (.Attribute (.Name nb np) "__init__" apos) (e1 :: es) [] cpos) epos) (sBinit C t) := by
  intro pins s σ H D I h
  refine wpAny_Expr_any (PySem.W.methodCall_KW (pl := pl) (ld_glob I hg hm ?_ hdb) ht) I.quiet hsw
  refine method_cls I.kIn O.sg (cls_value I.kIn O.rd O.fc rfl ?_)
  have hA := ha cpos pins _ σ H _ (I.tok (s.toks + 1)) h
  rw [he] at hA ⊢
  refine Calls.callWith_builtin (by show (false || (backTo cpos (starEach es X.env)).any (·.1)) = false; rw [hpl] <;> rfl) (Calls.evalArgs_plain ?_)
  refine thn hA fun us s2 ⟨vs, H2, I2, r, e, v, d, ev, hx, q⟩ => ?_
  subst ev
  obtain ⟨u0, u, rfl, r0, ru⟩ := vals2 r
  cases (show u0 = Value.ref e from r0)
  obtain ⟨⟨t0, sl, ho⟩, _, _⟩ := (show ObjOk X.prog X.w H2 s2.heap e (xN e C d) from I2.hok e _ hx)
  obtain ⟨hh, g, dr, tk, os⟩ := s2
  refine binit_run I2.kIn O ho fun h' t1 he' k => ?_
  have J := I2.write (x := e) (e := e) (o := xN e C d) (t' := tk) (by rw [hx]; exact True.intro) (.inl rfl) (fun b o n => k b o n) ⟨_, he'⟩ (XN.ok ⟨t1, sl, he'⟩)
  have e2 : upd H2 e (xN e C d) = H2 := by
    funext b
    by_cases z : b = e
    · subst z; rw [upd_same, hx]
    · rw [upd_ne z]
  rw [e2] at J
  exact ⟨σ, H2, J, q⟩
theorem xset_ok {pins : List (Addr × Obj)} {σ : St} {H : Hp} {s : Shared} {A : Around} {E : Value → Shared → Prop} {y : V} {u : Value} {Q : Unit → Shared → Prop} {e : Addr} (I : Inv X pins σ H s) (O : ExcI X.K C CB fI) (hx : H e = some (xN e C none)) (ry : RelV y u)
    (h : ∀ dx s', H dx = none → dx ≠ e → Inv X pins σ (upd (upd H dx (.xd [("at", y)])) e (xN e C (some dx))) s' → Q () s') : wpAny (model X.prog X.w) A (setAttr (.ref e) "at" u) Q E s := by
  obtain ⟨⟨t0, sl, ho⟩, _, _⟩ := (show ObjOk X.prog X.w H s.heap e (xN e C none) from I.hok e _ hx)
  obtain ⟨hh, g, dr, tk, os⟩ := s
  refine xset_run I.kIn O ho fun h' n1 he' k => ?_
  have ne : e ≠ hh.objs.size := Nat.ne_of_lt (Heap.lt_size ho)
  obtain ⟨oD, es, ep, hD, dD, rD⟩ := id n1
  have fD : oD.isFreed = false := (Heap.get?_some_iff.mp hD).2
  have hn : H hh.objs.size = none := I.hok.fresh (Nat.le_refl _)
  have r1 : ∀ f, RelO (List.lookup f [(("at" : Str), y)]) (if f = "at" then some u else none) := fun f => by
    by_cases z : f = "at"
    · subst z; rw [if_pos rfl]; exact ry
    · rw [if_neg z, List.lookup_cons, show (f == ("at" : Str)) = false from beq_false_of_ne z]; exact True.intro
  have J1 := I.laid (a := hh.objs.size) (o := .xd [("at", y)]) (h' := hh.push oD) (t' := tk + 2) (fun b o z => Heap.get?_push_of_some _ z) (Nat.le_refl _) ⟨_, ⟨oD, es, ep, Heap.get?_push_size hh fD, dD, rD⟩, r1⟩
  have J2 := J1.write (x := e) (e := e) (o := xN e C (some hh.objs.size)) (h' := h') (t' := tk + 2) (by rw [upd_ne ne, hx]; exact True.intro) (.inl rfl) (fun b o n z => ?_) ⟨_, he'⟩ (XN.ok ⟨t0, sl, he'⟩)
  · exact h hh.objs.size _ hn (Ne.symm ne) J2
  · rcases Heap.get?_push_cases z with ⟨zb, zo⟩ | z
    · rw [zb, zo]; exact hD
    · exact k b o n z
def sSetAt (C : Addr) (ta tv : TE) : TS := fun D σ H => tv σ H fun y H1 => ta σ H1 fun x H2 => ∃ e, x = .ref e ∧ H2 e = some (xN e C none) ∧ ∀ dx, H2 dx = none → dx ≠ e → D.nx σ (upd (upd H2 dx (.xd [("at", y)])) e (xN e C (some dx)))
theorem ps_setat (O : ExcI X.K C CB fI) (ha : PE X o ta) (hv : PE X value tv) (hs : swapsWith value (some (.Attribute o "at" pos')) pos.line X.env = pure false := by rfl) : PS X (.Assign [.Attribute o "at" pos'] value pos) (sSetAt C ta tv) := by
  intro pins s σ H D I h
  refine plainObj_wpAny_Assign_Attribute (thn (hv pins s σ H _ I h) fun u s1 ⟨y, H1, I1, ry, q⟩ => thn (ha pins s1 σ H1 _ I1 q) fun ov s2 ⟨x, H2, I2, rx, e, ex, hx, q2⟩ => ?_) hs
  subst ex
  obtain rfl : ov = Value.ref e := rx
  exact xset_ok I2 O hx ry fun dx s3 n1 n2 J => ⟨σ, _, J, q2 dx n1 n2⟩
end
def spXI (C : Addr) : Sp := fun vs H Q _ => ∃ e v, vs = [.ref e, v] ∧ H e = some (xN e C none) ∧ ∀ dx, H dx = none → dx ≠ e → Q .non (upd (upd H dx (.xd [("at", v)])) e (xN e C (some dx)))
structure XMk (P : Program) (w : World) (K : PySem.W.Frag) (mg : Str → Option Value) (base : Heap) (k : Nat) (x : Str) (C : Addr) : Prop where
  ex : ∃ (CB fI : Addr) (fd : FuncData), FnB P w K mg base true k fI fd ["self", "at"] (spXI C) ∧ ExcI K C CB fI ∧ Binds K fd ["self", "at"] []
  mg : mg x = some (.ref C)
structure XFn (K : PySem.W.Frag) (mg : Str → Option Value) (x : Str) (C CB : Addr) (qual : Str) (st : Stmt) : Prop where
  ex : ∃ (f : Addr) (fd : FuncData), Fun K "__init__" qual st f fd ∧ ExcI K C CB f
  mg : mg x = some (.ref C)
theorem XFn.xmk {P : Program} {w : World} {K : PySem.W.Frag} {mg : Str → Option Value} {base : Heap} {x : Str} {C CB : Addr} {qual : Str} {st : Stmt} {N : List Str} {k : Nat} (T : XFn K mg x C CB qual st) (S : FnScope N ["self", "at"] (defScope st))
    (hb : ∀ (kV doc pm : Value) (an : Option Addr) (cdv ct : Value) (us : List Value), us.length = (["self", "at"] : List Str).length → bindArgs (PySem.W.fnOf "__init__" qual (defArgs st) (defBody st) (defScope st) .none kV doc pm an cdv ct) ⟨us, []⟩ = pure ((["self", "at"] : List Str).zip us))
    (hbody : ∀ (fI : Addr), ExcI K C CB fI → ∀ (f : Addr) (cdv : Value) (A : Around) (outer : List Env) (s : Shared) (H : Hp) (vs : List V) (Q : VK) (E : XK), RoomB true k (A.deeper (envOfC qual (defScope st) s.heap.objs.size f cdv)) → spXI C vs H Q E →
      ∃ t, PSs (cxB true P w K mg base N qual (defScope st) f cdv A outer s H E).nox (defBody st) t ∧ t { nx := fun _ H' => Q .non H', rt := Q } (start N vs) H) : XMk P w K mg base (k + 1) x C := by
  obtain ⟨f, fd, F, hm⟩ := T.ex
  obtain ⟨oc, od, kV, doc, pm, an, cdv, ct, osl, rfl, l, cd⟩ := id F.ex
  refine ⟨⟨CB, f, _, fnB_of l cd S (fun vs H Q E h => by obtain ⟨_, _, rfl, _⟩ := h; rfl) fun A outer s H vs Q E hr h => ?_, hm, F.binds hb⟩, T.mg⟩
  obtain ⟨t, h1, h2⟩ := hbody f hm f cdv A outer s H vs Q E hr h
  exact ⟨t, h1.nox, h2⟩
def delH (H : Hp) (e : Addr) : Hp := fun b => if b = e then none else H b
theorem delH_ne {H : Hp} {e b : Addr} (n : b ≠ e) : delH H e b = H b := if_neg n
theorem delH_same {H : Hp} {e : Addr} : delH H e e = none := if_pos rfl
section
variable {X : Cx} {C : Addr} {x : Str} {e₀ : Expr} {t : TA} {np cpos pos : Pos} {k : Nat}
theorem clo_del {E : XK} (Bd : BodyCx X E) {pins : List (Addr × Obj)} {σ : St} {H : Hp} {s : Shared} {e : Addr} {φ : Heap → Prop} (I : Inv X pins σ H s) (hx : H e = some (.ext φ)) (ne0 : X.s₀.heap.get? e = none) (nL : e ∉ frs X.stack) {h2 : Heap} (up : s.heap.UpToSlots h2) (h'' : Heap)
    (st : (PySem.W.hideAll s.heap (e :: frs X.stack)).StaysIn h'') (up2 : h2.UpToSlots h'') : Un (frs X.outer) [] X.H₀ (delH H e) X.s₀.heap h'' ∧ HOk X.prog X.w (delH H e) h'' := by
  have inB : ∀ b o, s.heap.get? b = some o → b ≠ e → b ∉ frs X.stack → h''.get? b = some o := fun b o q n m => st b o (PySem.W.hideAll_get _ q (by simp [n, m]))
  have sl : ∀ b o, s.heap.get? b = some o → b ∈ frs X.stack → ∃ sl, h''.get? b = some { o with slots := sl } := fun b o q m => by
    obtain ⟨_, o', ho', hnf⟩ := I.stack.mem m
    rw [q] at ho'; cases ho'
    exact (up.trans up2) b o q hnf
  have nx : ∀ b : Addr, b ∉ X.ex := fun b z => by rw [Bd.ex] at z; cases z
  have neL : ∀ b o, X.s₀.heap.get? b = some o → b ≠ X.env.locals := fun b o q => Nat.ne_of_lt (Nat.lt_of_lt_of_le (Heap.lt_size q) I.ok.above)
  have nee : ∀ b o, X.s₀.heap.get? b = some o → b ≠ e := fun b o q z => by rw [z, ne0] at q; cases q
  have any : ∀ b o, s.heap.get? b = some o → b ≠ e → ∃ o', h''.get? b = some o' := fun b o q n => by
    by_cases m : b ∈ frs X.stack
    · obtain ⟨z, y⟩ := sl b o q m
      exact ⟨_, y⟩
    · exact ⟨_, inB b o q n m⟩
  have nt : ∀ b o', H b = some o' → (∀ ψ, o' ≠ .ext ψ) → b ≠ e := fun b o' q n z => by rw [z, hx] at q; exact n φ (Option.some.inj q).symm
  refine ⟨⟨fun b o q n hb _ => ?_, fun b o q n hb _ => ?_, fun b o q n _ => ?_, fun b o q _ => ?_, fun b xs q => ?_, fun b o y q => ?_, fun b ps q => ?_⟩, fun a o q => ?_⟩
  · exact inB b o (I.base.keep b o q n hb (nx b)) (nee b o q) fun m => (mem_stack Bd).mp m |>.elim (neL b o q) hb
  · obtain ⟨z, y⟩ := I.base.slot b o q n hb (nx b)
    exact sl b _ y ((mem_stack Bd).mpr (.inr hb)) |>.imp fun _ h => h
  · rw [delH_ne (nee b o q)]; exact I.base.free b o q n (nx b)
  · obtain ⟨o', y⟩ := I.base.there b o q (nx b)
    exact any b o' y (nee b o q)
  · have y := I.base.tups b xs q
    rw [delH_ne (nt b _ y (fun _ h => nomatch h))]; exact y
  · have y := I.base.frzs b o _ q
    rw [delH_ne (nt b _ y (fun _ h => nomatch h))]; exact y
  · obtain ⟨m, y⟩ := I.base.tbls b ps q
    exact ⟨m, by rw [delH_ne (nt b _ y (fun _ h => nomatch h))]; exact y⟩
  · have hae : a ≠ e := fun z => by rw [z, delH_same] at q; cases q
    rw [delH_ne hae] at q
    refine (I.hok a o q).stay (fun b u hc y => inB b u y ?_ fun m => ?_) (fun b y => by rw [delH_ne (nt b _ y (fun _ h => nomatch h))]; exact y) fun b xs y => by rw [delH_ne (nt b _ y (fun _ h => nomatch h))]; exact y
    · rcases hc with z | z
      · rw [z]; exact hae
      · exact nt b _ z (fun _ h => nomatch h)
    · have z := I.stkFree b m
      rcases hc with rfl | hc
      · rw [z] at q; cases q
      · rw [z] at hc; cases hc
def tRaiseI (E : XK) (C : Addr) (t : TA) : TS := fun _ σ H => t σ H fun vs H1 => ∃ v, vs = [v] ∧ ∀ dx, H1 dx = none → E (.ref C) (some dx) (upd H1 dx (.xd [("at", v)]))
theorem ps_raiseI {E : XK} (Bd : BodyCx X E) (hc : X.calm = true) (M : XMk X.prog X.w X.K X.mg X.base k x C) (hr : RoomB true (k + 1) X.A) (ha : PA X [e₀] t) (hg : Gl X x := by rfl) (hdb : (x == ("__debug__" : Str)) = false := by decide)
    (he : starEach [e₀] X.env = [(false, eval e₀ X.env)] := by rfl) :
    PS X (.Raise (some (.Call (.Name x np) [e₀] [] cpos)) none pos) (tRaiseI E C t) := by
  obtain ⟨CB, fI, fd, Fi, O, hb⟩ := M.ex
  intro pins s σ H D I h
  rw [arm_exec_Raise]
  have key : wpAny (model X.prog X.w) X.A (eval (.Call (.Name x np) [e₀] [] cpos) X.env) (fun v s₁ => ∃ e t od sl, v = .ref e ∧ X.K.In s₁.heap ∧ ExcI X.K C CB fI ∧ s₁.heap.get? e = some ⟨.ref C, od, .fields #[.ref t, .none, .none, .none, .bool false, .none], sl⟩ ∧ X.xe (.ref e) s₁) X.xe s := by
    refine wpAny_Call_Name_kw (ld_glob I hg M.mg ?_ hdb)
    refine PySem.W.callWith_K (h₀ := X.base) I.ok.mod.kin O.kp (thn (ha cpos pins s σ H _ I h) fun us s1 ⟨vs, H1, I1, r, v, ev, q⟩ => ⟨I1.kIn, ?_⟩) he rfl
    subst ev
    obtain ⟨u, rfl, ru⟩ := vals1 r
    have new0' := new0 I1 (fun b z => by rw [Bd.ex] at z; cases z) (a := s1.heap.objs.size + 1) (Heap.get?_none_of_le (Nat.le_succ _))
    obtain ⟨hh, g, dr, tk, os⟩ := s1
    refine call_excI I1.kIn O ?_ (by show 1 ≤ sizeLine; decide)
    have hx0 : ((hh.push (tupO [u])).push (excN C hh.objs.size)).get? (hh.objs.size + 1) = some (excB C hh.objs.size none #[]) := by heap_get
    have J0 := I1.kept (h' := hh.push (tupO [u])) (t' := tk) (fun b o z => Heap.get?_push_of_some _ z)
    have J : Inv X pins σ (upd H1 (hh.objs.size + 1) (xN (hh.objs.size + 1) C none)) ⟨(hh.push (tupO [u])).push (excN C hh.objs.size), g, dr, tk, os⟩ :=
      J0.laid (a := hh.objs.size + 1) (o := xN (hh.objs.size + 1) C none) (t' := tk) (fun b o z => Heap.get?_push_of_some _ z) (Nat.le_of_eq (Heap.size_push _ _)) (XN.ok ⟨_, _, hx0⟩)
    have he1 : H1 (hh.objs.size + 1) = none := I1.hok.fresh (Nat.le_succ _)
    have r2 : Vals [V.ref (hh.objs.size + 1), v] [Value.ref (hh.objs.size + 1), u] := .cons rfl (.cons ru .nil)
    have hl : ([Value.ref (hh.objs.size + 1), u] ++ ([] : List Value)).length = ["self", "at"].length := rfl
    refine wpAny_call (codeAny_mono (Fi.run _ X.stack _ _ ⟨[.ref (hh.objs.size + 1), u], []⟩ [.ref (hh.objs.size + 1), u] [.ref (hh.objs.size + 1), v]
      (fun v' H2 => v' = .non ∧ ∃ dx, H1 dx = none ∧ dx ≠ hh.objs.size + 1 ∧ H2 = upd (upd (upd H1 (hh.objs.size + 1) (xN (hh.objs.size + 1) C none)) dx (.xd [("at", v)])) (hh.objs.size + 1) (xN (hh.objs.size + 1) C (some dx))) E0 (hr.room.make C [u] []).b (J.env0.make C [u] []) (hb _ [.ref (hh.objs.size + 1), u] J.kIn hl) r2
      ⟨_, _, rfl, upd_same, fun dx n1 n2 => ⟨rfl, dx, by rw [upd_ne n2] at n1; exact n1, n2, rfl⟩⟩) fun r s' hq' => ?_)
    cases r with
    | error e =>
      obtain ⟨_, _, _, _, _, _, _, _, _, _, _, _, z⟩ := hq'
      exact z.elim
    | ok fl =>
      cases fl with
      | next => exact False.elim hq'
      | brk => exact False.elim hq'
      | cont => exact False.elim hq'
      | ret u' =>
        obtain ⟨v', H2, I2, rv, ev, dx, n1, n2, eH⟩ := J.after hq'
        subst ev
        refine ⟨rv, ?_⟩
        have hx2 : H2 (hh.objs.size + 1) = some (xN (hh.objs.size + 1) C (some dx)) := by rw [eH]; exact upd_same
        obtain ⟨⟨t1, sl1, ho1⟩, _, _⟩ := (show ObjOk X.prog X.w H2 s'.heap (hh.objs.size + 1) (xN (hh.objs.size + 1) C (some dx)) from I2.hok _ _ hx2)
        refine ⟨hh.objs.size + 1, t1, some dx, sl1, rfl, I2.kIn, O, ho1, ?_⟩
        have eD : delH H2 (hh.objs.size + 1) = upd H1 dx (.xd [("at", v)]) := by
          funext b
          by_cases z : b = hh.objs.size + 1
          · subst z; rw [delH_same, upd_ne (Ne.symm n2)]; exact he1.symm
          · rw [delH_ne z, eH, upd_ne z]
            by_cases z2 : b = dx
            · subst z2; rw [upd_same, upd_same]
            · rw [upd_ne z2, upd_ne z2, upd_ne z]
        have qE : E (.ref C) (some dx) (delH H2 (hh.objs.size + 1)) := by rw [eD]; exact q dx n1
        rw [Bd.xe]
        have hfr : X.A.frames = some (X.env :: X.outer) := by rw [← Bd.stk]; exact I.ok.frames
        have nS : hh.objs.size + 1 ∉ frs X.stack := fun m => by
          have := I2.stkFree _ m
          rw [hx2] at this; cases this
        have hin : ∀ env ∈ X.stack, ∀ b, env.frame = some b → b ∈ ((hh.objs.size + 1) :: frs X.stack) := fun env he b hb => List.mem_cons_of_mem _ (List.mem_filterMap.mpr ⟨env, he, hb⟩)
        have ff : s'.heap.FunFrames (PySem.W.hideAll s'.heap ((hh.objs.size + 1) :: frs X.stack)) (X.env :: X.outer) := by
          have z := PySem.W.funFrames_hide I2.stack hin
          rw [← Bd.stk]
          exact z
        refine leave_first (s := s') hfr Bd.fr (fun b o q => PySem.W.of_hideAll _ q) (PySem.W.hideAll_none _ (List.mem_cons_self ..)) ff ho1 rfl rfl fun h3 fly up => ?_
        exact ⟨_, C, some dx, delH H2 (hh.objs.size + 1), _, rfl, I2.os, I2.bare, fun h'' st up2 => clo_del Bd I2 hx2 new0' nS up h'' st up2, fly, delH_same, new0', qE⟩
  first
    | refine wpAny_bind (wpAny_standAt (raise_obj (K := X.K) (C := C) (CB := CB) (fI := fI) (I.ok.hd hc) (wpAny_bind (wpAny_mono key (fun v s₃ h₃ => wpAny_bind (wpAny_standAt (wpAny_pure h₃))) fun _ _ x => x))))
    | (simp only [evalOpt, Option.map]; refine wpAny_bind (wpAny_standAt (raise_obj (K := X.K) (C := C) (CB := CB) (fI := fI) (I.ok.hd hc) (wpAny_bind (wpAny_mono key (fun v s₃ h₃ => wpAny_bind (wpAny_standAt (wpAny_pure h₃))) fun _ _ x => x)))))
end
end L2
namespace L2
open PySem PySem.Spec PySem.Calls PyProof.Rows PySem.W Builtin Builtin.ObjectAttr
def XTr (K : PySem.W.Frag) (Bc : Addr) (D : Ends) (σ : St) (i : Nat) (ts : TS) : XK := fun c d H2 => ∃ C, c = .ref C ∧ PySem.W.exmOne K (.ref C) (.ref Bc) = some true ∧ ∀ a, H2 a = none → ts (D.gone i) (σ.set i (some (.ref a))) (upd H2 a (xC a C d))
section
variable {X : Cx} {c : Bool} {k : Nat} {ps : List Str} {sp : Sp} {x xc n : Str} {p pos cpos epos np hp : Pos} {e : Expr} {es : List Expr} {t : TA} {Bc : Addr} {b₀ : Stmt} {suite : List Stmt} {ts : TS} {i : Nat}
theorem ps_tryGD {body : List Stmt} {tb : TBd} (hb : PTB X body tb) (hst : X.stack = X.env :: X.outer) (hf : X.env.frame = some X.env.locals)
    (hcl : X.mg xc = some (.ref Bc)) (hs : ∀ a, PSs (X.hnd a) (b₀ :: suite) ts) (hN : X.N.Nodup) (hi : X.N[i]? = some n) (hloc : X.env.scope.names.lookup n = some .local) (hgc : Gl X xc := by rfl) (hdc : (xc == ("__debug__" : Str)) = false := by decide) :
    PS X (.Try body [.ExceptHandler (some (.Name xc np)) (some n) (b₀ :: suite) hp] [] [] pos) (fun D σ H => tb (XTr X.K Bc D σ i ts) (fun H2 => D.nx σ H2) σ H) := by
  intro pins s σ H D I h
  refine wpAny_Try_except (wpAny_mono (hb pins s σ H _ _ I h) (fun f s1 hq => ?_) (fun e s' hx => ?_))
  · obtain ⟨rfl, H2, I2, q⟩ := hq
    exact wpAny_execs_nil ⟨σ, H2, I2, q⟩
  · obtain ⟨H1, s1, I1, a, C, d, H', B, rfl, os, bare, clo, fly, na, nw, C', eC, hmm, q2⟩ := hx
    cases eC
    exact handle_asG (φ := XC a C d) (fun _ o h1 h2 h3 ⟨vs, h4⟩ => ⟨o, vs, h1, h2, h3, h4⟩) (fun _ _ z k => z.stay k) I1 hst hf os bare clo fly na nw hgc hcl hmm (hs a) hN hi hloc (q2 a na) hdc
end
section
variable {X : Cx}
theorem call_isiD1 : CallR X (.builtin "isinstance") (fun xs H Q => ∃ a C d v c b, xs = [.ref a, v] ∧ H a = some (xC a C d) ∧ ExcK X.K C ∧ RelV v c ∧ kitOne X.K (.ref C) c = some b ∧ Q (.bl b) H) := by
  intro pins s σ H xs us Q I r h
  obtain ⟨a, C, d, v, c, b, rfl, ha, F, rc, e, q⟩ := h
  obtain ⟨u, v', rfl, ru, rv⟩ := vals2 r
  cases (show u = Value.ref a from ru)
  have ec : v' = c := by
    cases v with
    | ref D => exact (show v' = .ref D from rv).trans (show c = .ref D from rc).symm
    | ty T => exact (show v' = .type T from rv).trans (show c = .type T from rc).symm
    | non => exact (show v' = .none from rv).trans (show c = .none from rc).symm
    | bl z => exact (show v' = .bool z from rv).trans (show c = .bool z from rc).symm
    | int i => obtain ⟨t, rfl⟩ := rc; exact absurd e (by unfold kitOne kitCls; simp)
    | str i => obtain ⟨t, rfl⟩ := rc; exact absurd e (by unfold kitOne kitCls; simp)
    | byt i => obtain ⟨t, rfl⟩ := rc; exact absurd e (by unfold kitOne kitCls; simp)
    | flt i => obtain ⟨t, rfl⟩ := rc; exact absurd e (by unfold kitOne kitCls; simp)
  subst ec
  have ob : ObjOk X.prog X.w H s.heap a (xC a C d) := I.hok a _ ha
  exact kia_one (kitx_exc F) I.kIn (XC.at ob.1) e (fun z => nomatch z) fun tk => ⟨.bl b, H, I.tok _, rfl, q⟩
end
section
variable {prog : Program} {w : World} {A : Around} {E : Value → Shared → Prop} {s : Shared} {K : PySem.W.Frag} {x C : Addr} {ox od : Obj} {f : Str} {v : Value}
theorem xfld_entry {Q : Fin → Shared → Prop} {tk : Tok} (X : K.In s.heap) (I : InstAt s.heap x ox C (some od)) (hf : findObj K C (some od) f = some (.value v)) (hh : handedIn v = true) (hq : Q (.done (.ret v)) s) :
    wpAny (model prog w) A (Builtin.«object.__getattribute__» ⟨[.ref x, .str f tk], []⟩) Q E s := by
  obtain ⟨hp, g, d, t, os⟩ := s
  have y0 := I.type (M := model prog w)
  have y2 := looks_find (M := model prog w) X I hf
  unfold Builtin.«object.__getattribute__»
  repeat (any_goals (first | assumption | (with_reducible refine y0.at ?_) | (with_reducible refine y2.at ?_) | wp_step))
theorem xfld_get {expr : Bool} {Q : Value → Shared → Prop} (X : K.In s.heap) (F : ExcK K C) (I : InstAt s.heap x ox C (some od)) (hf : findObj K C (some od) f = some (.value v)) (hh : handedIn v = true) (h : Q v { s with toks := s.toks + 1 }) :
    wpAny (model prog w) A (getAttr (.ref x) f expr) Q E s := by
  obtain ⟨hp, g, d, t, os⟩ := s
  have y0 := I.type (M := model prog w)
  have y1 := looks_findIn (M := model prog w) X F.ga
  have y3 := looks_findIn (M := model prog w) X F.gt
  have f3 := PySem.F.excAttr_ValueError.ga.bind (.ref x)
  have ex : ExcAt x C hp := ⟨ox, I.at_, I.cls⟩
  have hx1 : (onTheHeap (Value.ref C) && Value.builtin "BaseException.__getattribute__" == Value.builtin "object.__getattribute__") = false := by
    rw [show (Value.builtin "BaseException.__getattribute__" == Value.builtin "object.__getattribute__") = false by decide +kernel]; rfl
  unfold getAttr getAttrBy
  refine wpAny_bind (wpAny_mkText (wpAny_holding (wpAny_bind (y0.at (wpAny_bind (y1.at ?_))))))
  dsimp only
  rw [hx1]
  rw [if_neg Bool.false_ne_true]
  unfold getAttrByItsOwn hookBefore
  repeat (any_goals (first | assumption | wp_step | lk))
  have hx2 : (expr && onTheHeap (Value.builtin "BaseException.__getattribute__")) = false := Bool.and_false _
  rw [hx2, if_neg Bool.false_ne_true]
  unfold boundAndCalled
  repeat (any_goals (first | assumption | wp_step | lk))
  refine codeAny_call_builtin PySem.F.excAttr_ValueError.ga.plain PySem.F.entry_bexc_ga (exc_check (s := ⟨hp, g, d, t + 1, os⟩) X ex F (xfld_entry (s := ⟨hp, g, d, t + 1, os⟩) X I hf hh ?_))
  show wpAny _ _ (handedOut v) _ _ _
  rw [handedOut_of hh]
  exact wpAny_pure h
end
section
variable {X : Cx} {e : Expr} {ta : TE} {f : Str} {pos : Pos}
def tXat (K : PySem.W.Frag) (ta : TE) (f : Str) : TE := fun σ H Q => ta σ H fun x H1 => ∃ a C dx fs v, x = .ref a ∧ H1 a = some (xC a C (some dx)) ∧ H1 dx = some (.xd fs) ∧ ExcK K C ∧ PySem.W.hasDictIn K C = true ∧ NoAttr K C f ∧ fs.lookup f = some v ∧ Q v H1
theorem pe_xat (he : PE X e ta) (hb : attributeBase e f X.env (eval e X.env) = eval e X.env := by rfl) : PE X (.Attribute e f pos) (tXat X.K ta f) := by
  intro pins s σ H Q I h
  refine attr_of hb (thn (he pins s σ H _ I h) fun u s1 ⟨x, H1, I1, rx, a, C, dx, fs, v, ex, ea, ed, F, hd, n, l, q⟩ => ?_)
  subst ex
  obtain rfl : u = Value.ref a := rx
  obtain ⟨⟨o, vs, ho, hc, hdd, hdat⟩, _, _⟩ := (show ObjOk X.prog X.w H1 s1.heap a (xC a C (some dx)) from I1.hok a _ ea)
  obtain ⟨mA, ns, r⟩ := (show ObjOk X.prog X.w H1 s1.heap dx (.xd fs) from I1.hok dx _ ed)
  obtain ⟨od, hod, hl⟩ := lookIn_ns ns
  obtain ⟨u, hu, ru⟩ := RelO.some_of (v := v) (o := mA f) (by rw [← l]; exact r f)
  have J : InstAt s1.heap a o C (some od) := ⟨ho, hc, by obtain ⟨c0, d0, dt0, sl0⟩ := o; cases (show dt0 = .fields vs from hdat); rfl, by rw [hdd]; exact hod⟩
  exact xfld_get I1.kIn F J (findObj_own hd n rfl (by rw [hl, hu])) (handed_of ru) ⟨v, H1, I1.tok _, ru, q⟩
theorem call_isiD1K {K : PySem.W.Frag} (hK : X.K = K := by rfl) : CallR X (.builtin "isinstance") (fun xs H Q => ∃ a C d v c b, xs = [.ref a, v] ∧ H a = some (xC a C d) ∧ ExcK K C ∧ RelV v c ∧ kitOne K (.ref C) c = some b ∧ Q (.bl b) H) := hK ▸ call_isiD1
theorem pe_xatK {K : PySem.W.Frag} (he : PE X e ta) (hb : attributeBase e f X.env (eval e X.env) = eval e X.env := by rfl) (hK : X.K = K := by rfl) : PE X (.Attribute e f pos) (tXat K ta f) := hK ▸ pe_xat he hb
end
end L2
namespace L2
open PySem PySem.Spec PySem.Calls PyProof.Rows PySem.W
end L2
namespace Lib
open PySem L2 Fr Op
def atV : Option Nat → V
  | none => .non
  | some i => .int (i : Int)
def RaisedAt (H : Hp) (C : Addr) (o : Option Nat) (E : XK) : Prop := ∀ H' dx, Same H H' → H' dx = some (.xd [("at", atV o)]) → E (.ref C) (some dx) H'
theorem dvs_repl {K : PySem.W.Frag} {H : Hp} {v : V} {d : PyData} (h : DV K H v d) : ∀ n, DVs K H (List.replicate n v) (List.replicate n d)
  | 0 => .nil
  | n + 1 => by rw [List.replicate_succ, List.replicate_succ]; exact .cons h (dvs_repl h n)
theorem rep_flat1 (n : Nat) (x : V) : (List.replicate n [x]).flatten = List.replicate n x := by
  induction n with
  | zero => rfl
  | succ n ih => rw [List.replicate_succ, List.flatten_cons, ih, List.replicate_succ]; rfl
end Lib
namespace Lib
open PySem L2 Fr Op
end Lib
namespace L2
open PySem PySem.Spec PyProof.Rows
end L2
namespace L2
open PySem PySem.Spec PyProof.Rows PySem.Builtin PySem.Builtin.Str
theorem strs_of : ∀ {zs : List Str} {its : List Value}, Vals (zs.map V.str) its → ∃ l : List (Str × Tok), strValues l = its ∧ l.map (·.1) = zs
  | [], _, .nil => ⟨[], rfl, rfl⟩
  | z :: zs, _, .cons h r => by
    obtain ⟨t, rfl⟩ := h
    obtain ⟨l, h1, h2⟩ := strs_of r
    exact ⟨(z, t) :: l, by show _ :: strValues l = _; rw [h1], by show z :: _ = _; rw [h2]⟩
def rJoin : V → List V → Hp → VK → Prop := fun x vs H Q => ∃ (sep : Str) (l : Addr) (zs : List Str), x = .str sep ∧ vs = [.ref l] ∧ H l = some (.lst (zs.map V.str)) ∧ JoinOk sep zs = true ∧ Q (.str (Txt.join sep zs)) H
theorem mt_join {X : Cx} : MtM X "str.join" rJoin := by
  intro pins s σ H x vs v us Q I rx rv h
  obtain ⟨sep, l, zs, rfl, rfl, hH, ok, q⟩ := h
  obtain ⟨t, rfl⟩ := rx
  obtain ⟨u, rfl, ru⟩ := rv.one
  cases ru
  obtain ⟨z, its, n, r, hl, e⟩ := I.lstM hH
  obtain ⟨ps, rfl, e2⟩ := strs_of r
  exact SC.join ⟨_, e, rfl, _, rfl⟩ e2 ok fun t' k => ⟨.str _, H, I.tok _, ⟨t', rfl⟩, q⟩
def stp (a : List Str) (z : Str) : List Str := if z ∈ a then a else a ++ [z]
def metS (val : Nat → Str) : Nat → List Str
  | 0 => []
  | i + 1 => stp (metS val i) (val i)
theorem metS_le (val : Nat → Str) : ∀ i, (metS val i).length ≤ i
  | 0 => Nat.le_refl _
  | i + 1 => by
    have ih := metS_le val i
    show (stp _ _).length ≤ _
    unfold stp
    split
    · omega
    · rw [List.length_append, List.length_singleton]; omega
def inS (a : List Str) : Key → Bool := fun k => a.any fun z => decide (k = .inr z)
theorem inS_at (a : List Str) (z : Str) : inS a (.inr z) = decide (z ∈ a) := by
  unfold inS
  by_cases h : z ∈ a
  · rw [decide_eq_true h, List.any_eq_true]
    exact ⟨z, h, decide_eq_true rfl⟩
  · rw [decide_eq_false h, List.any_eq_false]
    intro y hy
    rw [decide_eq_true_eq]
    intro e
    exact h (Sum.inr.inj e ▸ hy)
theorem inS_stp (a : List Str) (z : Str) (k : Key) : inS (stp a z) k = (inS a k || decide (k = .inr z)) := by
  unfold stp
  split
  · rename_i h
    by_cases e : k = .inr z
    · subst e
      rw [inS_at, decide_eq_true h]; rfl
    · rw [decide_eq_false e, Bool.or_false]
  · unfold inS
    rw [List.any_append]
    simp
theorem len_stp (a : List Str) (z : Str) : (stp a z).length = if inS a (.inr z) = true then a.length else a.length + 1 := by
  rw [inS_at]
  unfold stp
  by_cases h : z ∈ a
  · rw [if_pos h, if_pos (decide_eq_true h)]
  · rw [if_neg h, if_neg (by rw [decide_eq_true_eq]; exact h), List.length_append, List.length_singleton]
section
variable {prog : Program} {w : World} {A : Around} {R : Result → Shared → Prop} {I : Addr} {fp wr : List Addr} {G : Array GenState → Array GenState → Prop} {n : Nat} {P : Nat → Value → Prop} {St : Nat → Shared → Prop}
theorem setOf_stay {S : Addr} {f : Key → Bool} {m : Nat} {h h' : Heap} (x : h.SetOf (mixKind prog w) S f m) (k : ∀ o, h.get? S = some o → h'.get? S = some o) : h'.SetOf (mixKind prog w) S f m := by
  obtain ⟨o, es, ep, t, ho, rest⟩ := x
  exact ⟨o, es, ep, t, k o ho, rest⟩
theorem set_loop (W : WalksS prog w A.in1 I fp wr G n P St) (S : Addr) (hSf : S ∉ fp) (val : Nat → Str) (hval : ∀ i v, P i v → ∃ t, v = .str (val i) t) (hb : n + 1 < scanBound) :
    ∀ (k i : Nat) (s : Shared), n - i = k → i ≤ n → St i s → s.heap.SetOf (mixKind prog w) S (inS (metS val i)) (metS val i).length →
      (∀ s', Moved (S :: wr) G s s' → s'.heap.SetOf (mixKind prog w) S (inS (metS val n)) (metS val n).length → R (.ok (.ret .none)) s') →
      codeAny (model prog w) A (.builtin "set.update.loop" ⟨[.ref S, .ref I], []⟩) R s := by
  have hSw : S ∉ wr := fun h => hSf (W.sub _ h)
  have hsub : ∀ b ∈ wr, b ∈ S :: wr := fun b hb => List.mem_cons_of_mem _ hb
  intro k
  induction k with
  | zero =>
    intro i s hk hi hst hS hR
    have hin : i = n := by omega
    subst hin
    refine codeAny_builtin PyProof.Rows.F.entry_set_update_loop ?_
    rw [Around.under_plainId PyProof.Rows.F.plain_set_update_loop _]
    show wpAny _ A.in1 (pyNext (.ref I) >>= _) _ _ s
    refine wpAny_bind (W.done s _ _ hst fun s' hm => ?_)
    show wpAny _ A.in1 (ret Value.none) _ _ s'
    exact wpAny_pure (hR s' (hm.mono hsub) (setOf_stay hS fun o e => hm.heap S o hSw e))
  | succ k ih =>
    intro i s hk hi hst hS hR
    have hlt : i < n := by omega
    refine codeAny_builtin PyProof.Rows.F.entry_set_update_loop ?_
    rw [Around.under_plainId PyProof.Rows.F.plain_set_update_loop _]
    show wpAny _ A.in1 (pyNext (.ref I) >>= _) _ _ s
    refine wpAny_bind (W.item i s _ _ hlt hst fun v s' hP hst' hm => ?_)
    obtain ⟨t, rfl⟩ := hval i v hP
    have hS' := setOf_stay hS fun o e => hm.heap S o hSw e
    show wpAny _ A.in1 (holding [Value.str (val i) t] (setAdd S (.str (val i) t)) >>= _) _ _ s'
    refine wpAny_bind (wpAny_holding ?_)
    unfold setAdd
    refine wpAny_holding ?_
    refine wpAny_bind ((mixKind prog w).pyHash (k := .inr (val i)) (mixKind_str _ _ _ _) ?_)
    have hroom : (metS val i).length + 1 < scanBound := by have := metS_le val i; omega
    refine wpAny_setAddHashed_of (knd := mixKind prog w) (s := { s' with toks := s'.toks + 1 }) (mixKind_str _ _ _ _) rfl hS' hroom fun h' hsb hS2 => ?_
    have hSi : h'.SetOf (mixKind prog w) S (inS (metS val (i + 1))) (metS val (i + 1)).length := by
      have e1 : inS (metS val (i + 1)) = fun k' => inS (metS val i) k' || decide (k' = .inr (val i)) := funext fun k' => inS_stp _ _ _
      have e2 : (metS val (i + 1)).length = _ := len_stp (metS val i) (val i)
      rw [e1, e2]
      exact hS2
    refine wpAny_pure ⟨plainId_quiet PyProof.Rows.F.plain_set_update_loop _, ih (i + 1) _ (by omega) hlt (W.frame _ s' _ _ hst' (Nat.le_succ _) fun b hb o e => ?_) hSi fun s'' hm'' hS'' => ?_⟩
    · rw [hsb.2 b (fun h : b = S => hSf (by rw [← h]; exact hb))]; exact e
    · refine hR s'' (Moved.trans W.gtrans ((hm.mono hsub).then_heap (Nat.le_succ _) fun b o hb e => ?_) hm'') hS''
      rw [hsb.2 b (fun h : b = S => hb (by rw [h]; exact List.mem_cons_self))]; exact e
end
section
variable {prog : Program} {w : World} {A : Around} {E : Value → Shared → Prop} {s : Shared}
set_option maxHeartbeats 3200000 in
theorem call_set_strs {l : Addr} {items : Array Value} {zs : List Str} {Q : Value → Shared → Prop}
    (hh : A.handled = none) (hl : s.heap.IsList l items) (hi : Vals (zs.map V.str) items.toList) (hb : items.size + 1 < scanBound)
    (h : ∀ (h' : Heap) (tk : Nat), h'.SetOf (mixKind prog w) s.heap.objs.size (inS (metS (fun i => zs.getD i "") items.size)) (metS (fun i => zs.getD i "") items.size).length →
      (∀ b o, b < s.heap.objs.size → s.heap.get? b = some o → h'.get? b = some o) → Q (.ref s.heap.objs.size) { s with heap := h', toks := tk }) :
    wpAny (model prog w) A (call (.type "set") [.ref l]) Q E s := by
  obtain ⟨c, tl, hmro⟩ := PySem.F.called_set.mro
  have hmade := PySem.F.called_set.made
  have hsub := PySem.F.called_set.sub
  refine wpAny_call (codeAny_of_tree ?_)
  show wpAny _ _ (callAny (.type "set") _) _ _ _
  refine wpAny_pure ⟨Code.quiet_builtin _ (by decide +kernel), codeAny_builtin PySem.F.entry_type_call ?_⟩
  rw [Around.under_plain (weight_type_call_type "set" [.ref l] []) rfl]
  have h1 := PySem.F.called_set.notType
  have h2 := PySem.F.called_set.canCreate
  have hct := PySem.F.typeCall_set_1 (.ref l)
  repeat (any_goals (first | assumption | wp_step))
  refine codeAny_mono (code_set_new_1 (.ref l) (E := E) (Q₁ := fun obj s₁ => ∃ led : Bool, obj = .ref s.heap.objs.size ∧ s₁ = { s with heap := s.heap.push { cls := .type "set", dict := none, data := .set #[] 0 (.fresh 0 0 led) } }) fun led => ⟨led, rfl, rfl⟩) fun r s₁ hr => ?_
  cases r with
  | error e => exact hr
  | ok fl =>
    cases fl with
    | ret obj =>
      obtain ⟨led, rfl, rfl⟩ := hr
      have hS : (s.heap.push { cls := .type "set", dict := none, data := .set #[] 0 (.fresh 0 0 led) }).get? s.heap.objs.size = some { cls := .type "set", dict := none, data := .set #[] 0 (.fresh 0 0 led) } := Heap.get?_push_size _ rfl
      have hT : Shared.TypeIs { s with heap := s.heap.push { cls := .type "set", dict := none, data := .set #[] 0 (.fresh 0 0 led) } } (.ref s.heap.objs.size) "set" := ⟨_, hS, rfl⟩
      have hli := PySem.F.called_set.init.lookup
      have hbi := PySem.F.called_set.init.bind (.ref s.heap.objs.size)
      repeat (any_goals (first | assumption | wp_step))
      refine codeAny_mono (codeAny_call_builtin (R := wants (fun r s₂ => r = .none ∧ ∃ h' tk, s₂ = { s with heap := h', toks := tk } ∧
          h'.SetOf (mixKind prog w) s.heap.objs.size (inS (metS (fun i => zs.getD i "") items.size)) (metS (fun i => zs.getD i "") items.size).length ∧
          (∀ b o, b < s.heap.objs.size → s.heap.get? b = some o → h'.get? b = some o)) E) PySem.F.called_set.init.plain PySem.F.entry_set_init (check_set_init_1 hT ?_)) fun r₂ s₂ hr₂ => ?_
      · obtain ⟨ol, hol, hcl, nl, hdl⟩ := hl
        obtain ⟨ocls, odict, odata, oslots⟩ := ol
        simp only at hcl hdl
        subst hcl; subst hdl
        have hol' : (s.heap.push { cls := .type "set", dict := none, data := .set #[] 0 (.fresh 0 0 led) }).get? l = some { cls := .type "list", dict := odict, data := .seq items nl, slots := oslots } := Heap.get?_push_of_some _ hol
        have hsls := PySem.F.sub_list_set
        have hslf := PySem.F.sub_list_frozenset
        have hne : (Value.type "list" == Value.type "dict") = false := by decide
        have hl1 : (s.heap.push { cls := .type "set", dict := none, data := .set #[] 0 (.fresh 0 0 led) }).IsList l items := ⟨_, hol', rfl, nl, rfl⟩
        unfold Builtin.«set.__init__» noKeywords Builtin.Frozenset.updateFrom
        generalize hPI : pyIter = PI
        wp_walk
        subst hPI
        refine wpAny_pyIter_list hl1 ?_
        refine wpAny_bind (wpAny_runValue ?_)
        have hlS : l < s.heap.objs.size := Heap.lt_size hol
        have hh3 : A.in1.in1.in1.handled = none := by simp [hh]
        have hneI : l ≠ (s.heap.push { cls := .type "set", dict := none, data := .set #[] 0 (.fresh 0 0 led) }).objs.size := by
          rw [Heap.size_push]; exact Nat.ne_of_lt (Nat.lt_succ_of_lt hlS)
        have hSf : s.heap.objs.size ∉ [(s.heap.push { cls := .type "set", dict := none, data := .set #[] 0 (.fresh 0 0 led) }).objs.size, l] := by
          rw [Heap.size_push]; simp only [List.mem_cons, List.mem_singleton, List.not_mem_nil, or_false, not_or]
          exact ⟨Nat.ne_of_lt (Nat.lt_succ_self _), Nat.ne_of_gt hlS⟩
        have hval : ∀ (i : Nat) (v : Value), items[i]? = some v → ∃ t, v = .str ((fun i => zs.getD i "") i) t := fun i v hv => by
          have hv' : items.toList[i]? = some v := by rw [Array.getElem?_toList]; exact hv
          have hil : i < zs.length := by
            have e1 := hi.length
            have e2 := lt_of_get hv'
            rw [List.length_map] at e1
            omega
          obtain ⟨u, hu, ru⟩ := hi.get (i := i) (x := .str zs[i]) (by rw [List.getElem?_map, List.getElem?_eq_getElem hil]; rfl)
          rw [hv'] at hu
          cases hu
          obtain ⟨t, rfl⟩ := ru
          exact ⟨t, by show Value.str _ t = Value.str (zs.getD i "") t; rw [List.getD_eq_getElem?_getD, List.getElem?_eq_getElem hil]; rfl⟩
        refine set_loop ((Walks.list hh3 _ l hneI items).toS) s.heap.objs.size
          hSf (fun i => zs.getD i "") hval hb (items.size - 0) 0 _ (by omega) (Nat.zero_le _)
          ⟨⟨_, Heap.get?_push_size _ rfl, rfl, rfl⟩, (hl1.push _)⟩ ?hS0 ?hR
        case hS0 =>
          have hget : ((s.heap.push { cls := .type "set", dict := none, data := .set #[] 0 (.fresh 0 0 led) }).push { cls := .type "list_iterator", data := .fields #[.ref l, .int 0 0] }).get? s.heap.objs.size
              = some { cls := .type "set", dict := none, data := .set #[] 0 (.fresh 0 0 led) } := Heap.get?_push_of_some _ hS
          exact ⟨_, #[], 0, _, hget, ⟨rfl, rfl, rfl⟩, rfl, (fun e he => by simp at he), (fun k => ⟨fun z => absurd (show false = true from z) Bool.false_ne_true, fun ⟨e, he, _⟩ => by simp at he⟩), by decide, by rfl, rfl⟩
        case hR =>
          intro s' hm hS'
          obtain ⟨h', g', d', tk', os'⟩ := s'
          have eg : g' = s.gens := hm.gens
          have ed : d' = s.drawn := hm.drawn
          have eo : os' = s.os := hm.os
          subst eg; subst ed; subst eo
          show wpAny _ _ _ _ _ _
          refine wpAny_pure ?_
          show wpAny _ _ (ret Value.none) _ _ _
          refine wpAny_pure ⟨rfl, h', tk', rfl, hS', fun b o hb e => ?_⟩
          have hb1 : b ≠ s.heap.objs.size := Nat.ne_of_lt hb
          have hb2 : b ≠ (s.heap.push { cls := .type "set", dict := none, data := .set #[] 0 (.fresh 0 0 led) }).objs.size := by
            rw [Heap.size_push]; exact Nat.ne_of_lt (Nat.lt_succ_of_lt hb)
          exact hm.heap b o (by simp only [List.mem_cons, List.mem_singleton, List.not_mem_nil, or_false, not_or]; exact ⟨hb1, hb2⟩) (Heap.get?_push_of_some _ (Heap.get?_push_of_some _ e))
      · cases r₂ with
        | error e => exact hr₂
        | ok fl₂ =>
          cases fl₂ with
          | ret r =>
            obtain ⟨rfl, h', tk, rfl, hS', hk'⟩ := hr₂
            repeat (any_goals (first | assumption | wp_step))
            exact h _ _ hS' hk'
          | _ => exact hr₂.elim
    | _ => exact hr.elim
end
theorem bt_set : bootBuiltins "set" = some (.type "set") := by decide +kernel
abbrev setO (P : Program) (w : World) (p : Addr) (n : Nat) : HO := .ext fun h => ∃ f, h.SetOf (mixKind P w) p f n
section
variable {X : Cx}
theorem call_setS (hc : X.calm = true) : CallR X (.type "set") (fun xs H Q => ∃ (l : Addr) (zs : List Str), xs = [.ref l] ∧ SqL X.K H l (zs.map V.str) ∧ zs.length < 1000 ∧ ∀ p, H p = none → Q (.ref p) (upd H p (setO X.prog X.w p (metS (fun i => zs.getD i "") zs.length).length))) := by
  intro pins s σ H xs us Q I r h
  obtain ⟨l, zs, rfl, hl, hz, q⟩ := h
  obtain ⟨u, rfl, ru⟩ := vals1 r
  cases ru
  obtain ⟨its, rv, pl, _⟩ := I.list hl
  have el : its.toArray.size = zs.length := by
    have := rv.length
    rw [List.length_map] at this
    rw [List.size_toArray]; exact this.symm
  refine call_set_strs (zs := zs) (I.ok.hd hc) pl.isList (by simpa using rv) (by rw [el]; unfold scanBound; omega) fun h' tk hS hk => ?_
  rw [el] at hS
  have ob : ObjOk X.prog X.w (upd H s.heap.objs.size (setO X.prog X.w s.heap.objs.size (metS (fun i => zs.getD i "") zs.length).length)) h' s.heap.objs.size (setO X.prog X.w s.heap.objs.size (metS (fun i => zs.getD i "") zs.length).length) := by
    refine ⟨⟨_, hS⟩, ?_, fun h1 h2 ⟨f, x⟩ k => ⟨f, setOf_stay x k⟩⟩
    obtain ⟨o, _, _, _, e, _⟩ := hS
    exact ⟨o, e⟩
  exact ⟨.ref s.heap.objs.size, _, I.laid (t' := tk) (fun b o e => hk b o (Heap.lt_size e) e) (Nat.le_refl _) ob, rfl, q _ (I.hok.fresh (Nat.le_refl _))⟩
theorem call_lenS : CallR X (.builtin "len") (fun xs H Q => ∃ (p : Addr) (n : Nat), xs = [.ref p] ∧ H p = some (setO X.prog X.w p n) ∧ n < 1000 ∧ Q (.int n) H) := by
  intro pins s σ H xs us Q I r h
  obtain ⟨p, n, rfl, hp, hn, q⟩ := h
  obtain ⟨u, rfl, ru⟩ := vals1 r
  cases ru
  have ob : ObjOk X.prog X.w H s.heap p (setO X.prog X.w p n) := I.hok p _ hp
  obtain ⟨⟨f, o, es, ep, t, ho, hex, hd, _, _, _, hf, en⟩, _⟩ := ob
  refine call_len_set ho hex hd hf (by rw [en]; have : ((n : Nat) : Int) < 1000 := by omega
                                       exact Int.lt_trans this (by decide)) ⟨.int n, H, I.tok _, ⟨_, by rw [en]⟩, q⟩
end
end L2
namespace L2
open PySem PySem.Spec PyProof.Rows PySem.Builtin
theorem MtFn.mcR {P : Program} {w : World} {K : PySem.W.Frag} {mg : Str → Option Value} {base : Heap} {C : Addr} {m qual : Str} {st : Stmt} {N ps : List Str} {k : Nat} {sp : Sp} (T : MtFn K C m qual st) (S : FnScope N ps (defScope st))
    (hb : ∀ (kV doc pm : Value) (an : Option Addr) (cdv ct : Value) (us : List Value), us.length = ps.length → bindArgs (PySem.W.fnOf m qual (defArgs st) (defBody st) (defScope st) .none kV doc pm an cdv ct) ⟨us, []⟩ = pure (ps.zip us))
    (len : ∀ vs H Q E, sp vs H Q E → vs.length = ps.length)
    (hbody : ∀ (f : Addr) (cdv : Value) (A : Around) (outer : List Env) (s : Shared) (H : Hp) (vs : List V) (Q : VK) (E : XK), RoomB true k (A.deeper (envOfC qual (defScope st) s.heap.objs.size f cdv)) → sp vs H Q E →
      ∃ t, PSs (cxB true P w K mg base N qual (defScope st) f cdv A outer s H E) (defBody st) t ∧ t { nx := fun _ H' => Q .non H', rt := Q } (start N vs) H) : MC P w K mg base (k + 1) C m ps sp := by
  obtain ⟨f, fd, F, hm⟩ := T.ex
  obtain ⟨oc, od, kV, doc, pm, an, cdv, ct, osl, rfl, l, cd⟩ := id F.ex
  exact ⟨⟨f, _, fnB_of l cd S len fun A outer s H vs Q E hr h => hbody f cdv A outer s H vs Q E hr h, hm, F.binds hb⟩, T.cl⟩
theorem MkFn.mkcR {P : Program} {w : World} {K : PySem.W.Frag} {mg : Str → Option Value} {base : Heap} {x : Str} {C : Addr} {qual : Str} {st : Stmt} {N ps : List Str} {k : Nat} {sp : Sp} (T : MkFn K mg x C qual st) (S : FnScope N ps (defScope st))
    (hb : ∀ (kV doc pm : Value) (an : Option Addr) (cdv ct : Value) (us : List Value), us.length = ps.length → bindArgs (PySem.W.fnOf "__init__" qual (defArgs st) (defBody st) (defScope st) .none kV doc pm an cdv ct) ⟨us, []⟩ = pure (ps.zip us))
    (len : ∀ vs H Q E, sp vs H Q E → vs.length = ps.length)
    (hbody : ∀ (f : Addr) (cdv : Value) (A : Around) (outer : List Env) (s : Shared) (H : Hp) (vs : List V) (Q : VK) (E : XK), RoomB true k (A.deeper (envOfC qual (defScope st) s.heap.objs.size f cdv)) → sp vs H Q E →
      ∃ t, PSs (cxB true P w K mg base N qual (defScope st) f cdv A outer s H E) (defBody st) t ∧ t { nx := fun _ H' => Q .non H', rt := Q } (start N vs) H) : MkC P w K mg base (k + 1) x C ps sp := by
  obtain ⟨f, fd, F, hm⟩ := T.ex
  obtain ⟨oc, od, kV, doc, pm, an, cdv, ct, osl, rfl, l, cd⟩ := id F.ex
  exact ⟨⟨f, _, fnB_of l cd S len fun A outer s H vs Q E hr h => hbody f cdv A outer s H vs Q E hr h, hm, F.binds hb⟩, T.mg⟩
section
variable {X : Cx} {k : Nat} {m : Str} {pos apos cpos epos : Pos} {e o : Expr} {es : List Expr} {ta : TE} {t : TA}
theorem ptb_meth {pl : Sem Bool} (he : PE X.nox o ta) (hr : RoomB true k X.A) (ha : PA X.nox (e :: es) t)
    (hst : starEach (e :: es) X.env = (false, eval e X.env) :: starEach es X.env := by rfl) (hpl : (backTo cpos (starEach es X.env)).any (·.1) = false := by rfl) (hsw : swapsWith (.Call (.Attribute o m apos) (e :: es) [] cpos) none epos.line X.env = pure false := by rfl)
    (ht : eval (.Call (.Attribute o m apos) (e :: es) [] cpos) X.env = (do
      let ov ← eval o X.env
      standAt apos.atName
      let (f, first) ← holding [ov] (getMethod ov m pl)
      callWith cpos f first (backTo cpos (starEach (e :: es) X.env)) (backToKw cpos (keywordEach [] X.env))) := by rfl) :
    PTB X [.Expr (.Call (.Attribute o m apos) (e :: es) [] cpos) epos] (fun E k' σ H => ta σ H fun x H1 => ∃ a C dx fs ps sp, x = .ref a ∧ H1 a = some (.ins C dx fs) ∧ fs.lookup m = none ∧
      MC X.prog X.w X.K X.mg X.base k C m ps sp ∧ t σ H1 fun vs H2 => sp (x :: vs) H2 (fun _ H3 => k' H3) E) := by
  intro pins s σ H E k' I h
  refine wpAny_execs_cons (wpAny_Expr_any ?_ I.quiet hsw)
  refine PySem.W.methodCall_KW (pl := pl) (wpAny_mono (he pins s σ H _ (I.wish _) h) (fun u s1 hu => ?_) (fun _ _ z => z.elim)) ht
  obtain ⟨x, H1, I1, rx, a, C, dx, fs, ps, sp, ex, ea, l, M, q⟩ := hu
  have I1 := I1.unwish
  subst ex
  obtain rfl : u = Value.ref a := rx
  obtain ⟨f, fd, F, hm, hb⟩ := M.ex
  refine getmeth_ok I1 ea M.cl hm l ?_
  refine PySem.W.callWith_K (first := [.ref a]) (h₀ := X.base) I.ok.mod.kin hm.kp (thn (PA.any ha cpos I1 q) fun us s2 ⟨vs, H2, I2, r, q2⟩ => ⟨I2.kIn, ?_⟩) hst hpl
  exact thn (run_fnB (us := .ref a :: us) (vs := .ref a :: vs) F hr hb I2 (.cons rfl r) (by rw [List.append_nil]; exact q2) fun e s' hx => ⟨H2, s2, I2, hx⟩) fun v s3 ⟨v', H3, I3, r3, q3⟩ => wpAny_execs_nil ⟨rfl, H3, I3, q3⟩
end
end L2
namespace Lib
open PySem L2 Fr Op
def letS : Str := "abcdefghijklmnopqrstuvwxyz"
def inLet (z : Str) : Bool := !(PySem.Builtin.Str.occurrences letS z 0 letS.length 1).isEmpty
def nameB (z : Str) : Bool := (decide (1 ≤ z.length) && decide (z.length ≤ 8)) && (PyProof.Rows.signs z).all inLet
def nameD : PyData → Bool
  | .str z => nameB z
  | _ => false
theorem nameD_no {d : PyData} (h : isStrD d = false) : nameD d = false := by
  cases d <;> first | rfl | cases h
def StrOk (d : PyData) : Prop := ∀ z, d = .str z → z.length ≤ sizeLine
def spName (K : PySem.W.Frag) : Sp := fun vs H Q _ => ∃ v d, vs = [v] ∧ DV K H v d ∧ StrOk d ∧ ∀ H', Same H H' → Q (.bl (nameD d)) H'
def kindD (k : Str × Rat) : PyData := .tuple [.str k.1, frD k.2]
def nzD : PyData → Bool
  | .tuple (.int i :: _) => !decide (i = 0)
  | _ => false
theorem nzD_fr (q : Rat) : nzD (frD q) = !decide (q = 0) := by
  show (!decide (q.num = 0)) = _
  congr 1
  exact decide_eq_decide.mpr Rat.num_eq_zero
def kindB : PyData → Bool
  | .tuple [a, b] => nameD a && (ratD b && nzD b)
  | _ => false
def KOk (d : PyData) : Prop := ∀ a b, d = .tuple [a, b] → StrOk a
def spKind (K : PySem.W.Frag) : Sp := fun vs H Q _ => ∃ v d, vs = [v] ∧ DV K H v d ∧ KOk d ∧ ∀ H', Same H H' → Q (.bl (kindB d)) H'
theorem kindB_no {d : PyData} (h : isTupD d = false) : kindB d = false := by
  cases d <;> first | rfl | cases h
theorem kindB_len {ds : List PyData} (h : ds.length ≠ 2) : kindB (.tuple ds) = false := by
  match ds with
  | [] => rfl
  | [_] => rfl
  | [_, _] => exact absurd rfl h
  | _ :: _ :: _ :: _ => rfl
theorem kindB_good {k : Str × Rat} (h1 : nameB k.1 = true) (h2 : k.2 ≠ 0) : kindB (kindD k) = true := by
  show (nameB k.1 && (ratD (frD k.2) && nzD (frD k.2))) = true
  rw [h1, ratD_fr, nzD_fr, decide_eq_false h2]; rfl
theorem kindB_of {d : PyData} (h : kindB d = true) : ∃ k : Str × Rat, d = kindD k ∧ nameB k.1 = true ∧ k.2 ≠ 0 := by
  match d, h with
  | .tuple [a, b], h =>
    have h : (nameD a && (ratD b && nzD b)) = true := h
    rw [Bool.and_eq_true, Bool.and_eq_true] at h
    obtain ⟨h1, h2, h3⟩ := h
    obtain ⟨q, rfl⟩ := ratD_of h2
    match a, h1 with
    | .str z, h1 =>
      refine ⟨(z, q), rfl, h1, fun e => ?_⟩
      rw [nzD_fr, show q = 0 from e] at h3
      exact absurd h3 (by decide)
def kname : PyData → Str
  | .tuple (.str z :: _) => z
  | _ => ""
def stockB : PyData → Bool
  | .list ds => (decide (1 ≤ ds.length) && decide (ds.length ≤ 4)) && (ds.all kindB && decide ((metS (fun i => (ds.map kname).getD i "") ds.length).length = ds.length))
  | _ => false
theorem stockB_no {d : PyData} (h : isLstD d = false) : stockB d = false := by
  cases d <;> first | rfl | cases h
def SOk (d : PyData) : Prop := ∀ ds, d = .list ds → ∀ x ∈ ds, KOk x
def spStock (K : PySem.W.Frag) : Sp := fun vs H Q _ => ∃ v d, vs = [v] ∧ DV K H v d ∧ SOk d ∧ ∀ H', Same H H' → Q (.bl (stockB d)) H'
theorem metS_take {zs : List Str} (h : zs.Nodup) : ∀ i, i ≤ zs.length → metS (fun i => zs.getD i "") i = zs.take i
  | 0, _ => by rw [List.take_zero]; rfl
  | i + 1, hi => by
    have hlt : i < zs.length := hi
    show stp (metS _ i) (zs.getD i "") = _
    rw [metS_take h i (Nat.le_of_lt hlt), List.take_add_one, List.getElem?_eq_getElem hlt, List.getD_eq_getElem?_getD, List.getElem?_eq_getElem hlt]
    show stp (zs.take i) zs[i] = zs.take i ++ [zs[i]]
    unfold stp
    rw [if_neg]
    intro hm
    obtain ⟨j, hj, e⟩ := List.mem_iff_getElem.mp hm
    rw [List.getElem_take] at e
    have hji : j < i := by rw [List.length_take] at hj; omega
    have hp := List.pairwise_iff_getElem.mp h j i (by omega) hlt hji
    exact hp e
structure StockOk (st : List (Str × Rat)) : Prop where
  len : 1 ≤ st.length ∧ st.length ≤ 4
  nm : ∀ k ∈ st, nameB k.1 = true
  nz : ∀ k ∈ st, k.2 ≠ 0
  nd : (st.map (·.1)).Nodup
theorem stockB_good {st : List (Str × Rat)} (h : StockOk st) : stockB (.list (st.map kindD)) = true := by
  show ((decide (1 ≤ (st.map kindD).length) && decide ((st.map kindD).length ≤ 4)) && ((st.map kindD).all kindB && decide ((metS (fun i => ((st.map kindD).map kname).getD i "") (st.map kindD).length).length = (st.map kindD).length))) = true
  have e1 : (st.map kindD).map kname = st.map (·.1) := by rw [List.map_map]; exact List.map_congr_left fun _ _ => rfl
  have e2 : (st.map kindD).all kindB = true := by
    rw [List.all_map, List.all_eq_true]
    exact fun k hk => kindB_good (h.nm k hk) (h.nz k hk)
  rw [e1, e2, List.length_map, decide_eq_true h.len.1, decide_eq_true h.len.2]
  have e3 := metS_take h.nd st.length (by rw [List.length_map]; exact Nat.le_refl _)
  rw [e3, List.length_take, List.length_map, Nat.min_self]
  simp
theorem nameB_le {z : Str} (h : nameB z = true) : z.length ≤ 8 := by
  unfold nameB at h
  rw [Bool.and_eq_true, Bool.and_eq_true] at h
  exact of_decide_eq_true h.1.2
theorem sok_good {st : List (Str × Rat)} (h : ∀ k ∈ st, nameB k.1 = true) : SOk (.list (st.map kindD)) := by
  intro ds e x hx a b e2 z e3
  cases e
  obtain ⟨k, hk, rfl⟩ := List.mem_map.mp hx
  cases e2
  cases e3
  have := nameB_le (h k hk)
  exact Nat.le_trans this (by decide)
theorem sameT_ins {H : Hp} {x C dx : Addr} {fs : List (Str × V)} (h : H x = some (.ins C dx fs)) (o : HO) : SameT H (upd H x o) := fun b ys => ⟨fun e => by rw [upd_ne (fun z => by rw [z, h] at e; cases e)]; exact e, fun o' e => by rw [upd_ne (fun z => by rw [z, h] at e; cases e)]; exact e⟩
def ShopAt (K : PySem.W.Frag) (C : Addr) (H : Hp) (v : V) (st : List (Str × Rat)) : Prop := ∃ (a dx ls : Addr) (ks : List V), v = .ref a ∧ H a = some (.ins C dx [("stock", .ref ls)]) ∧ H ls = some (.lst ks) ∧ DVs K H ks (st.map kindD)
theorem ShopAt.keep {K : PySem.W.Frag} {C : Addr} {H H' : Hp} {v : V} {st : List (Str × Rat)} (s : Same H H') (h : ShopAt K C H v st) : ShopAt K C H' v st := by
  obtain ⟨a, dx, ls, ks, e, h1, h2, h3⟩ := h
  exact ⟨a, dx, ls, ks, e, s _ _ h1, s _ _ h2, h3.keep s⟩
def spShop (K : PySem.W.Frag) (C : Addr) : Sp := fun vs H Q _ => ∃ a dx y ds, vs = [.ref a, y] ∧ H a = some (.ins C dx []) ∧ DV K H y (.list ds) ∧ stockB (.list ds) = true ∧ SOk (.list ds) ∧
  ∀ ks ls H1, Same H H1 → H ls = none → H1 ls = some (.lst ks) → DVs K H1 ks ds → Q .non (upd H1 a (.ins C dx [("stock", .ref ls)]))
def gapsB : PyData → Bool
  | .list ds => (decide (1 ≤ ds.length) && decide (ds.length ≤ 5)) && ds.all ratD
  | _ => false
theorem gapsB_no {d : PyData} (h : isLstD d = false) : gapsB d = false := by
  cases d <;> first | rfl | cases h
def spGaps (K : PySem.W.Frag) (C : Addr) : Sp := fun vs H Q E => ∃ v d, vs = [v] ∧ DV K H v d ∧ (gapsB d = true → ∀ H', Same H H' → Q .non H') ∧ (gapsB d = false → RaisedAt H C none E)
theorem isLst_of {d : PyData} (h : isLstD d = true) : ∃ ds, d = .list ds := by
  cases d <;> first | exact ⟨_, rfl⟩ | cases h
end Lib
namespace Lib
open PySem L2 Fr Op
def mixF (z b : Int) : Int := ((z % 1000003 + 7) * b % 2147483647) * ((z % 1000003 + 7) * b % 2147483647) % 2147483629
theorem mixF_0 (z b : Int) : 0 ≤ mixF z b := Int.emod_nonneg _ (by decide)
def spMixF : Sp := fun vs H Q _ => ∃ z b : Int, vs = [.int z, .int b] ∧ 0 ≤ b ∧ b < 2 ^ 32 ∧ Q (.int (mixF z b)) H
theorem empty_cps : ((PySem.Str.ofString "") : Str).cps = #[] := by decide +kernel
theorem join_one : ∀ cs : List Nat, Str.join (PySem.Str.ofString "") (cs.map fun c => (⟨#[c]⟩ : Str)) = ⟨cs.toArray⟩
  | [] => rfl
  | [c] => rfl
  | c :: d :: r => by
    show ((⟨#[c]⟩ : Str) ++ (PySem.Str.ofString "") ++ Str.join (PySem.Str.ofString "") ((d :: r).map fun c => (⟨#[c]⟩ : Str)) : Str) = _
    rw [join_one (d :: r)]
    show (⟨(#[c] ++ (PySem.Str.ofString "" : Str).cps) ++ (d :: r).toArray⟩ : Str) = _
    rw [empty_cps]
    simp
theorem joinT_one (cs : List Nat) : Txt.join (PySem.Str.ofString "") (cs.map fun c => (⟨#[c]⟩ : Str)) = ⟨cs.toArray⟩ := (StrLaws.glued_eq_join _ _).trans (join_one cs)
def sizeN (z : Int) : Int := 1 + mixF z 31541 / 64 % 8
def placeN (z : Int) : Int := mixF z 44621 / 64 % sizeN z
theorem sizeN_b (z : Int) : 1 ≤ sizeN z ∧ sizeN z ≤ 8 := by unfold sizeN; omega
theorem placeN_b (z : Int) : 0 ≤ placeN z ∧ placeN z < sizeN z := ⟨Int.emod_nonneg _ (by have := sizeN_b z; omega), Int.emod_lt_of_pos _ (by have := sizeN_b z; omega)⟩
def letN (z k : Int) (j : Nat) : Int := (mixF (z + (0 + (j : Int))) 52501 / 64 + k * (if decide (V.int (0 + (j : Int)) = V.int (placeN z)) = true then 1 else 0)) % 26
theorem letN_b (z k : Int) (j : Nat) : 0 ≤ letN z k j ∧ letN z k j < 26 := ⟨Int.emod_nonneg _ (by decide), Int.emod_lt_of_pos _ (by decide)⟩
def nameCs (z k : Int) (n : Nat) : List Nat := (List.range n).map fun j => 97 + (letN z k j).toNat
def nameS (z k : Int) : Str := ⟨(nameCs z k (sizeN z).toNat).toArray⟩
theorem letS_get : ∀ j : Nat, j < 26 → letS.cps[j]? = some (97 + j) := by decide +kernel
theorem letS_len : letS.length = 26 := by decide +kernel
theorem letS_mem : ∀ j : Nat, j < 26 → (97 + j) ∈ letS.cps.toList := by decide +kernel
theorem inLet_of {j : Nat} (h : j < 26) : inLet ⟨#[97 + j]⟩ = true := by
  unfold inLet
  rw [StrLaws.found_one]
  exact decide_eq_true (letS_mem j h)
theorem nameS_len (z k : Int) : (nameS z k).length = (sizeN z).toNat := by
  show ((nameCs z k (sizeN z).toNat).toArray).size = _
  unfold nameCs
  simp
theorem nameB_S (z k : Int) : nameB (nameS z k) = true := by
  unfold nameB
  rw [nameS_len]
  have b := sizeN_b z
  rw [decide_eq_true (show 1 ≤ (sizeN z).toNat by omega), decide_eq_true (show (sizeN z).toNat ≤ 8 by omega), Bool.true_and, Bool.true_and, List.all_eq_true]
  intro x hx
  unfold PyProof.Rows.signs nameS nameCs at hx
  simp only [List.map_map, List.mem_map, List.mem_range, Function.comp_apply] at hx
  obtain ⟨j, _, rfl⟩ := hx
  have := letN_b z k j
  exact inLet_of (by omega)
theorem nameS_inj {z k l : Int} (hk : 0 ≤ k ∧ k < 26) (hl : 0 ≤ l ∧ l < 26) (e : nameS z k = nameS z l) : k = l := by
  have e1 : nameCs z k (sizeN z).toNat = nameCs z l (sizeN z).toNat := by
    have := congrArg (fun s : Str => s.cps.toList) e
    simpa [nameS] using this
  have pb := placeN_b z
  have hlt : (placeN z).toNat < (sizeN z).toNat := by omega
  have e2 := congrArg (fun c : List Nat => c[(placeN z).toNat]?) e1
  unfold nameCs at e2
  simp only [List.getElem?_map, List.getElem?_range hlt, Option.map_some, Option.some.injEq] at e2
  have b1 := letN_b z k (placeN z).toNat
  have b2 := letN_b z l (placeN z).toNat
  have e3 : letN z k (placeN z).toNat = letN z l (placeN z).toNat := by omega
  unfold letN at e3
  have ep : V.int (0 + ((placeN z).toNat : Int)) = V.int (placeN z) := by rw [Int.zero_add, Int.toNat_of_nonneg pb.1]
  rw [ep, decide_eq_true rfl] at e3
  simp only [if_true, Int.mul_one] at e3
  omega
def spNameS : Sp := fun vs H Q _ => ∃ z k : Int, vs = [.int z, .int k] ∧ 0 ≤ k ∧ k < 26 ∧ ∀ H', Same H H' → Q (.str (nameS z k)) H'
structure LStock (z : Int) (st : List (Str × Rat)) : Prop where
  nm : ∀ (i : Nat) (k : Str × Rat), st[i]? = some k → k.1 = nameS z (i : Int)
  nz : ∀ k ∈ st, k.2 ≠ 0
  bd : ∀ k ∈ st, Bd 7 k.2
theorem LStock.ok {z : Int} {st : List (Str × Rat)} (h : LStock z st) (h1 : 1 ≤ st.length) (h4 : st.length ≤ 4) : StockOk st := by
  refine ⟨⟨h1, h4⟩, fun k hk => ?_, h.nz, ?_⟩
  · obtain ⟨i, hi⟩ := List.getElem?_of_mem hk
    rw [h.nm i k hi]
    exact nameB_S _ _
  · refine List.pairwise_iff_getElem.mpr fun i j hi hj hij e => ?_
    rw [List.length_map] at hi hj
    rw [List.getElem_map, List.getElem_map] at e
    rw [h.nm i _ (List.getElem?_eq_getElem (Nat.lt_trans hij hj)), h.nm j _ (List.getElem?_eq_getElem hj)] at e
    have := nameS_inj (z := z) (k := (i : Int)) (l := (j : Int)) ⟨by omega, by omega⟩ ⟨by omega, by omega⟩ e
    omega
theorem LStock.push {z : Int} {st : List (Str × Rat)} {q : Rat} (h : LStock z st) (hq : q ≠ 0) (hb : Bd 7 q) : LStock z (st ++ [(nameS z (st.length : Int), q)]) := by
  refine ⟨fun i k hi => ?_, fun k hk => ?_, fun k hk => ?_⟩
  · rcases Nat.lt_trichotomy i st.length with lt | rfl | gt
    · rw [List.getElem?_append_left lt] at hi
      exact h.nm i k hi
    · rw [List.getElem?_append_right (Nat.le_refl _), Nat.sub_self] at hi
      cases hi
      rfl
    · rw [List.getElem?_eq_none (by rw [List.length_append, List.length_singleton]; omega)] at hi
      cases hi
  · rcases List.mem_append.mp hk with m | m
    · exact h.nz k m
    · rw [List.mem_singleton.mp m]; exact hq
  · rcases List.mem_append.mp hk with m | m
    · exact h.bd k m
    · rw [List.mem_singleton.mp m]; exact hb
theorem LStock.nil (z : Int) : LStock z [] := ⟨(fun i k hi => by cases hi), (fun k hk => nomatch hk), fun k hk => nomatch hk⟩
def spLStock (K : PySem.W.Frag) (m : Nat) : Sp := fun vs H Q _ => ∃ z : Int, vs = [.int z] ∧ ∀ l ks st H', Same H H' → H l = none → H' l = some (.lst ks) → DVs K H' ks (st.map kindD) → LStock z st → 1 ≤ st.length → st.length ≤ m → Q (.ref l) H'
end Lib
namespace L2
open PySem PySem.Spec PyProof.Rows PySem.Builtin
def ItzL (K : PySem.W.Frag) (a1 a2 : Addr) : It :=
  ⟨fun i H => ∃ xs ys x y, SqL K H a1 xs ∧ SqL K H a2 ys ∧ xs[i]? = some x ∧ ys[i]? = some y,
   fun i H x H' => ∃ p u v, H p = none ∧ x = .ref p ∧ (∀ xs, SqL K H a1 xs → xs[i]? = some u) ∧ (∀ ys, SqL K H a2 ys → ys[i]? = some v) ∧ H' = upd H p (.tup [u, v]),
   fun i H => ∃ xs ys, SqL K H a1 xs ∧ SqL K H a2 ys ∧ xs.length ≤ i⟩
def TnZL (z TI TO i1 i2 a1 a2 : Addr) (i : Nat) (h : Heap) : Prop := IsZip h z TI TO .none ∧ IsPair h TI (.ref i1) (.ref i2) ∧ (∃ p q, IsPair h TO p q) ∧ h.IsListIter i1 a1 i ∧ h.IsListIter i2 a2 i
section
variable {z TI TO i1 i2 a1 a2 : Addr}
theorem TnZL.obj {i : Nat} {h : Heap} (t : TnZL z TI TO i1 i2 a1 a2 i h) (b : Addr) (hb : b ∈ [z, TI, TO, i1, i2]) : ∃ o, h.get? b = some o ∧ ∀ v, o.data ≠ .cell v := by
  obtain ⟨t0, tI, ⟨p, q, tO⟩, ⟨o1, e1, c1, d1⟩, ⟨o2, e2, c2, d2⟩⟩ := t
  simp only [List.mem_cons, List.not_mem_nil, or_false] at hb
  rcases hb with z | z | z | z | z
  · rw [z]; exact ⟨_, t0, fun v q => by cases q⟩
  · rw [z]; exact ⟨_, tI, fun v q => by cases q⟩
  · rw [z]; exact ⟨_, tO, fun v q => by cases q⟩
  · rw [z]; exact ⟨o1, e1, fun v q => by rw [d1] at q; cases q⟩
  · rw [z]; exact ⟨o2, e2, fun v q => by rw [d2] at q; cases q⟩
theorem turn_zipL {P : Program} {w : World} {K : PySem.W.Frag} {elts : List Expr} {x1} {tpos : Pos} (Z : ZipApart z TI TO i1 i2 a1 a2) : Turn P w K (.Tuple elts x1 tpos) (ItzL K a1 a2) [z, TI, TO, i1, i2] z (TnZL z TI TO i1 i2 a1 a2) where
  mem := by simp
  obj := fun i h t b hb => t.obj b hb
  keep := fun i h h' ⟨t0, tI, ⟨p, q, tO⟩, j1, j2⟩ k => ⟨k z (by simp) _ t0, k TI (by simp) _ tI, ⟨p, q, k TO (by simp) _ tO⟩, j1.at fun o e => k i1 (by simp) o e, j2.at fun o e => k i2 (by simp) o e⟩
  item := by
    intro X hP hw hK hc i pins s σ H E I hf t hg
    have alive := t.obj
    obtain ⟨t0, tI, ⟨p, q, tO⟩, j1, j2⟩ := t
    subst hP hw hK
    obtain ⟨xs, ys, x, y, hx, hy, gx, gy⟩ := hg
    obtain ⟨us, rx, px, zx⟩ := I.list hx
    obtain ⟨vs, ry, py, zy⟩ := I.list hy
    obtain ⟨u, hu, ru⟩ := rx.get gx
    obtain ⟨v, hv, rv⟩ := ry.get gy
    have fz := hf z (by simp)
    have fO := hf TO (by simp)
    have f1 := hf i1 (by simp)
    have f2 := hf i2 (by simp)
    refine wpAny_pyNext_zip_item Z t0 tI tO j1 j2 px.isList py.isList (x := u) (y := v) (by simpa using hu) (by simpa using hv) fun h1 m0 mO m1 m2 mp msz mk => ?_
    refine ⟨_, rfl, ?_⟩
    refine wpAny_letOwnedTupleGo_zip m0 fun h2 n0 nb => ?_
    have nep : ∀ b o, s.heap.get? b = some o → b ≠ s.heap.objs.size := fun b o q => Nat.ne_of_lt (Heap.lt_size q)
    have k2 : ∀ b o, b ∉ [z, TO, i1, i2] → s.heap.get? b = some o → h2.get? b = some o := fun b o hb q =>
      nb.extBut b o (fun e => hb (by simp [e])) (mk b o (fun e => hb (by simp [e])) (fun e => hb (by simp [e])) (fun e => hb (by simp [e])) (fun e => hb (by simp [e])) q)
    have nt : ∀ b o, H b = some o → b ∉ [z, TO, i1, i2] := fun b o q hb => by
      simp only [List.mem_cons, List.not_mem_nil, or_false] at hb
      rcases hb with e | e | e | e
      · rw [e, fz.1] at q; cases q
      · rw [e, fO.1] at q; cases q
      · rw [e, f1.1] at q; cases q
      · rw [e, f2.1] at q; cases q
    have hp0 : H s.heap.objs.size = none := I.hok.fresh (Nat.le_refl _)
    have htp : h2.get? s.heap.objs.size = some { cls := .type "tuple", data := .seq #[u, v] } := nb.extBut _ _ (Nat.ne_of_gt (Heap.lt_size t0)) mp
    have J : Inv X pins σ (upd H s.heap.objs.size (.tup [x, y])) { s with heap := h2 } := by
      refine I.step (g' := s.gens) (d' := s.drawn) (t' := s.toks) (ch := [z, TO, i1, i2]) (fun b hb => ?_) (fun b o _ _ hc' q n => k2 b o hc' q) (fun b o _ _ hc' q n => ⟨o.slots, k2 b o hc' q⟩)
        (fun b o _ q n => (upd_ne (nep b o q)).trans n) (fun b o hc' q => ⟨o, k2 b o hc' q⟩)
        (fun b ys q => (upd_ne (ne_of_none q hp0)).trans q) (fun b o y q => (upd_ne (ne_of_none q hp0)).trans q) (fun b ps q => ⟨#[], by rw [upd_ne (ne_of_none q hp0), q]; simp⟩) (fun m hm => ?_) (fun b o q => ?_) I.bare
      · simp only [List.mem_cons, List.not_mem_nil, or_false] at hb
        rcases hb with e | e | e | e
        · rw [e]; exact ⟨fz.2.2.2.1, fz.2.1, fz.2.2.2.2.1, fz.2.2.2.2.2⟩
        · rw [e]; exact ⟨fO.2.2.2.1, fO.2.1, fO.2.2.2.2.1, fO.2.2.2.2.2⟩
        · rw [e]; exact ⟨f1.2.2.2.1, f1.2.1, f1.2.2.2.2.1, f1.2.2.2.2.2⟩
        · rw [e]; exact ⟨f2.2.2.2.1, f2.2.1, f2.2.2.2.2.1, f2.2.2.2.2.2⟩
      · obtain ⟨o, es, ep, ho, r⟩ := hm
        refine ⟨o, es, ep, k2 _ o (fun hb => ?_) ho, r⟩
        simp only [List.mem_cons, List.not_mem_nil, or_false] at hb
        rcases hb with e | e | e | e
        · exact fz.2.1 e.symm
        · exact fO.2.1 e.symm
        · exact f1.2.1 e.symm
        · exact f2.2.1 e.symm
      · by_cases hb : b = s.heap.objs.size
        · subst hb
          rw [upd_same] at q
          cases q
          exact ⟨by show 2 ≤ sizeLine; decide, [u, v], .cons ru (.cons rv .nil), _, htp, rfl, _, rfl⟩
        · rw [upd_ne hb] at q
          refine (I.hok b o q).stay (fun c v hc' e => k2 c v ?_ e) (fun c e => (upd_ne (ne_of_none e hp0)).trans e) fun c ys e => (upd_ne (ne_of_none e hp0)).trans e
          rcases hc' with e | e
          · rw [e]; exact nt b o q
          · exact nt c _ e
    refine ⟨.ref s.heap.objs.size, _, J, rfl, ⟨s.heap.objs.size, x, y, hp0, rfl, (fun l hl => by rw [I.list_inj hl hx]; exact gx), (fun l hl => by rw [I.list_inj hl hy]; exact gy), rfl⟩,
      ⟨n0, nb.extBut _ _ Z.TIz (mk _ _ Z.TIz Z.TITO Z.TIi1 Z.TIi2 tI), ⟨u, v, nb.extBut _ _ Z.TOz mO⟩, m1.extBut nb.extBut Z.i1z, m2.extBut nb.extBut Z.i2z⟩, fun b hb => ?_⟩
    obtain ⟨o, eo, _⟩ := alive b hb
    rw [upd_ne (nep _ _ eo)]
    exact (hf b hb).1
  done := by
    intro X hP hw hK hc i pins s σ H E I hf t hg
    obtain ⟨t0, tI, ⟨p, q, tO⟩, j1, j2⟩ := t
    subst hP hw hK
    obtain ⟨xs, ys, hx, hy, hi⟩ := hg
    obtain ⟨us, rx, px, zx⟩ := I.list hx
    obtain ⟨vs, ry, py, zy⟩ := I.list hy
    have hl := rx.length
    have fz := hf z (by simp)
    have fO := hf TO (by simp)
    have f1 := hf i1 (by simp)
    have f2 := hf i2 (by simp)
    refine wpAny_pyNext_zip_end (I.ok.hd hc) Z t0 tI tO j1 j2 px.isList py.isList (.inl (by simp; omega)) fun h' st => ⟨rfl, ?_⟩
    have k2 : ∀ b o, b ∉ [z, TO, i1, i2] → s.heap.get? b = some o → h'.get? b = some o := fun b o hb q => st b o (fun e => hb (by simp [e])) (fun e => hb (by simp [e])) (fun e => hb (by simp [e])) (fun e => hb (by simp [e])) q
    have nt : ∀ b o, H b = some o → b ∉ [z, TO, i1, i2] := fun b o q hb => by
      simp only [List.mem_cons, List.not_mem_nil, or_false] at hb
      rcases hb with e | e | e | e
      · rw [e, fz.1] at q; cases q
      · rw [e, fO.1] at q; cases q
      · rw [e, f1.1] at q; cases q
      · rw [e, f2.1] at q; cases q
    refine I.step (g' := s.gens) (d' := s.drawn) (t' := s.toks) (ch := [z, TO, i1, i2]) (fun b hb => ?_) (fun b o _ _ hc' q n => k2 b o hc' q) (fun b o _ _ hc' q n => ⟨o.slots, k2 b o hc' q⟩)
        (fun b o _ q n => n) (fun b o hc' q => ⟨o, k2 b o hc' q⟩)
        (fun b ys q => q) (fun b o y q => q) (fun b ps q => ⟨#[], by rw [q]; simp⟩) (fun m hm => ?_) (fun b o q => ?_) I.bare
    · simp only [List.mem_cons, List.not_mem_nil, or_false] at hb
      rcases hb with e | e | e | e
      · rw [e]; exact ⟨fz.2.2.2.1, fz.2.1, fz.2.2.2.2.1, fz.2.2.2.2.2⟩
      · rw [e]; exact ⟨fO.2.2.2.1, fO.2.1, fO.2.2.2.2.1, fO.2.2.2.2.2⟩
      · rw [e]; exact ⟨f1.2.2.2.1, f1.2.1, f1.2.2.2.2.1, f1.2.2.2.2.2⟩
      · rw [e]; exact ⟨f2.2.2.2.1, f2.2.1, f2.2.2.2.2.1, f2.2.2.2.2.2⟩
    · obtain ⟨o, es, ep, ho, r⟩ := hm
      refine ⟨o, es, ep, k2 _ o (fun hb => ?_) ho, r⟩
      simp only [List.mem_cons, List.not_mem_nil, or_false] at hb
      rcases hb with e | e | e | e
      · exact fz.2.1 e.symm
      · exact fO.2.1 e.symm
      · exact f1.2.1 e.symm
      · exact f2.2.1 e.symm
    · refine (I.hok b o q).stay (fun c v hc' e => k2 c v ?_ e) (fun c e => e) fun c ys e => e
      rcases hc' with e | e
      · rw [e]; exact nt b o q
      · exact nt c _ e
  self := fun _ _ _ _ _ t h => wpAny_pyIter_zip t.1 h
end
section
variable {X : Cx} {elts : List Expr} {x1 : Nat} {tpos : Pos}
def iZipL (K : PySem.W.Frag) (ta : TA) : TI := fun σ H R => ta σ H fun vs H1 => ∃ a b, vs = [.ref a, .ref b] ∧ (∃ xs, SqL K H1 a xs) ∧ (∃ ys, SqL K H1 b ys) ∧ R (ItzL K a b) H1
theorem pi_zipL {a b : Expr} {ta : TA} {p pos : Pos} (hg : Gl X "zip") (hm : X.mg "zip" = none) (ha : PA X [a, b] ta) (hs : starEach [a, b] X.env = [(false, eval a X.env), (false, eval b X.env)] := by rfl) (hs2 : starEach [b] X.env = [(false, eval b X.env)] := by rfl) :
    PI X (.Tuple elts x1 tpos) (.Call (.Name "zip" p) [a, b] [] pos) (iZipL X.K ta) := by
  intro pins s σ H R I h
  refine Call_ (ld_blt I hg hm boot_zip (PyProof.Rows.callWith_type1 (thn (ha pos pins s σ H _ I h) fun us s1 ⟨vs, H1, I1, r1, q1⟩ => ?_) (by rw [hs, hs2]) (by rw [hs2]; rfl)))
  obtain ⟨a, b, e, ⟨xs, hx⟩, ⟨ys, hy⟩, q⟩ := q1
  subst e
  obtain ⟨u, v, rfl, ru, rv⟩ := vals2 r1
  cases ru
  cases rv
  obtain ⟨its, rx, px, zx⟩ := I1.list hx
  obtain ⟨jts, ry, py, zy⟩ := I1.list hy
  have px := px.isList
  have py := py.isList
  have l1 : a < s1.heap.objs.size := by
    obtain ⟨_, e, _⟩ := px
    exact Heap.lt_size e
  have l2 : b < s1.heap.objs.size := by
    obtain ⟨_, e, _⟩ := py
    exact Heap.lt_size e
  refine call_zip_2 px py fun h' e0 eI eO j1 j2 hsz hk => ?_
  have I2 : Inv X pins σ H1 { s1 with heap := h' } := I1.kept (t' := s1.toks) hk
  refine wpAny_pyIter_zip e0 ⟨s1.heap.objs.size + 4, [s1.heap.objs.size + 4, s1.heap.objs.size + 2, s1.heap.objs.size + 3, s1.heap.objs.size, s1.heap.objs.size + 1], _, _, H1, rfl, I2, turn_zipL (zipApart_new l1 l2), ⟨e0, eI, ⟨_, _, eO⟩, j1, j2⟩, fun b hb => ?_, q⟩
  have le : s1.heap.objs.size ≤ b := by
    simp only [List.mem_cons, List.not_mem_nil, or_false] at hb
    rcases hb with e | e | e | e | e
    · rw [e]; exact Nat.le_add_right _ 4
    · rw [e]; exact Nat.le_add_right _ 2
    · rw [e]; exact Nat.le_add_right _ 3
    · rw [e]; exact Nat.le_refl _
    · rw [e]; exact Nat.le_add_right _ 1
  exact I1.fpOk le (I1.hok.fresh le)
end
theorem for_zipL {K : PySem.W.Frag} {a b : Addr} {xs ys : List V} {g : TG} {tb : TS} {D : Ends} {σ : St} {H : Hp} (Pv : Nat → St → Hp → Prop) (le : xs.length ≤ ys.length) (h0 : Pv 0 σ H) (hl : ∀ i σ H, i ≤ xs.length → Pv i σ H → SqL K H a xs ∧ SqL K H b ys)
    (hs : ∀ i x y σ H p, xs[i]? = some x → ys[i]? = some y → Pv i σ H → H p = none → g (.ref p) σ (upd H p (.tup [x, y])) fun σ2 H2 => tb { D with nx := Pv (i + 1), ct := Pv (i + 1), bk := D.nx } σ2 H2) (hd : ∀ σ H, Pv xs.length σ H → D.nx σ H) :
    ∃ W : Nat → Nat → St → Hp → Prop, (∃ m, W 0 m σ H) ∧ ∀ i m σ H, W i m σ H →
      ((ItzL K a b).stop i H ∧ D.nx σ H) ∨ ((ItzL K a b).go i H ∧ ∃ N : St → Hp → Prop, (∀ σ' H', N σ' H' → ∃ m', m' < m ∧ W (i + 1) m' σ' H') ∧ ∀ x H', (ItzL K a b).yld i H x H' → g x σ H' fun σ2 H2 => tb { D with nx := N, ct := N, bk := D.nx } σ2 H2) := by
  refine ⟨fun i m σ H => m = xs.length - i ∧ i ≤ xs.length ∧ Pv i σ H, ⟨xs.length, by simp, Nat.zero_le _, h0⟩, ?_⟩
  rintro i m σ H ⟨rfl, hi, p⟩
  obtain ⟨q1, q2⟩ := hl i σ H hi p
  by_cases hlt : i < xs.length
  · have hlt2 : i < ys.length := Nat.lt_of_lt_of_le hlt le
    refine .inr ⟨⟨xs, ys, xs[i], ys[i], q1, q2, by simp [hlt], by simp [hlt2]⟩, Pv (i + 1), fun σ' H' p' => ⟨xs.length - (i + 1), by omega, rfl, hlt, p'⟩, fun x H' y => ?_⟩
    obtain ⟨r, u, v, n, rfl, y1, y2, rfl⟩ := y
    exact hs i u v σ H r (y1 xs q1) (y2 ys q2) p n
  · have e : i = xs.length := by omega
    subst e
    exact .inl ⟨⟨xs, ys, q1, q2, Nat.le_refl _⟩, hd σ H p⟩
end L2
namespace L2
open PySem PySem.Spec PyProof.Rows
section
variable {X : Cx} {k : Nat} {C : Addr} {ps : List Str} {sp : Sp} {x : Str} {p cpos epos : Pos} {e : Expr} {es : List Expr} {t : TA}
theorem ptb_make (M : MkC X.prog X.w X.K X.mg X.base k x C ps sp) (hr : RoomB true (k + 1) X.A) (ha : PA X.nox (e :: es) t) (hg : Gl X x := by rfl) (hdb : (x == ("__debug__" : Str)) = false := by decide)
    (he : starEach (e :: es) X.env = (false, eval e X.env) :: starEach es X.env := by rfl) (hpl : (backTo cpos (starEach es X.env)).any (·.1) = false := by rfl) (hsw : swapsWith (.Call (.Name x p) (e :: es) [] cpos) none epos.line X.env = pure false := by rfl) :
    PTB X [.Expr (.Call (.Name x p) (e :: es) [] cpos) epos] (fun E k' σ H => t σ H fun vs H1 => ∀ y dx, H1 y = none → H1 dx = none → dx ≠ y → sp (.ref y :: vs) (upd (upd H1 dx (.own y)) y (.ins C dx [])) (fun v H2 => v = .non ∧ k' H2) E) := by
  obtain ⟨f, fd, F, M0, hb⟩ := M.ex
  intro pins s σ H E k' I h
  refine wpAny_execs_cons (wpAny_Expr_any (wpAny_Call_Name_kw (ld_glob I hg M.mg ?_ hdb)) I.quiet hsw)
  refine PySem.W.callWith_K (h₀ := X.base) I.ok.mod.kin M0.kp (thn (PA.any ha cpos I h) fun us s1 ⟨vs, H1, I1, r, q⟩ => ⟨I1.kIn, ?_⟩) he hpl
  have hq := q (s1.heap.objs.size + 1) s1.heap.objs.size (I1.hok.fresh (Nat.le_succ _)) (I1.hok.fresh (Nat.le_refl _)) (Nat.ne_of_lt (Nat.lt_succ_self _))
  have I2 := Inv.made (C := C) I1
  have r2 : Vals (V.ref (s1.heap.objs.size + 1) :: vs) (Value.ref (s1.heap.objs.size + 1) :: us) := .cons rfl r
  have hl : (Value.ref (s1.heap.objs.size + 1) :: us ++ []).length = ps.length := by
    have e := r2.length
    rw [F.len _ _ _ _ hq] at e
    rw [List.append_nil]
    exact e.symm
  have hbd := hb _ (Value.ref (s1.heap.objs.size + 1) :: us) I2.kIn hl
  rw [List.append_nil] at hbd
  refine wpAny_call (make_map (f := f) I1.kIn M0.makes M0.init (beq_iff_eq.mp M0.fn) (codeAny_mono (F.run _ X.stack _ _ ⟨Value.ref (s1.heap.objs.size + 1) :: us, []⟩ (Value.ref (s1.heap.objs.size + 1) :: us) _ _ E (hr.room.make C us []).b
    (I2.env0.make C us []) hbd r2 hq) fun r s' hq' => ?_))
  cases r with
  | error e => exact ⟨_, _, I2, hq'⟩
  | ok fl =>
    cases fl with
    | ret u =>
      obtain ⟨v, H', I3, rv, ev, q3⟩ := I2.after hq'
      subst ev
      exact ⟨rv, wpAny_execs_nil ⟨rfl, H', I3, q3⟩⟩
    | next => exact False.elim hq'
    | brk => exact False.elim hq'
    | cont => exact False.elim hq'
end
end L2
namespace Lib
open PySem L2 Fr Op
def glassOf (st : List (Str × Rat)) (c : Str) : List Pc := (st.filter fun k => decide (k.1 = c)).map fun k => .glass k.2
def stepB (st : List (Str × Rat)) (p : Str × Rat) : List Pc := glassOf st p.1 ++ [.gap p.2]
def dueB (st : List (Str × Rat)) (g0 : Rat) (gs : List Rat) (cs : List Str) : List Pc := .gap g0 :: ((cs.zip gs).map (stepB st)).flatten
theorem noL_pc' (p : Pc) : noL (pcD p) = true := by cases p <;> rfl
structure Bx (K : PySem.W.Frag) (H1 : Hp) (p : Addr) (ps : List Pc) (Hx : Hp) : Prop where
  s : Same H1 Hx
  n : H1 p = none
  ex : ∃ xs, Hx p = some (.lst xs) ∧ DVs K Hx xs (ps.map pcD)
theorem Bx.keep {K : PySem.W.Frag} {H1 Hx Hy : Hp} {p : Addr} {ps : List Pc} (b : Bx K H1 p ps Hx) (s : Same Hx Hy) : Bx K H1 p ps Hy := by
  obtain ⟨xs, h1, h2⟩ := b.ex
  exact ⟨b.s.trans s, b.n, xs, s _ _ h1, h2.keep s⟩
theorem same_but {H1 Hx : Hp} {p : Addr} (s : Same H1 Hx) (n : H1 p = none) (o : HO) : Same H1 (upd Hx p o) := fun b u e => by
  rw [upd_ne (ne_of_none e n)]
  exact s _ _ e
theorem Bx.more {K : PySem.W.Frag} {H1 Hx : Hp} {p : Addr} {ps qs : List Pc} {xs zs : List V} (s : Same H1 Hx) (n : H1 p = none) (h1 : Hx p = some (.lst xs)) (h2 : DVs K Hx xs (ps.map pcD)) (h3 : DVs K Hx zs (qs.map pcD)) : Bx K H1 p (ps ++ qs) (upd Hx p (.lst (xs ++ zs))) := by
  refine ⟨same_but s n _, n, xs ++ zs, upd_same, ?_⟩
  rw [List.map_append]
  exact dvs_keepT (sameT_upd h1 _) (by rw [← List.map_append]; exact noLs_map noL_pc' _) (h2.append h3)
theorem glass_take {st : List (Str × Rat)} {c : Str} {i : Nat} {k : Str × Rat} (h : st[i]? = some k) : glassOf (st.take (i + 1)) c = glassOf (st.take i) c ++ (if decide (k.1 = c) = true then [.glass k.2] else []) := by
  unfold glassOf
  rw [List.take_add_one, h, List.filter_append, List.map_append]
  by_cases e : k.1 = c
  · rw [if_pos (decide_eq_true e)]
    simp [e]
  · rw [if_neg (by rw [decide_eq_true_eq]; exact e)]
    simp [e]
def spPieces (K : PySem.W.Frag) (C : Addr) : Sp := fun vs H Q _ => ∃ (x : V) (st : List (Str × Rat)) (c : Str), vs = [x, .str c] ∧ ShopAt K C H x st ∧ st.length ≤ 4 ∧ ∀ p xs H', Same H H' → H p = none → H' p = some (.lst xs) → DVs K H' xs ((glassOf st c).map pcD) → Q (.ref p) H'
def spShKinds (K : PySem.W.Frag) (C : Addr) : Sp := fun vs H Q _ => ∃ (x : V) (st : List (Str × Rat)), vs = [x] ∧ ShopAt K C H x st ∧ ∀ p ks H', Same H H' → H p = none → H' p = some (.lst ks) → DVs K H' ks (st.map kindD) → Q (.ref p) H'
def spBenchF (K : PySem.W.Frag) (C N : Addr) : Sp := fun vs H Q E => ∃ (x y z : V) (st : List (Str × Rat)) (d : PyData), vs = [x, y, z] ∧ ShopAt K C H x st ∧ st.length ≤ 4 ∧ DV K H y d ∧
  ((gapsB d = false ∧ RaisedAt H N none E) ∨ (∃ (g0 : Rat) (gs : List Rat) (cs : List Str) (l : Addr), d = .list ((g0 :: gs).map frD) ∧ z = .ref l ∧ SqL K H l (cs.map V.str) ∧ cs.length = gs.length ∧ gs.length ≤ 4 ∧
    ∀ p xs H', Same H H' → H p = none → H' p = some (.lst xs) → DVs K H' xs ((dueB st g0 gs cs).map pcD) → Q (.ref p) H'))
theorem glass_le (st : List (Str × Rat)) (c : Str) : (glassOf st c).length ≤ st.length := by
  unfold glassOf
  rw [List.length_map]
  exact List.length_filter_le _ _
theorem due_succ (st : List (Str × Rat)) (g0 : Rat) {gs : List Rat} {cs : List Str} {i : Nat} {c : Str} {g : Rat} (hc : cs[i]? = some c) (hg : gs[i]? = some g) :
    dueB st g0 (gs.take (i + 1)) (cs.take (i + 1)) = dueB st g0 (gs.take i) (cs.take i) ++ stepB st (c, g) := by
  unfold dueB
  have h1 := lt_of_get hc
  have h2 := lt_of_get hg
  rw [List.take_add_one, List.take_add_one, hc, hg]
  show Pc.gap g0 :: (((cs.take i ++ [c]).zip (gs.take i ++ [g])).map (stepB st)).flatten = _
  rw [List.zip_append (by rw [List.length_take, List.length_take]; omega), List.map_append, List.flatten_append]
  show _ = Pc.gap g0 :: (_ ++ _)
  congr 2
  show [stepB st (c, g)].flatten = _
  rw [List.flatten_cons, List.flatten_nil, List.append_nil]
theorem due_len (st : List (Str × Rat)) (g0 : Rat) (gs : List Rat) (cs : List Str) : (dueB st g0 gs cs).length ≤ 1 + cs.length * (st.length + 1) := by
  unfold dueB
  rw [List.length_cons]
  have : ∀ l : List (Str × Rat), ((l.map (stepB st)).flatten).length ≤ l.length * (st.length + 1) := by
    intro l
    induction l with
    | nil => simp
    | cons p l ih =>
      rw [List.map_cons, List.flatten_cons, List.length_append, List.length_cons, Nat.succ_mul]
      have h1 : (stepB st p).length ≤ st.length + 1 := by
        unfold stepB
        rw [List.length_append, List.length_singleton]
        have := glass_le st p.1
        omega
      omega
  have h1 := this (cs.zip gs)
  have h2 : (cs.zip gs).length ≤ cs.length := by rw [List.length_zip]; exact Nat.min_le_left _ _
  have h3 : (cs.zip gs).length * (st.length + 1) ≤ cs.length * (st.length + 1) := Nat.mul_le_mul_right _ h2
  omega
theorem glass_one {z : Int} {st : List (Str × Rat)} (h : LStock z st) (h4 : st.length ≤ 4) {k : Str × Rat} (hk : k ∈ st) : glassOf st k.1 = [.glass k.2] := by
  obtain ⟨i, hi⟩ := List.getElem?_of_mem hk
  have hl := lt_of_get hi
  have all : ∀ n, n ≤ st.length → glassOf (st.take n) k.1 = if i < n then [.glass k.2] else [] := by
    intro n
    induction n with
    | zero => intro _; rfl
    | succ n ih =>
      intro hn
      have e := List.getElem?_eq_getElem (show n < st.length from hn)
      rw [glass_take e, ih (Nat.le_of_lt hn)]
      have nm := h.nm n _ e
      have nk := h.nm i k hi
      by_cases en : n = i
      · subst en
        rw [hi] at e
        cases e
        rw [if_neg (Nat.lt_irrefl _), if_pos (decide_eq_true rfl), if_pos (Nat.lt_succ_self _)]
        rfl
      · have ne : ¬ (st[n]'hn).1 = k.1 := fun q => by
          rw [nm, nk] at q
          have := nameS_inj (z := z) (k := (n : Int)) (l := (i : Int)) ⟨by omega, by omega⟩ ⟨by omega, by omega⟩ q
          omega
        have e5 : (if decide ((st[n]'hn).1 = k.1) = true then [Pc.glass (st[n]'hn).2] else []) = [] := if_neg (by rw [decide_eq_true_eq]; exact ne)
        rw [e5, List.append_nil]
        by_cases lt : i < n
        · rw [if_pos lt, if_pos (by omega)]
        · rw [if_neg lt, if_neg (by omega)]
  have := all st.length (Nat.le_refl _)
  rw [List.take_length, if_pos hl] at this
  exact this
theorem glass_none {z : Int} {st : List (Str × Rat)} (h : LStock z st) : glassOf st (PySem.Str.ofString "") = [] := by
  unfold glassOf
  rw [List.map_eq_nil_iff, List.filter_eq_nil_iff]
  intro k hk
  rw [decide_eq_true_eq]
  intro e
  obtain ⟨i, hi⟩ := List.getElem?_of_mem hk
  have h1 := nameS_len z (i : Int)
  rw [← h.nm i k hi, e] at h1
  have h2 : (PySem.Str.ofString "" : Str).length = 0 := by decide +kernel
  have := sizeN_b z
  omega
end Lib
namespace Lib
open PySem L2 Fr Op
def spShopX (K : PySem.W.Frag) (C : Addr) : Sp := fun vs H _ E => ∃ (a : V) (y : V) (d : PyData), vs = [a, y] ∧ DV K H y d ∧ SOk d ∧ stockB d = false ∧ ∀ H', Same H H' → E (.ref C) none H'
def spWhich63 (K : PySem.W.Frag) (C : Addr) : Sp := fun vs H Q _ => ∃ (n : Int) (v x : V) (st : List (Str × Rat)) (d : PyData), vs = [.int n, v, x] ∧ ShopAt K C H x st ∧ st.length ≤ 4 ∧ DV K H v d ∧
  ((n = 0 ∧ SOk d ∧ stockB d = false) ∨ (n = 1 ∧ gapsB d = false)) ∧ ∀ H', Same H H' → Q (.bl true) H'
def spBadS (K : PySem.W.Frag) : Sp := fun vs H Q _ => ∃ (l : Addr) (ks : List V) (st : List (Str × Rat)) (z c : Int), vs = [.ref l, .int c] ∧ H l = some (.lst ks) ∧ DVs K H ks (st.map kindD) ∧ LStock z st ∧ 1 ≤ st.length ∧ st.length ≤ 4 ∧
  ∀ v d H', Same H H' → DV K H' v d → SOk d → stockB d = false → Q v H'
end Lib
namespace Lib
open PySem L2 Fr Op
theorem nameB_long {z : Str} (h : 8 < z.length) : nameB z = false := by
  unfold nameB
  rw [decide_eq_false (show ¬ z.length ≤ 8 by omega), Bool.and_false, Bool.false_and]
theorem nameB_blank (z : Str) : nameB (z ++ PySem.Str.ofString " ") = false := by
  unfold nameB
  have e : (PyProof.Rows.signs (z ++ PySem.Str.ofString " ")).all inLet = false := by
    have e1 : PyProof.Rows.signs (z ++ PySem.Str.ofString " ") = PyProof.Rows.signs z ++ PyProof.Rows.signs (PySem.Str.ofString " ") := by
      show ((z.cps ++ (PySem.Str.ofString " " : Str).cps).toList.map fun n => (⟨#[n]⟩ : Str)) = _
      rw [Array.toList_append, List.map_append]
      rfl
    rw [e1, List.all_append, show (PyProof.Rows.signs (PySem.Str.ofString " ")).all inLet = false by decide +kernel, Bool.and_false]
  rw [e, Bool.and_false]
theorem kok2 {a b : PyData} (h : StrOk a) : KOk (.tuple [a, b]) := fun a' b' e => by cases e; exact h
theorem kokN {d : PyData} (h : isTupD d = false) : KOk d := fun a b e => by subst e; cases h
theorem kokL {ds : List PyData} (h : ds.length ≠ 2) : KOk (.tuple ds) := fun a b e => by cases e; exact absurd rfl h
theorem sok_all {ds : List PyData} (h : ∀ x ∈ ds, KOk x) : SOk (.list ds) := fun ds' e => by cases e; exact h
theorem stock_bad {ds : List PyData} {d : PyData} (hm : d ∈ ds) (h : kindB d = false) : stockB (.list ds) = false := by
  show (_ && (ds.all kindB && _)) = false
  have : ds.all kindB = false := by
    rw [List.all_eq_false]
    exact ⟨d, hm, by rw [h]; exact Bool.false_ne_true⟩
  rw [this, Bool.false_and, Bool.and_false]
theorem stock_len {ds : List PyData} (h : ds.length < 1 ∨ 4 < ds.length) : stockB (.list ds) = false := by
  show ((decide (1 ≤ ds.length) && decide (ds.length ≤ 4)) && _) = false
  have : (decide (1 ≤ ds.length) && decide (ds.length ≤ 4)) = false := by
    rcases h with h | h
    · rw [decide_eq_false (show ¬ 1 ≤ ds.length by omega), Bool.false_and]
    · rw [decide_eq_false (show ¬ ds.length ≤ 4 by omega), Bool.and_false]
  rw [this, Bool.false_and]
theorem mem_metS (val : Nat → Str) : ∀ i j, j < i → val j ∈ metS val i
  | 0, j, h => absurd h (Nat.not_lt_zero _)
  | i + 1, j, h => by
    show val j ∈ stp (metS val i) (val i)
    have sub : ∀ z, z ∈ metS val i → z ∈ stp (metS val i) (val i) := fun z hz => by
      unfold stp
      split
      · exact hz
      · exact List.mem_append_left _ hz
    rcases Nat.lt_succ_iff_lt_or_eq.mp h with lt | rfl
    · exact sub _ (mem_metS val i j lt)
    · unfold stp
      split
      · assumption
      · exact List.mem_append_right _ (List.mem_singleton.mpr rfl)
theorem stock_twice {st : List (Str × Rat)} {k : Str × Rat} {nm : Str} {q : Rat} (hk : k ∈ st) (e : k.1 = nm) (h4 : st.length ≤ 4) : stockB (.list ((st ++ [(nm, q)]).map kindD)) = false := by
  obtain ⟨j, hj⟩ := List.getElem?_of_mem hk
  have jl := lt_of_get hj
  have en : ((st ++ [(nm, q)]).map kindD).map kname = st.map (·.1) ++ [nm] := by
    rw [List.map_map, List.map_append]
    congr 1
  have el : ((st ++ [(nm, q)]).map kindD).length = st.length + 1 := by rw [List.length_map, List.length_append]; rfl
  have v1 : (st.map (·.1) ++ [nm]).getD st.length "" = nm := by
    rw [List.getD_eq_getElem?_getD, List.getElem?_append_right (by rw [List.length_map]; exact Nat.le_refl _), List.length_map, Nat.sub_self]
    rfl
  have v2 : (st.map (·.1) ++ [nm]).getD j "" = nm := by
    rw [List.getD_eq_getElem?_getD, List.getElem?_append_left (by rw [List.length_map]; exact jl), List.getElem?_map, hj]
    exact e
  have lt : (metS (fun i => (st.map (·.1) ++ [nm]).getD i "") (st.length + 1)).length ≤ st.length := by
    show (stp _ ((st.map (·.1) ++ [nm]).getD st.length "")).length ≤ _
    unfold stp
    rw [if_pos]
    · exact metS_le _ _
    · rw [v1]
      have := mem_metS (fun i => (st.map (·.1) ++ [nm]).getD i "") st.length j jl
      rw [v2] at this
      exact this
  show (_ && (_ && decide ((metS (fun i => (((st ++ [(nm, q)]).map kindD).map kname).getD i "") ((st ++ [(nm, q)]).map kindD).length).length = ((st ++ [(nm, q)]).map kindD).length))) = false
  rw [en, el, decide_eq_false (show ¬ (metS (fun i => (st.map (·.1) ++ [nm]).getD i "") (st.length + 1)).length = st.length + 1 by omega), Bool.and_false, Bool.and_false]
theorem dvs_repF {K : PySem.W.Frag} {H : Hp} {ks : List V} {ds : List PyData} (h : DVs K H ks ds) : ∀ n, DVs K H (List.replicate n ks).flatten (List.replicate n ds).flatten
  | 0 => .nil
  | n + 1 => by
    rw [List.replicate_succ, List.replicate_succ, List.flatten_cons, List.flatten_cons]
    exact h.append (dvs_repF h n)
theorem dvs_rep5 {K : PySem.W.Frag} {H : Hp} {ks : List V} {ds : List PyData} (h : DVs K H ks ds) : DVs K H (List.replicate (Int.toNat 5) ks).flatten (List.replicate 5 ds).flatten := dvs_repF h 5
end Lib
namespace Lib
open PySem L2 Fr Op
structure Two (K : PySem.W.Frag) (HB : Hp) (cl du : Addr) (cs : List Str) (ps : List Pc) (Hx : Hp) : Prop where
  s : Same HB Hx
  nc : HB cl = none
  nd : HB du = none
  ne : cl ≠ du
  c : Hx cl = some (.lst (cs.map V.str))
  d : ∃ ys, Hx du = some (.lst ys) ∧ DVs K Hx ys (ps.map pcD)
theorem Two.keep {K : PySem.W.Frag} {HB Hx Hy : Hp} {cl du : Addr} {cs : List Str} {ps : List Pc} (b : Two K HB cl du cs ps Hx) (s : Same Hx Hy) : Two K HB cl du cs ps Hy := by
  obtain ⟨ys, h1, h2⟩ := b.d
  exact ⟨b.s.trans s, b.nc, b.nd, b.ne, s _ _ b.c, ys, s _ _ h1, h2.keep s⟩
theorem Two.setC {K : PySem.W.Frag} {HB Hx : Hp} {cl du : Addr} {cs cs' : List Str} {ps : List Pc} {xs : List V} (b : Two K HB cl du cs ps Hx) (e : xs = cs'.map V.str) : Two K HB cl du cs' ps (upd Hx cl (.lst xs)) := by
  subst e
  obtain ⟨ys, h1, h2⟩ := b.d
  exact ⟨same_but b.s b.nc _, b.nc, b.nd, b.ne, upd_same, ys, by rw [upd_ne (Ne.symm b.ne)]; exact h1, dvs_keepT (sameT_upd b.c _) (noLs_map noL_pc' _) h2⟩
theorem Two.addD {K : PySem.W.Frag} {HB Hx : Hp} {cl du : Addr} {cs : List Str} {ps : List Pc} {ys : List V} {v : V} {p : Pc} (b : Two K HB cl du cs ps Hx) (h1 : Hx du = some (.lst ys)) (h2 : DVs K Hx ys (ps.map pcD)) (hv : DV K Hx v (pcD p)) : Two K HB cl du cs (ps ++ [p]) (upd Hx du (.lst (ys ++ [v]))) := by
  refine ⟨same_but b.s b.nd _, b.nc, b.nd, b.ne, by rw [upd_ne b.ne]; exact b.c, ys ++ [v], upd_same, ?_⟩
  rw [List.map_append]
  exact dvs_keepT (sameT_upd h1 _) (by rw [← List.map_append]; exact noLs_map noL_pc' _) (h2.append (.cons hv .nil))
def spStep63 : Sp := fun vs H Q _ => ∃ z : Int, vs = [.int z] ∧ ∀ H', Same H H' → Q (.bl true) H'
theorem flat_kind (k : Str × Rat) (h : PyData.strOk k.1 = true) : Flat 2 (kindD k) := flat_tup fun x hx => by
  simp only [List.mem_cons, List.not_mem_nil, or_false] at hx
  rcases hx with rfl | rfl
  · exact ⟨by show PyData.strOk k.1 = true; exact h, by show 0 ≤ 1; decide⟩
  · exact flat_fr _
theorem nameS_ok (z k : Int) : PyData.strOk (nameS z k) = true := by
  unfold PyData.strOk nameS
  rw [← Array.all_toList, List.all_eq_true]
  intro c hc
  have hc : c ∈ nameCs z k (sizeN z).toNat := by simpa using hc
  unfold nameCs at hc
  obtain ⟨j, _, rfl⟩ := List.mem_map.mp hc
  have := letN_b z k j
  exact decide_eq_true (by omega)
theorem flat_stock {z : Int} {st : List (Str × Rat)} (h : LStock z st) : Flat 3 (.list (st.map kindD)) := flat_lst fun d hd => by
  obtain ⟨k, hk, rfl⟩ := List.mem_map.mp hd
  obtain ⟨i, hi⟩ := List.getElem?_of_mem hk
  refine flat_kind k ?_
  rw [h.nm i k hi]
  exact nameS_ok _ _
end Lib
namespace K63
open PySem L2 Lib Fr Op
seal PE PT PW PA PS PSs PG PGs PI PO
def top (i : Nat) : Stmt := PySem.Challenge.pw_grindbench_k63_stocks.main.body.getD i (.Pass ⟨0, 0, 0, 0⟩)
abbrev s_is_whole : Stmt := top 8
theorem sc_is_whole : FnScope ["thing"] ["thing"] (defScope s_is_whole) := ⟨rfl, rfl, rfl, by decide +kernel, rfl, by decide +kernel, by decide +kernel⟩
abbrev s_common_divisor : Stmt := top 9
theorem sc_common_divisor : FnScope ["one", "other", "greater", "lesser", "rest"] ["one", "other"] (defScope s_common_divisor) := ⟨rfl, rfl, rfl, by decide +kernel, rfl, by decide +kernel, by decide +kernel⟩
abbrev s_is_ratio : Stmt := top 10
theorem sc_is_ratio : FnScope ["thing", "top", "bottom"] ["thing"] (defScope s_is_ratio) := ⟨rfl, rfl, rfl, by decide +kernel, rfl, by decide +kernel, by decide +kernel⟩
abbrev s_is_name : Stmt := top 17
theorem sc_is_name : FnScope ["thing"] ["thing"] (defScope s_is_name) := ⟨rfl, rfl, rfl, by decide +kernel, rfl, by decide +kernel, by decide +kernel⟩
abbrev s_is_kind : Stmt := top 21
theorem sc_is_kind : FnScope ["thing"] ["thing"] (defScope s_is_kind) := ⟨rfl, rfl, rfl, by decide +kernel, rfl, by decide +kernel, by decide +kernel⟩
abbrev s_is_stock : Stmt := top 22
theorem sc_is_stock : FnScope ["thing"] ["thing"] (defScope s_is_stock) := ⟨rfl, rfl, rfl, by decide +kernel, rfl, by decide +kernel, by decide +kernel⟩
abbrev s_look_at_gaps : Stmt := top 23
theorem sc_look_at_gaps : FnScope ["gaps"] ["gaps"] (defScope s_look_at_gaps) := ⟨rfl, rfl, rfl, by decide +kernel, rfl, by decide +kernel, by decide +kernel⟩
abbrev s__law_mix : Stmt := top 27
theorem sc__law_mix : FnScope ["_law_cell", "_law_by", "_law_number"] ["_law_cell", "_law_by"] (defScope s__law_mix) := ⟨rfl, rfl, rfl, by decide +kernel, rfl, by decide +kernel, by decide +kernel⟩
abbrev s__law_lowest : Stmt := top 28
theorem sc__law_lowest : FnScope ["_law_top", "_law_bottom", "_law_one", "_law_other"] ["_law_top", "_law_bottom"] (defScope s__law_lowest) := ⟨rfl, rfl, rfl, by decide +kernel, rfl, by decide +kernel, by decide +kernel⟩
abbrev s__law_ratio : Stmt := top 29
theorem sc__law_ratio : FnScope ["_law_cell", "_law_by", "_law_number", "_law_most", "_law_top"] ["_law_cell", "_law_by"] (defScope s__law_ratio) := ⟨rfl, rfl, rfl, by decide +kernel, rfl, by decide +kernel, by decide +kernel⟩
abbrev s__law_name : Stmt := top 33
theorem sc__law_name : FnScope ["_law_cell", "_law_k", "_law_letters", "_law_size", "_law_at"] ["_law_cell", "_law_k"] (defScope s__law_name) := ⟨rfl, rfl, rfl, by decide +kernel, rfl, by decide +kernel, by decide +kernel⟩
abbrev s__law_stock : Stmt := top 34
theorem sc__law_stock : FnScope ["_law_cell", "_law_stock_here", "_law_k", "_law_strength"] ["_law_cell"] (defScope s__law_stock) := ⟨rfl, rfl, rfl, by decide +kernel, rfl, by decide +kernel, by decide +kernel⟩
abbrev s__law_bad : Stmt := top 35
theorem sc__law_bad : FnScope ["_law_stock_here", "_law_cell", "_law_at", "_law_name_here", "_law_strength", "_law_some", "_law_way"] ["_law_stock_here", "_law_cell"] (defScope s__law_bad) := ⟨rfl, rfl, rfl, by decide +kernel, rfl, by decide +kernel, by decide +kernel⟩
abbrev s__law_which : Stmt := top 36
theorem sc__law_which : FnScope ["_law_way", "_law_thing", "_law_shop", "_law_found", "e"] ["_law_way", "_law_thing", "_law_shop"] (defScope s__law_which) := ⟨rfl, rfl, rfl, by decide +kernel, rfl, by decide +kernel, by decide +kernel⟩
abbrev s__law_step : Stmt := top 37
theorem sc__law_step : FnScope ["_law_cell", "_law_stock_here", "_law_handed", "_law_shop", "_law_gaps", "_law_choice", "_law_due", "_law_k", "_law_kind", "_law_told", "_law_odd"] ["_law_cell"] (defScope s__law_step) := ⟨rfl, rfl, rfl, by decide +kernel, rfl, by decide +kernel, by decide +kernel⟩
abbrev s_law : Stmt := top 38
theorem sc_law : FnScope ["_law_script", "_law_cell"] ["_law_script"] (defScope s_law) := ⟨rfl, rfl, rfl, by decide +kernel, rfl, by decide +kernel, by decide +kernel⟩
abbrev s_NoBench_init : Stmt := inClass (top 6) 0
theorem sc_NoBench_init : FnScope ["self", "at"] ["self", "at"] (defScope s_NoBench_init) := ⟨rfl, rfl, rfl, by decide +kernel, rfl, by decide +kernel, by decide +kernel⟩
abbrev s_Shop_init : Stmt := inClass (top 24) 0
theorem sc_Shop_init : FnScope ["self", "stock"] ["self", "stock"] (defScope s_Shop_init) := ⟨rfl, rfl, rfl, by decide +kernel, rfl, by decide +kernel, by decide +kernel⟩
abbrev s_Shop_kinds : Stmt := inClass (top 24) 1
theorem sc_Shop_kinds : FnScope ["self"] ["self"] (defScope s_Shop_kinds) := ⟨rfl, rfl, rfl, by decide +kernel, rfl, by decide +kernel, by decide +kernel⟩
abbrev s_Shop_pieces_for : Stmt := inClass (top 24) 2
theorem sc_Shop_pieces_for : FnScope ["self", "name"] ["self", "name"] (defScope s_Shop_pieces_for) := ⟨rfl, rfl, rfl, by decide +kernel, rfl, by decide +kernel, by decide +kernel⟩
abbrev s_Shop_bench_for : Stmt := inClass (top 24) 3
theorem sc_Shop_bench_for : FnScope ["self", "gaps", "choice", "bench", "name", "gap"] ["self", "gaps", "choice"] (defScope s_Shop_bench_for) := ⟨rfl, rfl, rfl, by decide +kernel, rfl, by decide +kernel, by decide +kernel⟩
structure Adr where
  z0 : Nat := 0
  BenchError : Addr
  NoNumber : Addr
  NoStock : Addr
  NoWish : Addr
  NoBench : Addr
  Shop : Addr
  NOUGHT : Addr
  tGAP : Tok
  tGLASS : Tok
  tLETTERS : Tok
  tMOST_LETTERS : Tok
  tMOST_KINDS : Tok
  tMOST_GAPS : Tok
structure Exc (K : PySem.W.Frag) (mg : Str → Option Value) (ad : Adr) : Prop where
  tt : True := trivial
  m_BenchError : mg "BenchError" = some (.ref ad.BenchError)
  m_NoNumber : mg "NoNumber" = some (.ref ad.NoNumber)
  m_NoStock : mg "NoStock" = some (.ref ad.NoStock)
  m_NoWish : mg "NoWish" = some (.ref ad.NoWish)
  m_NoBench : mg "NoBench" = some (.ref ad.NoBench)
  m_Shop : mg "Shop" = some (.ref ad.Shop)
  m_GAP : mg "GAP" = some (.str "gap" ad.tGAP)
  m_GLASS : mg "GLASS" = some (.str "glass" ad.tGLASS)
  m_LETTERS : mg "LETTERS" = some (.str "abcdefghijklmnopqrstuvwxyz" ad.tLETTERS)
  m_MOST_LETTERS : mg "MOST_LETTERS" = some (.int 8 ad.tMOST_LETTERS)
  m_MOST_KINDS : mg "MOST_KINDS" = some (.int 4 ad.tMOST_KINDS)
  m_MOST_GAPS : mg "MOST_GAPS" = some (.int 5 ad.tMOST_GAPS)
  c_NoStock : ExcCls K mg "NoStock" ad.NoStock
  x_NoStock_BenchError : PySem.W.exmOne K (.ref ad.NoStock) (.ref ad.BenchError) = some true
  x_NoBench_BenchError : PySem.W.exmOne K (.ref ad.NoBench) (.ref ad.BenchError) = some true
  k_NoStock_NoNumber : PySem.W.kitOne K (.ref ad.NoStock) (.ref ad.NoNumber) = some false
  k_NoStock_NoStock : PySem.W.kitOne K (.ref ad.NoStock) (.ref ad.NoStock) = some true
  k_NoStock_NoBench : PySem.W.kitOne K (.ref ad.NoStock) (.ref ad.NoBench) = some false
  k_NoStock_NoWish : PySem.W.kitOne K (.ref ad.NoStock) (.ref ad.NoWish) = some false
  k_NoStock_ValueError : PySem.W.kitOne K (.ref ad.NoStock) (.type "ValueError") = some true
  k_NoBench_NoNumber : PySem.W.kitOne K (.ref ad.NoBench) (.ref ad.NoNumber) = some false
  k_NoBench_NoStock : PySem.W.kitOne K (.ref ad.NoBench) (.ref ad.NoStock) = some false
  k_NoBench_NoBench : PySem.W.kitOne K (.ref ad.NoBench) (.ref ad.NoBench) = some true
  k_NoBench_NoWish : PySem.W.kitOne K (.ref ad.NoBench) (.ref ad.NoWish) = some false
  k_NoBench_ValueError : PySem.W.kitOne K (.ref ad.NoBench) (.type "ValueError") = some true
  e_NoStock : ExcK K ad.NoStock
  e_NoBench : ExcK K ad.NoBench
  l_Shop : Cls K ad.Shop
  i_Shop : MkFn K mg "Shop" ad.Shop "Shop.__init__" s_Shop_init
  q_Shop_kinds : MtFn K ad.Shop "kinds" "Shop.kinds" s_Shop_kinds
  q_Shop_pieces_for : MtFn K ad.Shop "pieces_for" "Shop.pieces_for" s_Shop_pieces_for
  q_Shop_bench_for : MtFn K ad.Shop "bench_for" "Shop.bench_for" s_Shop_bench_for
  n_Shop_stock : NoAttr K ad.Shop "stock"
  j_NoBench : XFn K mg "NoBench" ad.NoBench ad.BenchError "NoBench.__init__" s_NoBench_init
  m_NOUGHT : mg "NOUGHT" = some (.ref ad.NOUGHT)
  s_NOUGHT : ∀ H : Hp, SqT K H ad.NOUGHT [.int 0, .int 1]
structure Txt (K : PySem.W.Frag) (mg : Str → Option Value) (ad : Adr) : Prop where
  ex : Exc K mg ad
  ValueError : mg "ValueError" = none
  abs : mg "abs" = none
  all : mg "all" = none
  bool : mg "bool" = none
  int : mg "int" = none
  isinstance : mg "isinstance" = none
  len : mg "len" = none
  list : mg "list" = none
  range : mg "range" = none
  set : mg "set" = none
  str : mg "str" = none
  tuple : mg "tuple" = none
  zip : mg "zip" = none
  t_is_whole : TopFn K mg "is_whole" s_is_whole
  t_common_divisor : TopFn K mg "common_divisor" s_common_divisor
  t_is_ratio : TopFn K mg "is_ratio" s_is_ratio
  t_is_name : TopFn K mg "is_name" s_is_name
  t_is_kind : TopFn K mg "is_kind" s_is_kind
  t_is_stock : TopFn K mg "is_stock" s_is_stock
  t_look_at_gaps : TopFn K mg "look_at_gaps" s_look_at_gaps
  t__law_mix : TopFn K mg "_law_mix" s__law_mix
  t__law_lowest : TopFn K mg "_law_lowest" s__law_lowest
  t__law_ratio : TopFn K mg "_law_ratio" s__law_ratio
  t__law_name : TopFn K mg "_law_name" s__law_name
  t__law_stock : TopFn K mg "_law_stock" s__law_stock
  t__law_bad : TopFn K mg "_law_bad" s__law_bad
  t__law_which : TopFn K mg "_law_which" s__law_which
  t__law_step : TopFn K mg "_law_step" s__law_step
theorem exc_mk {K : PySem.W.Frag} {h : Heap} {mg : Str → Option Value} {CBenchError CNoNumber CNoStock CNoWish CNoBench CShop CNOUGHT : Addr} {cdNoStock : ClassData} {cdNoBench : ClassData} {tGAP : Tok} {tGLASS : Tok} {tLETTERS : Tok} {tMOST_LETTERS : Tok} {tMOST_KINDS : Tok} {tMOST_GAPS : Tok} {f_Shop_init : Addr} {oc_Shop_init : Value} {od_Shop_init an_Shop_init : Option Addr} {sl_Shop_init : Array (Option Value)} {kV_Shop_init dc_Shop_init pm_Shop_init cd_Shop_init ct_Shop_init : Value} {f_Shop_kinds : Addr} {oc_Shop_kinds : Value} {od_Shop_kinds an_Shop_kinds : Option Addr} {sl_Shop_kinds : Array (Option Value)} {kV_Shop_kinds dc_Shop_kinds pm_Shop_kinds cd_Shop_kinds ct_Shop_kinds : Value} {f_Shop_pieces_for : Addr} {oc_Shop_pieces_for : Value} {od_Shop_pieces_for an_Shop_pieces_for : Option Addr} {sl_Shop_pieces_for : Array (Option Value)} {kV_Shop_pieces_for dc_Shop_pieces_for pm_Shop_pieces_for cd_Shop_pieces_for ct_Shop_pieces_for : Value} {f_Shop_bench_for : Addr} {oc_Shop_bench_for : Value} {od_Shop_bench_for an_Shop_bench_for : Option Addr} {sl_Shop_bench_for : Array (Option Value)} {kV_Shop_bench_for dc_Shop_bench_for pm_Shop_bench_for cd_Shop_bench_for ct_Shop_bench_for : Value} {f_NoBench_init : Addr} {oc_NoBench_init : Value} {od_NoBench_init an_NoBench_init : Option Addr} {sl_NoBench_init : Array (Option Value)} {kV_NoBench_init dc_NoBench_init pm_NoBench_init cd_NoBench_init ct_NoBench_init : Value} {nm_NoBench_init qn_NoBench_init : Str} {N_NoBench_init : Addr} {bs_NoBench_init sub_NoBench_init : List Value} {sn_NoBench_init : List Str} {ab_NoBench_init : Bool} {col_NoBench_init : Option Bool} {dd_NoBench_init : Option Addr} {k0_NoBench_init k1_NoBench_init k2_NoBench_init k3_NoBench_init k5_NoBench_init : Option Value} {tk_NOUGHT_0 : Tok} {tk_NOUGHT_1 : Tok} {dd_NOUGHT : Option Addr} {nn_NOUGHT : Nat} {sl_NOUGHT : Array (Option Value)} (X : K.In h) (G : h.Ns mainGlobals mg) (m_BenchError : PySem.W.nsIn K mainGlobals "BenchError" = some (some (.ref CBenchError))) (m_NoNumber : PySem.W.nsIn K mainGlobals "NoNumber" = some (some (.ref CNoNumber))) (m_NoStock : PySem.W.nsIn K mainGlobals "NoStock" = some (some (.ref CNoStock))) (m_NoWish : PySem.W.nsIn K mainGlobals "NoWish" = some (some (.ref CNoWish))) (m_NoBench : PySem.W.nsIn K mainGlobals "NoBench" = some (some (.ref CNoBench))) (m_Shop : PySem.W.nsIn K mainGlobals "Shop" = some (some (.ref CShop))) (m_GAP : PySem.W.nsIn K mainGlobals "GAP" = some (some (.str "gap" tGAP))) (m_GLASS : PySem.W.nsIn K mainGlobals "GLASS" = some (some (.str "glass" tGLASS))) (m_LETTERS : PySem.W.nsIn K mainGlobals "LETTERS" = some (some (.str "abcdefghijklmnopqrstuvwxyz" tLETTERS))) (m_MOST_LETTERS : PySem.W.nsIn K mainGlobals "MOST_LETTERS" = some (some (.int 8 tMOST_LETTERS))) (m_MOST_KINDS : PySem.W.nsIn K mainGlobals "MOST_KINDS" = some (some (.int 4 tMOST_KINDS))) (m_MOST_GAPS : PySem.W.nsIn K mainGlobals "MOST_GAPS" = some (some (.int 5 tMOST_GAPS))) (o_NoStock : PySem.W.excIn K CNoStock [.type "ValueError", .type "Exception", .type "BaseException", .type "object"] "ValueError.__new__" = true) (x_NoStock_BenchError : PySem.W.exmOne K (.ref CNoStock) (.ref CBenchError) = some true) (x_NoBench_BenchError : PySem.W.exmOne K (.ref CNoBench) (.ref CBenchError) = some true) (k_NoStock_NoNumber : PySem.W.kitOne K (.ref CNoStock) (.ref CNoNumber) = some false) (k_NoStock_NoStock : PySem.W.kitOne K (.ref CNoStock) (.ref CNoStock) = some true) (k_NoStock_NoBench : PySem.W.kitOne K (.ref CNoStock) (.ref CNoBench) = some false) (k_NoStock_NoWish : PySem.W.kitOne K (.ref CNoStock) (.ref CNoWish) = some false) (k_NoStock_ValueError : PySem.W.kitOne K (.ref CNoStock) (.type "ValueError") = some true) (k_NoBench_NoNumber : PySem.W.kitOne K (.ref CNoBench) (.ref CNoNumber) = some false) (k_NoBench_NoStock : PySem.W.kitOne K (.ref CNoBench) (.ref CNoStock) = some false) (k_NoBench_NoBench : PySem.W.kitOne K (.ref CNoBench) (.ref CNoBench) = some true) (k_NoBench_NoWish : PySem.W.kitOne K (.ref CNoBench) (.ref CNoWish) = some false) (k_NoBench_ValueError : PySem.W.kitOne K (.ref CNoBench) (.type "ValueError") = some true) (ecl_NoStock : PySem.W.clsIn K CNoStock = some cdNoStock) (ega_NoStock : PySem.W.findIn K (.ref CNoStock) "__getattribute__" = some (some (.builtin "BaseException.__getattribute__"))) (egt_NoStock : PySem.W.findIn K (.ref CNoStock) "__getattr__" = some none) (eha_NoStock : PySem.W.findIn K (.ref CNoStock) "__class__" = some (some (.builtin "object.__class__"))) (ehn_NoStock : PySem.W.specialIn K (.builtin "object.__class__") "__get__" = some (some (.builtin "getset_descriptor.__get__"))) (eht_NoStock : PySem.W.takesIn K (.builtin "object.__class__") = some true) (ehm_NoStock : PySem.W.mroIn K CNoStock (.type "object") = some true) (ehb_NoStock : PySem.W.mroIn K CNoStock (.type "BaseException") = some true) (ecl_NoBench : PySem.W.clsIn K CNoBench = some cdNoBench) (ega_NoBench : PySem.W.findIn K (.ref CNoBench) "__getattribute__" = some (some (.builtin "BaseException.__getattribute__"))) (egt_NoBench : PySem.W.findIn K (.ref CNoBench) "__getattr__" = some none) (eha_NoBench : PySem.W.findIn K (.ref CNoBench) "__class__" = some (some (.builtin "object.__class__"))) (ehn_NoBench : PySem.W.specialIn K (.builtin "object.__class__") "__get__" = some (some (.builtin "getset_descriptor.__get__"))) (eht_NoBench : PySem.W.takesIn K (.builtin "object.__class__") = some true) (ehm_NoBench : PySem.W.mroIn K CNoBench (.type "object") = some true) (ehb_NoBench : PySem.W.mroIn K CNoBench (.type "BaseException") = some true) (pg_Shop : PySem.W.plainGet K CShop Str.empty = true) (hd_Shop : PySem.W.hasDictIn K CShop = true) (po_Shop : PySem.W.plainOver K CShop = true) (sa_Shop : PySem.W.findIn K (.ref CShop) "__setattr__" = some (some (.builtin "object.__setattr__"))) (mk_Shop_init : PySem.W.makesIn K CShop = true) (a_Shop_init : PySem.W.findIn K (.ref CShop) "__init__" = some (some (.ref f_Shop_init))) (fn_Shop_init : PySem.W.isFn K (.ref f_Shop_init) = true) (kc_Shop_init : PySem.W.keepIn K (.ref CShop) = true) (l_Shop_init : K.lookup f_Shop_init = some ⟨oc_Shop_init, od_Shop_init, .func (PySem.W.fnOf "__init__" "Shop.__init__" (defArgs s_Shop_init) (defBody s_Shop_init) (defScope s_Shop_init) .none kV_Shop_init dc_Shop_init pm_Shop_init an_Shop_init cd_Shop_init ct_Shop_init), sl_Shop_init⟩) (c_Shop_init : PySem.W.codeIn K cd_Shop_init "Shop.__init__" = true) (kp_Shop_init : PySem.W.keepIn K (.ref f_Shop_init) = true) (a_Shop_kinds : PySem.W.findIn K (.ref CShop) "kinds" = some (some (.ref f_Shop_kinds))) (fn_Shop_kinds : PySem.W.isFn K (.ref f_Shop_kinds) = true) (kp_Shop_kinds : PySem.W.keepIn K (.ref f_Shop_kinds) = true) (l_Shop_kinds : K.lookup f_Shop_kinds = some ⟨oc_Shop_kinds, od_Shop_kinds, .func (PySem.W.fnOf "kinds" "Shop.kinds" (defArgs s_Shop_kinds) (defBody s_Shop_kinds) (defScope s_Shop_kinds) .none kV_Shop_kinds dc_Shop_kinds pm_Shop_kinds an_Shop_kinds cd_Shop_kinds ct_Shop_kinds), sl_Shop_kinds⟩) (c_Shop_kinds : PySem.W.codeIn K cd_Shop_kinds "Shop.kinds" = true) (a_Shop_pieces_for : PySem.W.findIn K (.ref CShop) "pieces_for" = some (some (.ref f_Shop_pieces_for))) (fn_Shop_pieces_for : PySem.W.isFn K (.ref f_Shop_pieces_for) = true) (kp_Shop_pieces_for : PySem.W.keepIn K (.ref f_Shop_pieces_for) = true) (l_Shop_pieces_for : K.lookup f_Shop_pieces_for = some ⟨oc_Shop_pieces_for, od_Shop_pieces_for, .func (PySem.W.fnOf "pieces_for" "Shop.pieces_for" (defArgs s_Shop_pieces_for) (defBody s_Shop_pieces_for) (defScope s_Shop_pieces_for) .none kV_Shop_pieces_for dc_Shop_pieces_for pm_Shop_pieces_for an_Shop_pieces_for cd_Shop_pieces_for ct_Shop_pieces_for), sl_Shop_pieces_for⟩) (c_Shop_pieces_for : PySem.W.codeIn K cd_Shop_pieces_for "Shop.pieces_for" = true) (a_Shop_bench_for : PySem.W.findIn K (.ref CShop) "bench_for" = some (some (.ref f_Shop_bench_for))) (fn_Shop_bench_for : PySem.W.isFn K (.ref f_Shop_bench_for) = true) (kp_Shop_bench_for : PySem.W.keepIn K (.ref f_Shop_bench_for) = true) (l_Shop_bench_for : K.lookup f_Shop_bench_for = some ⟨oc_Shop_bench_for, od_Shop_bench_for, .func (PySem.W.fnOf "bench_for" "Shop.bench_for" (defArgs s_Shop_bench_for) (defBody s_Shop_bench_for) (defScope s_Shop_bench_for) .none kV_Shop_bench_for dc_Shop_bench_for pm_Shop_bench_for an_Shop_bench_for cd_Shop_bench_for ct_Shop_bench_for), sl_Shop_bench_for⟩) (c_Shop_bench_for : PySem.W.codeIn K cd_Shop_bench_for "Shop.bench_for" = true) (n_Shop_stock : PySem.W.findIn K (.ref CShop) "stock" = some none) (ob_NoBench_init : K.lookup CNoBench = some (excClassObj nm_NoBench_init qn_NoBench_init CNoBench N_NoBench_init bs_NoBench_init (.ref CBenchError :: bmVE) true sn_NoBench_init sub_NoBench_init ab_NoBench_init col_NoBench_init dd_NoBench_init k0_NoBench_init k1_NoBench_init k2_NoBench_init k3_NoBench_init k5_NoBench_init "ValueError.__new__")) (o_cb_NoBench_init : PySem.W.excIn K CBenchError bmVE "ValueError.__new__" = true) (it_NoBench_init : PySem.W.findIn K (.ref CNoBench) "__init__" = some (some (.ref f_NoBench_init))) (kp0_NoBench_init : PySem.W.keepIn K (.ref CNoBench) = true) (hm_NoBench_init : PySem.W.mroIn K CNoBench (.type "object") = some true) (hd_NoBench_init : PySem.W.hasDictIn K CNoBench = true) (fn_NoBench_init : PySem.W.typeIn K (.ref f_NoBench_init) = some (.type "function")) (sa_NoBench_init : PySem.W.findIn K (.ref CNoBench) "__setattr__" = some (some (.builtin "object.__setattr__"))) (na_NoBench_init : PySem.W.findIn K (.ref CNoBench) "at" = some none) (rd_NoBench_init : PySem.W.readsIn K CBenchError (.type "type") = true) (fc_NoBench_init : PySem.W.findCls K (.ref CBenchError) (.type "type") "__init__" = some (.val (.builtin "ValueError.__init__"))) (sg_NoBench_init : PySem.W.specialIn K (.ref CBenchError) "__getattribute__" = some (some (.builtin "type.__getattribute__"))) (l_NoBench_init : K.lookup f_NoBench_init = some ⟨oc_NoBench_init, od_NoBench_init, .func (PySem.W.fnOf "__init__" "NoBench.__init__" (defArgs s_NoBench_init) (defBody s_NoBench_init) (defScope s_NoBench_init) .none kV_NoBench_init dc_NoBench_init pm_NoBench_init an_NoBench_init cd_NoBench_init ct_NoBench_init), sl_NoBench_init⟩) (c_NoBench_init : PySem.W.codeIn K cd_NoBench_init "NoBench.__init__" = true) (kp_NoBench_init : PySem.W.keepIn K (.ref f_NoBench_init) = true) (m_NOUGHT : PySem.W.nsIn K mainGlobals "NOUGHT" = some (some (.ref CNOUGHT))) (lk_NOUGHT : K.lookup CNOUGHT = some ⟨.type "tuple", dd_NOUGHT, .seq #[.int 0 tk_NOUGHT_0, .int 1 tk_NOUGHT_1] nn_NOUGHT, sl_NOUGHT⟩) : Exc K mg ⟨0, CBenchError, CNoNumber, CNoStock, CNoWish, CNoBench, CShop, CNOUGHT, tGAP, tGLASS, tLETTERS, tMOST_LETTERS, tMOST_KINDS, tMOST_GAPS⟩ := ⟨trivial, PySem.W.mg_of X G m_BenchError, PySem.W.mg_of X G m_NoNumber, PySem.W.mg_of X G m_NoStock, PySem.W.mg_of X G m_NoWish, PySem.W.mg_of X G m_NoBench, PySem.W.mg_of X G m_Shop, PySem.W.mg_of X G m_GAP, PySem.W.mg_of X G m_GLASS, PySem.W.mg_of X G m_LETTERS, PySem.W.mg_of X G m_MOST_LETTERS, PySem.W.mg_of X G m_MOST_KINDS, PySem.W.mg_of X G m_MOST_GAPS, ⟨PySem.W.mg_of X G m_NoStock, o_NoStock⟩, x_NoStock_BenchError, x_NoBench_BenchError, k_NoStock_NoNumber, k_NoStock_NoStock, k_NoStock_NoBench, k_NoStock_NoWish, k_NoStock_ValueError, k_NoBench_NoNumber, k_NoBench_NoStock, k_NoBench_NoBench, k_NoBench_NoWish, k_NoBench_ValueError, ⟨by rw [ecl_NoStock]; rfl, ega_NoStock, egt_NoStock, eha_NoStock, ehn_NoStock, eht_NoStock, ehm_NoStock, ehb_NoStock⟩, ⟨by rw [ecl_NoBench]; rfl, ega_NoBench, egt_NoBench, eha_NoBench, ehn_NoBench, eht_NoBench, ehm_NoBench, ehb_NoBench⟩, ⟨pg_Shop, hd_Shop, po_Shop, sa_Shop⟩, ⟨⟨_, _, fun_mk l_Shop_init c_Shop_init kp_Shop_init, ⟨mk_Shop_init, a_Shop_init, fn_Shop_init, kc_Shop_init⟩⟩, PySem.W.mg_of X G m_Shop⟩, ⟨⟨_, _, fun_mk l_Shop_kinds c_Shop_kinds kp_Shop_kinds, ⟨a_Shop_kinds, fn_Shop_kinds, kp_Shop_kinds⟩⟩, ⟨pg_Shop, hd_Shop, po_Shop, sa_Shop⟩⟩, ⟨⟨_, _, fun_mk l_Shop_pieces_for c_Shop_pieces_for kp_Shop_pieces_for, ⟨a_Shop_pieces_for, fn_Shop_pieces_for, kp_Shop_pieces_for⟩⟩, ⟨pg_Shop, hd_Shop, po_Shop, sa_Shop⟩⟩, ⟨⟨_, _, fun_mk l_Shop_bench_for c_Shop_bench_for kp_Shop_bench_for, ⟨a_Shop_bench_for, fn_Shop_bench_for, kp_Shop_bench_for⟩⟩, ⟨pg_Shop, hd_Shop, po_Shop, sa_Shop⟩⟩, n_Shop_stock, ⟨⟨_, _, fun_mk l_NoBench_init c_NoBench_init kp_NoBench_init, ⟨⟨_, _, _, _, _, _, _, _, _, _, _, _, _, _, ob_NoBench_init⟩, o_cb_NoBench_init, it_NoBench_init, kp0_NoBench_init, hm_NoBench_init, hd_NoBench_init, fn_NoBench_init, sa_NoBench_init, na_NoBench_init, rd_NoBench_init, fc_NoBench_init, sg_NoBench_init⟩⟩, PySem.W.mg_of X G m_NoBench⟩, PySem.W.mg_of X G m_NOUGHT, fun H => .inr ⟨_, _, _, lk_NOUGHT, rfl, rfl, by show 2 ≤ sizeLine; decide, (.cons ⟨_, rfl⟩ (.cons ⟨_, rfl⟩ .nil))⟩⟩
section
variable {P : Program} {w : World} {K : PySem.W.Frag} {mg : Str → Option Value} {base : Heap} {ad : Adr} {c : Bool}
theorem c_is_whole (T : Txt K mg ad) : CalB P w K mg base true 1 "is_whole" ["thing"] (spW K) := by
  refine T.t_is_whole.calN sc_is_whole (fun _ _ _ _ _ _ => by1 fun _ => rfl) (fun vs H Q E h => ?_) (fun f cdv A outer s H vs Q E hr h => ?_)
  · obtain ⟨v, d, rfl, _⟩ := h; rfl
  obtain ⟨v, d, rfl, hv, q⟩ := h
  obtain ⟨b, b', hb, hc, e⟩ := isInt_b d
  refine ⟨_, (pss_one (ps_ret (pe_and (pe_callB call_isiD rfl T.isinstance bt_isinstance (pa_name (pv 0) (pa_name (pe_bltn (v := .ty "int") rfl T.int bt_int rfl) pa_nil))) (pe_one (pe_not (pe_callB call_isiD rfl T.isinstance bt_isinstance (pa_name (pv 0) (pa_name (pe_bltn (v := .ty "bool") rfl T.bool bt_bool rfl) pa_nil)))))))), ?_⟩
  refine ⟨_, rfl, _, _, _, b, rfl, hv, hb, _, rfl, ?_⟩
  cases b with
  | false =>
    have e' : isIntD d = false := e.symm
    rw [e'] at q
    exact iteF q
  | true =>
    refine iteT ?_
    refine ⟨_, rfl, _, _, _, b', rfl, hv, hc, _, rfl, ?_⟩
    have e' : (!b') = isIntD d := e
    show Q (.bl (!b')) H
    rw [e']
    exact q
theorem c_common_divisor (T : Txt K mg ad) : CalB P w K mg base true 1 "common_divisor" ["one", "other"] spDiv := by
  refine T.t_common_divisor.calN sc_common_divisor (fun _ _ _ _ _ _ => by2 fun _ _ => rfl) (fun vs H Q E h => ?_) (fun f cdv A outer s H vs Q E hr h => ?_)
  · obtain ⟨a, b, rfl, _⟩ := h; rfl
  obtain ⟨a, b, rfl, q⟩ := h
  refine ⟨_, (pss_cons (ps_set (i := 2) sc_common_divisor.nd rfl (Or.inl rfl) (pe_callB call_abs rfl T.abs bt_abs (pa_name (pv 0) pa_nil))) (pss_cons (ps_set (i := 3) sc_common_divisor.nd rfl (Or.inl rfl) (pe_callB call_abs rfl T.abs bt_abs (pa_name (pv 1) pa_nil))) (pss_cons (ps_while PassesOwn.never (pt_cmpR op_ne (pv 3) pe_int (nomark _)) (pss_cons (ps_set (i := 4) sc_common_divisor.nd rfl (Or.inl rfl) (pe_op op_mod (pv 2) (pv 3))) (pss_cons (ps_set (i := 2) sc_common_divisor.nd rfl (Or.inl rfl) (pv 3)) (pss_one (ps_set (i := 3) sc_common_divisor.nd rfl (Or.inl rfl) (pv 4)))))) (pss_one (ps_ret (pv 2)))))), ?_⟩
  refine ⟨_, rfl, _, rfl, _, rfl, _, rfl, ?_⟩
  have ea := Fr.absE a
  have eb := Fr.absE b
  refine ⟨fun k σ H' => H = H' ∧ ∃ (m : Nat) (r : Option V), σ = [some (.int a), some (.int b), some (.int m), some (.int k), r] ∧ Nat.gcd m k = Nat.gcd a.natAbs b.natAbs, ⟨b.natAbs, rfl, a.natAbs, none, by rw [← ea, ← eb]; rfl, rfl⟩, ?_⟩
  rintro n _ _ ⟨rfl, m, r, rfl, e⟩
  refine ⟨_, rfl, rfl, _, rfl, ?_⟩
  refine ite2 (fun c => ?_) (fun c => ?_)
  · have hn : n ≠ 0 := by
      intro z
      subst z
      simp at c
    have h1 : (m : Int) % (n : Int) = ((m % n : Nat) : Int) := (Int.natCast_emod m n).symm
    refine ⟨fun σ' H' => H = H' ∧ σ' = [some (.int a), some (.int b), some (.int n), some (.int ((m : Int) % (n : Int))), some (.int ((m : Int) % (n : Int)))], ?_, ?_⟩
    · rintro _ _ ⟨rfl, rfl⟩
      rw [h1]
      exact ⟨m % n, Nat.mod_lt _ (by omega), rfl, n, _, rfl, by rw [Fr.gcd_turn, e]⟩
    · exact ⟨_, rfl, _, rfl, _, _, rfl, rfl, (by show (0 : Int) < (n : Int); omega), _, rfl, _, rfl, rfl, rfl⟩
  · have hn : n = 0 := by
      by_cases z : n = 0
      · exact z
      · exfalso
        apply c
        rw [decI]
        simp
        omega
    subst hn
    refine ⟨_, rfl, ?_⟩
    have e2 : (m : Int) = Fr.gcd a b := by
      unfold Fr.gcd
      rw [← e, Nat.gcd_zero_right]
    rw [e2]
    exact q
theorem c_is_ratio_any (T : Txt K mg ad) : CalB P w K mg base true 2 "is_ratio" ["thing"] (spRat K) := by
  have C_is_whole := c_is_whole (P := P) (w := w) (base := base) T
  have C_common_divisor := c_common_divisor (P := P) (w := w) (base := base) T
  refine T.t_is_ratio.calN sc_is_ratio (fun _ _ _ _ _ _ => by1 fun _ => rfl) (fun vs H Q E h => ?_) (fun f cdv A outer s H vs Q E hr h => ?_)
  · obtain ⟨_, _, rfl, _⟩ := h; rfl
  obtain ⟨v, d, rfl, hv, q⟩ := h
  refine ⟨_, (pss_cons (ps_if (PW.pt (pw_or (pt_not (pt_val (pe_callB call_isiD rfl T.isinstance bt_isinstance (pa_name (pv 0) (pa_name (pe_bltn (v := .ty "tuple") rfl T.tuple bt_tuple rfl) pa_nil))))) (pw_or1 (pt_cmpR op_ne (pe_callB call_len_seq rfl T.len bt_len (pa_name (pv 0) pa_nil)) pe_int (nomark _))))) (pss_one (ps_ret pe_bl)) pss_nil) (pss_cons (ps_set (i := 1) sc_is_ratio.nd rfl (Or.inl rfl) (pe_ix ix_tup (pv 0) pe_int (fun _ _ => rfl))) (pss_cons (ps_set (i := 2) sc_is_ratio.nd rfl (Or.inl rfl) (pe_ix ix_tup (pv 0) pe_int (fun _ _ => rfl))) (pss_cons (ps_if (PW.pt (pw_or (pt_not (pt_val (pe_cB C_is_whole (hr.mono (by decide)) pass01 (pa_name (pv 1) pa_nil)))) (pw_or1 (pt_not (pt_val (pe_cB C_is_whole (hr.mono (by decide)) pass01 (pa_name (pv 2) pa_nil))))))) (pss_one (ps_ret pe_bl)) pss_nil) (pss_one (ps_ret (pe_and (pe_cmpR op_ge (pv 2) pe_int (nomark _)) (pe_one (pe_cmpR op_eq (pe_cB C_common_divisor (hr.mono (by decide)) pass01 (pa_name (pv 1) (pa_name (pv 2) pa_nil))) pe_int (nomark _)))))))))), ?_⟩
  refine ⟨_, rfl, _, _, _, _, rfl, hv, isTup_b d, _, rfl, ?_⟩
  cases ht : isTupD d with
  | false =>
    refine iteT (iteT ?_)
    rw [ratD_no ht] at q
    exact q
  | true =>
    obtain ⟨ds, rfl⟩ := isTup_of ht
    obtain ⟨a, xs, rfl, ha, hds⟩ := hv.tup_of
    refine iteF ?_
    refine ⟨_, rfl, a, _, rfl, .inr ha, rfl, _, rfl, ?_⟩
    by_cases hl : ds.length = 2
    · obtain ⟨d1, d2, rfl⟩ : ∃ d1 d2, ds = [d1, d2] := by
        match ds, hl with
        | [d1, d2], _ => exact ⟨d1, d2, rfl⟩
      obtain ⟨x, y, rfl, hx, hy⟩ := hds.two
      refine iteF ?_
      refine ⟨_, rfl, a, _, _, _, rfl, rfl, ha, rfl, ?_⟩
      refine ⟨_, rfl, a, _, _, _, rfl, rfl, ha, rfl, ?_⟩
      refine ⟨_, rfl, _, _, rfl, hx, _, rfl, ?_⟩
      cases h1 : isIntD d1 with
      | false =>
        refine iteT (iteT ?_)
        rw [ratD_two (.inl h1)] at q
        exact q
      | true =>
        refine iteF ?_
        refine ⟨_, rfl, _, _, rfl, hy, _, rfl, ?_⟩
        cases h2 : isIntD d2 with
        | false =>
          refine iteT ?_
          rw [ratD_two (.inr h2)] at q
          exact q
        | true =>
          obtain ⟨i, rfl⟩ := isInt_of h1
          obtain ⟨j, rfl⟩ := isInt_of h2
          obtain rfl := hx.int_of
          obtain rfl := hy.int_of
          refine iteF ?_
          refine ⟨_, rfl, _, _, rfl, rfl, _, rfl, ?_⟩
          have q' : Q (.bl (decide (1 ≤ j) && decide (Fr.gcd i j = 1))) H := q
          refine ite2 (fun c => ?_) (fun c => ?_)
          · have c' : decide (1 ≤ j) = true := c
            rw [c', Bool.true_and] at q'
            refine ⟨_, rfl, _, rfl, i, j, rfl, rfl, ?_⟩
            show Q (.bl (decide (V.int (Fr.gcd i j) = V.int 1))) H
            rw [decI]
            exact q'
          · have c' : decide (1 ≤ j) = false := Bool.eq_false_iff.mpr c
            rw [c', Bool.false_and] at q'
            exact q'
    · have e : decide (V.int ((xs.length : Nat) : Int) = V.int 2) = false := by
        rw [decI]
        exact decide_eq_false (by have := hds.len; omega)
      show if (!decide (V.int ((xs.length : Nat) : Int) = V.int 2)) = true then _ else _
      rw [e]
      refine iteT ?_
      rw [ratD_len hl] at q
      exact q
end
end K63
namespace K63
open PySem L2 Lib Fr Op
seal PE PT PW PA PS PSs PG PGs PI PO PIfs
section
variable {P : Program} {w : World} {K : PySem.W.Frag} {mg : Str → Option Value} {base : Heap} {ad : Adr} {c : Bool}
theorem c__law_mix (T : Txt K mg ad) : CalB P w K mg base true 1 "_law_mix" ["_law_cell", "_law_by"] spMixQ := by
  refine T.t__law_mix.calN sc__law_mix (fun _ _ _ _ _ _ => by2 fun _ _ => rfl) (fun vs H Q E h => ?_) (fun f cdv A outer s H vs Q E hr h => ?_)
  · obtain ⟨_, _, rfl, _⟩ := h; rfl
  obtain ⟨z, b, rfl, b0, b1, q⟩ := h
  refine ⟨_, (pss_cons (ps_set (i := 2) sc__law_mix.nd rfl (Or.inl rfl) (pe_op op_mod (pe_op op_mul (pe_op op_add (pe_op op_mod (pv 0) pe_int) pe_int) (pv 1)) pe_int)) (pss_one (ps_ret (pe_op op_mod (pe_op op_mul (pv 2) (pv 2)) pe_int)))), ?_⟩
  have p32 : (2 : Int) ^ 32 = 4294967296 := by decide
  have p64 : (2 : Int) ^ 64 = 18446744073709551616 := by decide
  refine ⟨_, rfl, _, _, rfl, rfl, (by show (0 : Int) < 1000003; decide), _, _, rfl, rfl, _, rfl, _, _, rfl, rfl, .inr ⟨by omega, by omega⟩, _, _, rfl, rfl, (by show (0 : Int) < 2147483647; decide), ?_⟩
  generalize ho : (z % 1000003 + 7) * b % 2147483647 = o
  have o0 : 0 ≤ o := by rw [← ho]; exact Int.emod_nonneg _ (by decide)
  have o1 : o < 2147483647 := by rw [← ho]; exact Int.emod_lt_of_pos _ (by decide)
  refine ⟨_, rfl, _, rfl, _, _, rfl, rfl, .inl ⟨by omega, by omega⟩, _, _, rfl, rfl, (by show (0 : Int) < 2147483629; decide), ?_⟩
  exact q _ (Int.emod_nonneg _ (by decide)) (Int.emod_lt_of_pos _ (by decide))
theorem c__law_lowest (T : Txt K mg ad) : CalB P w K mg base true 1 "_law_lowest" ["_law_top", "_law_bottom"] spLowP := by
  refine T.t__law_lowest.calN sc__law_lowest (fun _ _ _ _ _ _ => by2 fun _ _ => rfl) (fun vs H Q E h => ?_) (fun f cdv A outer s H vs Q E hr h => ?_)
  · obtain ⟨a, b, rfl, _⟩ := h; rfl
  obtain ⟨a, b, rfl, bp, bs, q⟩ := h
  have b0 : b ≠ 0 := by omega
  refine ⟨_, (pss_cons (ps_par (i := 2) (j := 3) rfl sc__law_lowest.nd rfl rfl (by decide) rfl rfl (pa_call (pe_callB call_abs rfl T.abs bt_abs (pa_name (pv 0) pa_nil)) (pa_name (pv 1) pa_nil)) rfl) (pss_cons (ps_while PassesOwn.never (pt_cmpR op_gt (pv 3) pe_int (nomark _)) (pss_one (ps_par (i := 2) (j := 3) rfl sc__law_lowest.nd rfl rfl (by decide) rfl rfl (pa_name (pv 3) (pa_bin (pe_op op_mod (pv 2) (pv 3)) pa_nil)) rfl))) (pss_one (ps_ret (pe_tup (pa_bin (pe_op op_fdivW (pv 0) (pv 2)) (pa_bin (pe_op op_fdivW (pv 1) (pv 2)) pa_nil))))))), ?_⟩
  refine ⟨_, rfl, _, rfl, _, rfl, _, _, rfl, ?_⟩
  have ea := Fr.absE a
  have eb : b = (b.natAbs : Int) := by omega
  refine ⟨fun k σ H' => H = H' ∧ ∃ (m : Nat), σ = [some (.int a), some (.int b), some (.int m), some (.int k)] ∧ Nat.gcd m k = Nat.gcd a.natAbs b.natAbs, ⟨b.natAbs, rfl, a.natAbs, by rw [← ea, ← eb]; rfl, rfl⟩, ?_⟩
  rintro n _ _ ⟨rfl, m, rfl, e⟩
  refine ⟨_, rfl, _, _, rfl, rfl, _, rfl, ?_⟩
  refine ite2 (fun c => ?_) (fun c => ?_)
  · have hn : n ≠ 0 := by
      intro z
      subst z
      simp at c
    have h1 : (m : Int) % (n : Int) = ((m % n : Nat) : Int) := (Int.natCast_emod m n).symm
    refine ⟨fun σ' H' => H = H' ∧ σ' = [some (.int a), some (.int b), some (.int n), some (.int ((m : Int) % (n : Int)))], ?_, ?_⟩
    · rintro _ _ ⟨rfl, rfl⟩
      rw [h1]
      exact ⟨m % n, Nat.mod_lt _ (by omega), rfl, n, rfl, by rw [Fr.gcd_turn, e]⟩
    · exact ⟨_, rfl, _, rfl, _, rfl, _, _, rfl, rfl, (by show (0 : Int) < (n : Int); omega), _, _, rfl, rfl, rfl⟩
  · have hn : n = 0 := by
      by_cases z : n = 0
      · exact z
      · exfalso
        apply c
        exact decide_eq_true (by omega)
    subst hn
    have e2 : (m : Int) = Fr.gcd a b := by
      unfold Fr.gcd
      rw [← e, Nat.gcd_zero_right]
    have gl := Fr.gcd_le (a := a) b0
    have gn := Fr.gcd_nn a b
    have eg : (m : Int) = Fr.sg a b := by
      unfold Fr.sg
      rw [if_neg (by omega), e2]
    have gs : (m : Int).natAbs.log2 < 9000 := by
      have h2 : (m : Int).natAbs < lim := by omega
      exact lim_log h2
    have ne : (m : Int) ≠ 0 := by rw [eg]; exact Fr.sg_ne b0
    refine ⟨_, rfl, _, rfl, _, _, rfl, rfl, ⟨ne, gs⟩, _, rfl, _, rfl, _, _, rfl, rfl, ⟨ne, gs⟩, (by show 2 ≤ sizeLine; decide), fun p hp => ?_⟩
    rw [eg]
    exact q p hp
theorem c__law_ratio (T : Txt K mg ad) : CalB P w K mg base true 2 "_law_ratio" ["_law_cell", "_law_by"] (spRatC K) := by
  have C__law_mix := c__law_mix (P := P) (w := w) (base := base) T
  have C__law_lowest := c__law_lowest (P := P) (w := w) (base := base) T
  refine T.t__law_ratio.calN sc__law_ratio (fun _ _ _ _ _ _ => by2 fun _ _ => rfl) (fun vs H Q E h => ?_) (fun f cdv A outer s H vs Q E hr h => ?_)
  · obtain ⟨_, _, rfl, _⟩ := h; rfl
  obtain ⟨z, b, rfl, b0, b1, q⟩ := h
  refine ⟨_, (pss_cons (ps_set (i := 2) sc__law_ratio.nd rfl (Or.inl rfl) (pe_cB C__law_mix (hr.mono (by decide)) pass01 (pa_name (pv 0) (pa_name (pv 1) pa_nil)))) (pss_cons (ps_set (i := 3) sc__law_ratio.nd rfl (Or.inl rfl) (pe_ix ix_list (pe_lst (pa_const pe_int (pa_const pe_int (pa_const pe_int (pa_const pe_int pa_nil))))) (pe_op op_mod (pe_op op_fdiv (pv 2) pe_int) pe_int) (fun _ _ => rfl))) (pss_cons (ps_set (i := 4) sc__law_ratio.nd rfl (Or.inl rfl) (pe_op op_sub (pe_op op_mod (pe_op op_fdiv (pv 2) pe_int) (pe_op op_add (pe_op op_mul pe_int (pv 3)) pe_int)) (pv 3))) (pss_one (ps_ret (pe_cB C__law_lowest (hr.mono (by decide)) pass01 (pa_name (pv 4) (pa_bin (pe_op op_add pe_int (pe_op op_mod (pe_op op_fdiv (pv 2) pe_int) (pe_ix ix_list (pe_lst (pa_const pe_int (pa_const pe_int (pa_const pe_int (pa_name (pv 3) pa_nil))))) (pe_op op_mod (pe_op op_fdiv (pv 2) pe_int) pe_int) (fun _ _ => rfl)))) pa_nil)))))))), ?_⟩
  refine ⟨_, rfl, _, rfl, z, b, rfl, b0, b1, fun x x0 x1 => ?_⟩
  refine ⟨(by show 4 ≤ sizeLine; decide), fun p hp => ?_⟩
  obtain ⟨v, hv, hm⟩ := atI_in (xs := [V.int 4, V.int 9, V.int 9, V.int 99]) (r := x / 64 % 4) (by omega) (by simp only [List.length_cons, List.length_nil]; omega)
  obtain ⟨m, rfl, m0, m1⟩ : ∃ m : Int, v = .int m ∧ 1 ≤ m ∧ m ≤ 99 := by
    simp only [List.mem_cons, List.not_mem_nil, or_false] at hm
    rcases hm with rfl | rfl | rfl | rfl <;> exact ⟨_, rfl, by decide, by decide⟩
  refine ⟨_, rfl, _, _, rfl, rfl, ⟨by decide, by decide⟩, _, _, rfl, rfl, (by show (0 : Int) < 4; decide), p, _, _, _, rfl, rfl, SqL.of upd_same, hv, ?_⟩
  have s1 := same_new hp (.lst [.int 4, .int 9, .int 9, .int 99])
  refine ⟨_, rfl, _, _, rfl, rfl, ⟨by decide, by decide⟩, _, rfl, _, _, rfl, rfl, .inl ⟨by decide, by decide⟩, _, _, rfl, rfl, _, _, rfl, rfl, (by show (0 : Int) < 2 * m + 1; omega), _, rfl, _, _, rfl, rfl, ?_⟩
  refine ⟨_, rfl, _, rfl, _, _, rfl, rfl, ⟨by decide, by decide⟩, _, rfl, (by show 4 ≤ sizeLine; decide), fun p2 hp2 => ?_⟩
  obtain ⟨v2, hv2, hm2⟩ := atI_in (xs := [V.int 1, V.int 3, V.int 9, V.int m]) (r := x / 16384 % 4) (by omega) (by simp only [List.length_cons, List.length_nil]; omega)
  obtain ⟨j, rfl, j0, j1⟩ : ∃ j : Int, v2 = .int j ∧ 1 ≤ j ∧ j ≤ 99 := by
    simp only [List.mem_cons, List.not_mem_nil, or_false] at hm2
    rcases hm2 with rfl | rfl | rfl | rfl
    · exact ⟨_, rfl, by decide, by decide⟩
    · exact ⟨_, rfl, by decide, by decide⟩
    · exact ⟨_, rfl, by decide, by decide⟩
    · exact ⟨_, rfl, m0, m1⟩
  refine ⟨_, rfl, _, _, rfl, rfl, ⟨by decide, by decide⟩, _, _, rfl, rfl, (by show (0 : Int) < 4; decide), p2, _, _, _, rfl, rfl, SqL.of upd_same, hv2, ?_⟩
  have s2 := s1.trans (same_new hp2 (.lst [.int 1, .int 3, .int 9, .int m]))
  refine ⟨_, _, rfl, rfl, (by show (0 : Int) < j; omega), _, _, rfl, rfl, ?_⟩
  have hb0 := Int.emod_nonneg (x / 65536) (show j ≠ 0 by omega)
  have hb1 := Int.emod_lt_of_pos (x / 65536) (show 0 < j by omega)
  have c0 : (0 : Int) < (1 + x / 65536 % j : Int) := by omega
  have d0 : (1 + x / 65536 % j : Int) ≠ 0 := by omega
  have bs : (1 + x / 65536 % j : Int).natAbs < 2 ^ 7 := by
    have : (2 : Nat) ^ 7 = 128 := by decide
    omega
  refine ⟨_, _, rfl, c0, Nat.lt_of_lt_of_le bs (by unfold lim; exact pow_le (by decide)), fun p3 hp3 => ?_⟩
  exact q _ _ _ (s2.trans (same_new hp3 _)) (dv_low d0) (Bd.of d0 (draw_le (by omega) m1) bs)
end
end K63
namespace K63
open PySem L2 Lib Fr Op
seal PE PT PW PA PS PSs PG PGs PI PO PIfs
section
variable {P : Program} {w : World} {K : PySem.W.Frag} {mg : Str → Option Value} {base : Heap} {ad : Adr} {c : Bool}
theorem k_NoBench (T : Txt K mg ad) : XMk P w K mg base 1 "NoBench" ad.NoBench := by
  refine T.ex.j_NoBench.xmk sc_NoBench_init (fun _ _ _ _ _ _ => by2 fun _ _ => rfl) (fun fI O f cdv A outer s H vs Q E hr h => ?_)
  obtain ⟨e, v, rfl, he, q⟩ := h
  refine ⟨_, (pss_cons (ps_binit O T.ex.m_BenchError (pa_name (pv 0) (pa_name (pv 1) pa_nil))) (pss_one (ps_setat O (pv 0) (pv 1)))), ?_⟩
  exact ⟨_, rfl, _, rfl, e, v, none, rfl, he, _, rfl, _, rfl, e, rfl, he, fun dx n1 n2 => q dx n1 n2⟩
end
end K63
namespace K63
open PySem L2 Lib Fr Op
seal PE PT PW PA PS PSs PG PGs PI PO PIfs
section
variable {P : Program} {w : World} {K : PySem.W.Frag} {mg : Str → Option Value} {base : Heap} {ad : Adr} {c : Bool}
theorem dN (T : Txt K mg ad) (H : Hp) : DV K H (.ref ad.NOUGHT) (frD 0) := .tup (T.ex.s_NOUGHT H) (.cons (.int 0) (.cons (.int 1) .nil))
theorem c_is_name (T : Txt K mg ad) : CalB P w K mg base true 1 "is_name" ["thing"] (spName K) := by
  refine T.t_is_name.calN sc_is_name (fun _ _ _ _ _ _ => by1 fun _ => rfl) (fun vs H Q E h => ?_) (fun f cdv A outer s H vs Q E hr h => ?_)
  · obtain ⟨_, _, rfl, _⟩ := h; rfl
  obtain ⟨v, d, rfl, hv, ok, q⟩ := h
  refine ⟨_, (pss_cons (ps_if (PW.pt (pw_or (pt_not (pt_val (pe_callB call_isiD rfl T.isinstance bt_isinstance (pa_name (pv 0) (pa_name (pe_bltn (v := .ty "str") rfl T.str bt_str rfl) pa_nil))))) (pw_or1 (pt_not (pt_chain op_le op_le pe_int (pe_callB call_len_str rfl T.len bt_len (pa_name (pv 0) pa_nil)) (pe_glob (v := .int 8) rfl T.ex.m_MOST_LETTERS ⟨_, rfl⟩)))))) (pss_one (ps_ret pe_bl)) pss_nil) (pss_one (ps_ret (pe_callB (call_all rfl) rfl T.all bt_all (pa_cons (pe_compIn rfl (pv 0) T.ex.m_LETTERS (by decide) (by decide) rfl (by decide) rfl rfl rfl rfl) pa_nil))))), ?_⟩
  refine ⟨_, rfl, _, _, _, _, rfl, hv, isStr_b d, _, rfl, ?_⟩
  cases ht : isStrD d with
  | false =>
    have q0 := q _ (Same.refl _)
    rw [nameD_no ht] at q0
    exact iteT (iteT q0)
  | true =>
    obtain ⟨z, rfl⟩ := isStr_of ht
    obtain rfl := DV.str_of hv
    have hz := ok z rfl
    refine iteF ⟨_, rfl, z, rfl, hz, _, _, rfl, rfl, _, rfl, ?_⟩
    by_cases h1 : 1 ≤ z.length
    · refine iteT' (decide_eq_true (by omega)) ⟨_, _, rfl, rfl, _, rfl, ?_⟩
      by_cases h2 : z.length ≤ 8
      · refine iteF' (by rw [decide_eq_true (by omega)]; rfl) ?_
        refine ⟨_, rfl, z, rfl, hz, fun p hp => ?_⟩
        refine ⟨p, (PyProof.Rows.signs z).map inLet, rfl, SqL.of (by rw [List.map_map]; exact upd_same), ?_⟩
        have q0 := q _ (same_new hp (.lst ((PyProof.Rows.signs z).map fun x => V.bl (inLet x))))
        have e : nameD (.str z) = ((PyProof.Rows.signs z).map inLet).all id := by
          show ((decide (1 ≤ z.length) && decide (z.length ≤ 8)) && _) = _
          rw [decide_eq_true h1, decide_eq_true h2, List.all_map]; rfl
        rw [← e]
        exact q0
      · have q0 := q _ (Same.refl _)
        have e : nameD (.str z) = false := by
          show ((decide (1 ≤ z.length) && decide (z.length ≤ 8)) && _) = _
          rw [decide_eq_false h2, Bool.and_false, Bool.false_and]
        rw [e] at q0
        exact iteT' (by rw [decide_eq_false (by omega)]; rfl) q0
    · have q0 := q _ (Same.refl _)
      have e : nameD (.str z) = false := by
        show ((decide (1 ≤ z.length) && decide (z.length ≤ 8)) && _) = _
        rw [decide_eq_false h1, Bool.false_and, Bool.false_and]
      rw [e] at q0
      exact iteF' (decide_eq_false (by omega)) ⟨_, rfl, iteT q0⟩
theorem c_is_kind (T : Txt K mg ad) : CalB P w K mg base true 3 "is_kind" ["thing"] (spKind K) := by
  have C_is_name := c_is_name (P := P) (w := w) (base := base) T
  have C_is_ratio := c_is_ratio_any (P := P) (w := w) (base := base) T
  refine T.t_is_kind.calN sc_is_kind (fun _ _ _ _ _ _ => by1 fun _ => rfl) (fun vs H Q E h => ?_) (fun f cdv A outer s H vs Q E hr h => ?_)
  · obtain ⟨_, _, rfl, _⟩ := h; rfl
  obtain ⟨v, d, rfl, hv, ok, q⟩ := h
  refine ⟨_, (pss_cons (ps_if (PW.pt (pw_or (pt_not (pt_val (pe_callB call_isiD rfl T.isinstance bt_isinstance (pa_name (pv 0) (pa_name (pe_bltn (v := .ty "tuple") rfl T.tuple bt_tuple rfl) pa_nil))))) (pw_or1 (pt_cmpR op_ne (pe_callB call_len_seq rfl T.len bt_len (pa_name (pv 0) pa_nil)) pe_int (nomark _))))) (pss_one (ps_ret pe_bl)) pss_nil) (pss_one (ps_ret (pe_and (pe_cB C_is_name (hr.mono (by decide)) pass01 (pa_sub (pe_ix ix_tup (pv 0) pe_int (fun _ _ => rfl)) pa_nil)) (pe_and (pe_cB C_is_ratio (hr.mono (by decide)) pass01 (pa_sub (pe_ix ix_tup (pv 0) pe_int (fun _ _ => rfl)) pa_nil)) (pe_one (pe_cmpR (op_neD hr.units) (pe_ix ix_tup (pv 0) pe_int (fun _ _ => rfl)) (pe_glob (v := .ref ad.NOUGHT) rfl T.ex.m_NOUGHT rfl) (nomark _)))))))), ?_⟩
  refine ⟨_, rfl, _, _, _, _, rfl, hv, isTup_b d, _, rfl, ?_⟩
  cases ht : isTupD d with
  | false =>
    have q0 := q _ (Same.refl _)
    rw [kindB_no ht] at q0
    exact iteT (iteT q0)
  | true =>
    obtain ⟨ds, rfl⟩ := isTup_of ht
    obtain ⟨a, xs, rfl, ha, hds⟩ := hv.tup_of
    have hl := hds.len
    refine iteF ⟨_, rfl, a, _, rfl, .inr ha, rfl, _, rfl, ?_⟩
    by_cases h2 : ds.length = 2
    · have e : decide (V.int ((xs.length : Nat) : Int) = V.int 2) = true := by
        rw [decI]
        exact decide_eq_true (by omega)
      refine iteF' (by rw [e]; rfl) ?_
      rcases ds with _ | ⟨d1, _ | ⟨d2, _ | ⟨d3, dr⟩⟩⟩
      · exact absurd h2 (by simp)
      · exact absurd h2 (by simp)
      · obtain ⟨x1, x2, rfl, g1, g2⟩ := hds.two
        refine ⟨_, rfl, a, _, _, _, rfl, rfl, ha, atI0, _, d1, rfl, g1, ok d1 d2 rfl, fun H1 s1 => ⟨_, rfl, ?_⟩⟩
        have q1 := q H1 s1
        have e0 : kindB (.tuple [d1, d2]) = (nameD d1 && (ratD d2 && nzD d2)) := rfl
        rw [e0] at q1
        cases hn : nameD d1 with
        | false =>
          rw [hn, Bool.false_and] at q1
          exact iteF q1
        | true =>
          rw [hn, Bool.true_and] at q1
          refine iteT ⟨_, rfl, a, _, _, _, rfl, rfl, ha.keep s1, rfl, _, d2, rfl, g2.keep s1, _, rfl, ?_⟩
          cases hr2 : ratD d2 with
          | false =>
            rw [hr2, Bool.false_and] at q1
            exact iteF q1
          | true =>
            obtain ⟨q2, rfl⟩ := ratD_of hr2
            rw [hr2, Bool.true_and, nzD_fr] at q1
            refine iteT ⟨_, rfl, a, _, _, _, rfl, rfl, ha.keep s1, rfl, ?_⟩
            exact ne_frG (g2.keep s1) (dN T H1) q1
      · simp only [List.length_cons] at h2
        omega
    · have q0 := q _ (Same.refl _)
      rw [kindB_len h2] at q0
      have e : decide (V.int ((xs.length : Nat) : Int) = V.int 2) = false := by
        rw [decI]
        exact decide_eq_false (by omega)
      exact iteT' (by rw [e]; rfl) q0
theorem c_is_stock (T : Txt K mg ad) : CalB P w K mg base true 4 "is_stock" ["thing"] (spStock K) := by
  have C_is_kind := c_is_kind (P := P) (w := w) (base := base) T
  refine T.t_is_stock.calN sc_is_stock (fun _ _ _ _ _ _ => by1 fun _ => rfl) (fun vs H Q E h => ?_) (fun f cdv A outer s H vs Q E hr h => ?_)
  · obtain ⟨_, _, rfl, _⟩ := h; rfl
  obtain ⟨v, d, rfl, hv, ok, q⟩ := h
  refine ⟨_, (pss_cons (ps_if (PW.pt (pw_or (pt_not (pt_val (pe_callB call_isiD rfl T.isinstance bt_isinstance (pa_name (pv 0) (pa_name (pe_bltn (v := .ty "list") rfl T.list bt_list rfl) pa_nil))))) (pw_or1 (pt_not (pt_chain op_le op_le pe_int (pe_callB call_len_seq rfl T.len bt_len (pa_name (pv 0) pa_nil)) (pe_glob (v := .int 4) rfl T.ex.m_MOST_KINDS ⟨_, rfl⟩)))))) (pss_one (ps_ret pe_bl)) pss_nil) (pss_cons (ps_if (pt_not (pt_val (pe_callB (call_all rfl) rfl T.all bt_all (pa_cons (pe_comp ["kind"] [none] rfl (pi_list (pv 0)) (fun _ _ _ _ _ => (pg_name (i := 0) (show List.Nodup [("kind" : Str)] by decide) rfl (by first | exact Or.inl rfl | exact Or.inr rfl))) (fun _ _ _ _ _ => pifs_nil) (fun _ _ _ _ _ => (pe_cB C_is_kind (hr.mono (by decide)) pass01 (pa_name (pv 0) pa_nil))) (cap_nil (by decide) (by decide)) (by decide) rfl (by decide) rfl (nocap rfl)) pa_nil)))) (pss_one (ps_ret pe_bl)) pss_nil) (pss_one (ps_ret (pe_cmpR op_eq (pe_callB call_lenS rfl T.len bt_len (pa_call (pe_callTy (call_setS rfl) rfl T.set bt_set (pa_cons (pe_comp ["kind"] [none] rfl (pi_list (pv 0)) (fun _ _ _ _ _ => (pg_name (i := 0) (show List.Nodup [("kind" : Str)] by decide) rfl (by first | exact Or.inl rfl | exact Or.inr rfl))) (fun _ _ _ _ _ => pifs_nil) (fun _ _ _ _ _ => (pe_ix (ix_tupK (K := K)) (pv 0) pe_int (fun _ _ => rfl))) (cap_nil (by decide) (by decide)) (by decide) rfl (by decide) rfl (nocap rfl)) pa_nil)) pa_nil)) (pe_callB call_len_seq rfl T.len bt_len (pa_name (pv 0) pa_nil)) (nomark _)))))), ?_⟩
  refine ⟨_, rfl, _, _, _, _, rfl, hv, isLst_b d, _, rfl, ?_⟩
  cases ht : isLstD d with
  | false =>
    have q0 := q _ (Same.refl _)
    rw [stockB_no ht] at q0
    exact iteT (iteT q0)
  | true =>
    obtain ⟨ds, rfl⟩ := isLst_of ht
    have hok := ok ds rfl
    obtain ⟨a, xs, rfl, ha, hds⟩ := hv.lst_of
    have hl := hds.len
    have e0 : stockB (.list ds) = ((decide (1 ≤ ds.length) && decide (ds.length ≤ 4)) && (ds.all kindB && decide ((metS (fun i => (ds.map kname).getD i "") ds.length).length = ds.length))) := rfl
    rw [e0] at q
    refine iteF ⟨_, rfl, a, _, rfl, .inl ha, _, _, rfl, rfl, _, rfl, ?_⟩
    by_cases h1 : 1 ≤ ds.length
    · refine iteT' (decide_eq_true (by omega)) ⟨_, _, rfl, rfl, _, rfl, ?_⟩
      by_cases h2 : ds.length ≤ 4
      · rw [decide_eq_true h1, decide_eq_true h2, Bool.true_and, Bool.true_and] at q
        refine iteF' (by rw [decide_eq_true (by omega)]; rfl) ?_
        refine ⟨_, rfl, a, rfl, ⟨_, ha⟩, ?_⟩
        refine comp_list0 (K := K) (a := a) (xs := xs) (fun i σ ys H' => ∃ c0, σ = [c0] ∧ ys = (ds.take i).map (fun d => .bl (kindB d)) ∧ Same H H') ⟨_, rfl, rfl, Same.refl _⟩ ?_ ?_ ?_
        · rintro i σ ys H' hi ⟨c0, rfl, rfl, s1⟩
          refine ⟨?_, ha.keep s1⟩
          rw [List.length_map, List.length_take]
          exact Nat.le_of_lt (small1000 (by omega))
        · rintro i x σ ys H' hi ⟨c0, rfl, rfl, s1⟩
          obtain ⟨d, hd, hdx⟩ := hds.get hi
          refine ⟨_, rfl, _, d, rfl, hdx.keep s1, hok d (List.mem_of_getElem? hd), fun H2 s2 => nx (lt_of_get hi) ⟨_, rfl, ?_, s1.trans s2⟩⟩
          rw [List.take_add_one, hd, List.map_append]
          rfl
        · rintro σ ys H' p ⟨c0, rfl, rfl, s1⟩ hp
          rw [hl, List.take_length]
          have u := s1.trans (same_new hp (.lst (ds.map fun d => V.bl (kindB d))))
          refine ⟨p, ds.map kindB, rfl, SqL.of (by rw [List.map_map]; exact upd_same), _, rfl, ?_⟩
          have e2 : (ds.map kindB).all id = ds.all kindB := by rw [List.all_map]; rfl
          rw [e2]
          generalize upd H' p (.lst (ds.map fun d => V.bl (kindB d))) = H1 at u ⊢
          cases hall : ds.all kindB with
          | false =>
            have q0 := q _ u
            rw [hall, Bool.false_and] at q0
            exact iteT q0
          | true =>
            rw [hall, Bool.true_and] at q
            refine iteF ⟨_, rfl, a, rfl, ⟨_, ha.keep u⟩, ?_⟩
            refine comp_list0 (K := K) (a := a) (xs := xs) (fun i σ ys H' => ∃ c0, σ = [c0] ∧ ys = ((ds.take i).map kname).map V.str ∧ Same H1 H') ⟨_, rfl, rfl, Same.refl _⟩ ?_ ?_ ?_
            · rintro i σ ys H' hi ⟨c0, rfl, rfl, s1⟩
              refine ⟨?_, (ha.keep u).keep s1⟩
              rw [List.length_map, List.length_map, List.length_take]
              exact Nat.le_of_lt (small1000 (by omega))
            · rintro i x σ ys H' hi ⟨c0, rfl, rfl, s1⟩
              obtain ⟨d, hd, hdx⟩ := hds.get hi
              obtain ⟨k, rfl, hn, hz⟩ := kindB_of (List.all_eq_true.mp hall d (List.mem_of_getElem? hd))
              obtain ⟨b, x1, x2, rfl, hb, g1, g2⟩ := DV.t2 (hdx.keep (u.trans s1))
              obtain rfl := DV.str_of g1
              refine ⟨_, rfl, b, _, _, _, rfl, rfl, hb, atI0, nx (lt_of_get hi) ⟨_, rfl, ?_, s1⟩⟩
              rw [List.take_add_one, hd, List.map_append, List.map_append]
              rfl
            · rintro σ ys H' p2 ⟨c0, rfl, rfl, s1⟩ hp2
              rw [hl, List.take_length]
              have u2 := s1.trans (same_new hp2 (.lst ((ds.map kname).map V.str)))
              have l1 : (ds.map kname).length < 1000 := by rw [List.length_map]; omega
              refine ⟨p2, ds.map kname, rfl, SqL.of upd_same, l1, fun p3 hp3 => ?_⟩
              have u3 := same_new hp3 (setO P w p3 (metS (fun i => (ds.map kname).getD i "") (ds.map kname).length).length)
              have l2 := metS_le (fun i => (ds.map kname).getD i "") (ds.map kname).length
              refine ⟨p3, _, rfl, upd_same, by omega, _, rfl, a, _, rfl, .inl ((ha.keep u).keep (u2.trans u3)), rfl, ?_⟩
              have q0 := q _ (u.trans (u2.trans u3))
              rw [List.length_map] at q0 ⊢
              rw [decI, hl]
              have e4 : decide ((((metS (fun i => (ds.map kname).getD i "") ds.length).length : Nat) : Int) = ((ds.length : Nat) : Int)) = decide ((metS (fun i => (ds.map kname).getD i "") ds.length).length = ds.length) := decide_eq_decide.mpr ⟨fun h => by omega, fun h => by omega⟩
              rw [e4]
              exact q0
      · have q0 := q _ (Same.refl _)
        rw [decide_eq_false h2, Bool.and_false, Bool.false_and] at q0
        exact iteT' (by rw [decide_eq_false (by omega)]; rfl) q0
    · have q0 := q _ (Same.refl _)
      rw [decide_eq_false h1, Bool.false_and, Bool.false_and] at q0
      exact iteF' (decide_eq_false (by omega)) ⟨_, rfl, iteT q0⟩
theorem k_Shop (T : Txt K mg ad) : MkC P w K mg base 5 "Shop" ad.Shop ["self", "stock"] (spShop K ad.Shop) := by
  have C_is_stock := c_is_stock (P := P) (w := w) (base := base) T
  refine T.ex.i_Shop.mkc sc_Shop_init (fun _ _ _ _ _ _ => by2 fun _ _ => rfl) (fun vs H Q E h => ?_) (fun f cdv A outer s H vs Q E hr h => ?_)
  · obtain ⟨a, dx, x, ds, rfl, _⟩ := h; rfl
  obtain ⟨a, dx, y, ds, rfl, ha, hy, good, ok, q⟩ := h
  refine ⟨_, (pss_cons (ps_if (pt_not (pt_val (pe_cB C_is_stock (hr.mono (by decide)) pass01 (pa_name (pv 1) pa_nil)))) (pss_one ps_never) pss_nil) (pss_one (ps_fldB (pv 0) (pe_callTy call_list_of rfl T.list bt_list (pa_name (pv 1) pa_nil))))), ?_⟩
  refine ⟨_, rfl, y, _, rfl, hy, ok, fun H1 s1 => ⟨_, rfl, ?_⟩⟩
  rw [good]
  obtain ⟨b, xs, rfl, hb, hds⟩ := (hy.keep s1).lst_of
  refine iteF ⟨_, rfl, b, xs, rfl, .inl hb, fun l hl => ?_⟩
  have u := same_new hl (.lst xs)
  have ha1 : upd H1 l (.lst xs) a = some (.ins ad.Shop dx []) := u _ _ (s1 _ _ ha)
  refine ⟨_, rfl, a, ad.Shop, dx, [], rfl, ha1, T.ex.l_Shop, T.ex.n_Shop_stock, by decide, ?_⟩
  exact q xs l _ (s1.trans u) (s1.free hl) upd_same (hds.keep u)
end
end K63
namespace K63
open PySem L2 Lib Fr Op
seal PE PT PW PA PS PSs PG PGs PI PO PIfs
section
variable {P : Program} {w : World} {K : PySem.W.Frag} {mg : Str → Option Value} {base : Heap} {ad : Adr} {c : Bool}
theorem c_look_at_gaps (T : Txt K mg ad) : CalB P w K mg base true 3 "look_at_gaps" ["gaps"] (spGaps K ad.NoBench) := by
  have C_is_ratio := c_is_ratio_any (P := P) (w := w) (base := base) T
  have M_NoBench := k_NoBench (P := P) (w := w) (base := base) T
  refine T.t_look_at_gaps.calB sc_look_at_gaps (fun _ _ _ _ _ _ => by1 fun _ => rfl) (fun vs H Q E h => ?_) (fun f cdv A outer s H vs Q E hr h => ?_)
  · obtain ⟨_, _, rfl, _⟩ := h; rfl
  obtain ⟨v, d, rfl, hv, q, r⟩ := h
  refine ⟨_, (pss_one (ps_if (PW.pt (pw_or (pt_not (pt_val (pe_callB call_isiD rfl T.isinstance bt_isinstance (pa_name (pv 0) (pa_name (pe_bltn (v := .ty "list") rfl T.list bt_list rfl) pa_nil))))) (pw_or (pt_not (pt_chain op_le op_le pe_int (pe_callB call_len_seq rfl T.len bt_len (pa_name (pv 0) pa_nil)) (pe_glob (v := .int 5) rfl T.ex.m_MOST_GAPS ⟨_, rfl⟩))) (pw_or1 (pt_not (pt_val (pe_callB (call_all rfl) rfl T.all bt_all (pa_cons (pe_comp ["gap"] [none] rfl (pi_list (pv 0)) (fun _ _ _ _ _ => (pg_name (i := 0) (show List.Nodup [("gap" : Str)] by decide) rfl (by first | exact Or.inl rfl | exact Or.inr rfl))) (fun _ _ _ _ _ => pifs_nil) (fun _ _ _ _ _ => (pe_cB C_is_ratio (hr.mono (by decide)) pass01 (pa_name (pv 0) pa_nil))) (cap_nil (by decide) (by decide)) (by decide) rfl (by decide) rfl (nocap rfl)) pa_nil)))))))) (pss_one (ps_raiseI bodyB rfl M_NoBench (hr.mono (by decide)) (pa_const pe_non pa_nil))) pss_nil)), ?_⟩
  refine ⟨_, rfl, _, _, _, _, rfl, hv, isLst_b d, _, rfl, ?_⟩
  cases ht : isLstD d with
  | false =>
    have r := r (gapsB_no ht)
    exact iteT (iteT ⟨_, rfl, fun dx hn => r _ dx (same_new hn _) upd_same⟩)
  | true =>
    obtain ⟨ds, rfl⟩ := isLst_of ht
    obtain ⟨a, xs, rfl, ha, hds⟩ := hv.lst_of
    have hl := hds.len
    have e0 : gapsB (.list ds) = ((decide (1 ≤ ds.length) && decide (ds.length ≤ 5)) && ds.all ratD) := rfl
    rw [e0] at q r
    refine iteF ⟨_, rfl, a, _, rfl, .inl ha, _, _, rfl, rfl, _, rfl, ?_⟩
    by_cases h1 : 1 ≤ ds.length
    · refine iteT' (decide_eq_true (by omega)) ⟨_, _, rfl, rfl, _, rfl, ?_⟩
      by_cases h2 : ds.length ≤ 5
      · rw [decide_eq_true h1, decide_eq_true h2, Bool.true_and, Bool.true_and] at q r
        refine iteF' (by rw [decide_eq_true (by omega)]; rfl) ?_
        refine ⟨_, rfl, a, rfl, ⟨_, ha⟩, ?_⟩
        refine comp_list0 (K := K) (a := a) (xs := xs) (fun i σ ys H' => ∃ c0, σ = [c0] ∧ ys = (ds.take i).map (fun d => .bl (ratD d)) ∧ H' = H) ⟨_, rfl, rfl, rfl⟩ ?_ ?_ ?_
        · rintro i σ ys H' hi ⟨c0, rfl, rfl, rfl⟩
          refine ⟨?_, ha⟩
          rw [List.length_map, List.length_take]
          exact Nat.le_of_lt (small1000 (by omega))
        · rintro i x σ ys H' hi ⟨c0, rfl, rfl, rfl⟩
          obtain ⟨d, hd, hdx⟩ := hds.get hi
          refine ⟨_, rfl, _, d, rfl, hdx, nx (lt_of_get hi) ⟨_, rfl, ?_, rfl⟩⟩
          rw [List.take_add_one, hd, List.map_append]
          rfl
        · rintro σ ys H' p ⟨c0, rfl, rfl, rfl⟩ hp
          rw [hl, List.take_length]
          have u := same_new hp (.lst (ds.map fun d => V.bl (ratD d)))
          refine ⟨p, ds.map ratD, rfl, SqL.of (by rw [List.map_map]; exact upd_same), _, rfl, ?_⟩
          have e2 : (ds.map ratD).all id = ds.all ratD := by rw [List.all_map]; rfl
          rw [e2]
          cases hall : ds.all ratD with
          | false =>
            have r := r hall
            exact iteT ⟨_, rfl, fun dx hn => r _ dx (u.trans (same_new hn _)) upd_same⟩
          | true => exact iteF (q hall _ u)
      · have r := r (by rw [decide_eq_false h2, Bool.and_false, Bool.false_and])
        exact iteT' (by rw [decide_eq_false (by omega)]; rfl) (iteT ⟨_, rfl, fun dx hn => r _ dx (same_new hn _) upd_same⟩)
    · have r := r (by rw [decide_eq_false h1, Bool.false_and, Bool.false_and])
      exact iteF' (decide_eq_false (by omega)) ⟨_, rfl, iteT (iteT ⟨_, rfl, fun dx hn => r _ dx (same_new hn _) upd_same⟩)⟩
end
end K63
namespace K63
open PySem L2 Lib Fr Op
seal PE PT PW PA PS PSs PG PGs PI PO PIfs
section
variable {P : Program} {w : World} {K : PySem.W.Frag} {mg : Str → Option Value} {base : Heap} {ad : Adr} {c : Bool}
theorem mc_pieces_for (T : Txt K mg ad) : MC P w K mg base 1 ad.Shop "pieces_for" ["self", "name"] (spPieces K ad.Shop) := by
  refine T.ex.q_Shop_pieces_for.mc sc_Shop_pieces_for (fun _ _ _ _ _ _ => by2 fun _ _ => rfl) (fun vs H Q E h => ?_) (fun f cdv A outer s H vs Q E hr h => ?_)
  · obtain ⟨_, _, _, rfl, _⟩ := h; rfl
  obtain ⟨x, st, c, rfl, hsh, h4, q⟩ := h
  obtain ⟨a, dx, ls, ks, rfl, ha, hls, hks⟩ := hsh
  have hkl : ks.length = st.length := by have := hks.len; rw [List.length_map] at this; exact this
  refine ⟨_, (pss_one (ps_ret (pe_compX ["kind", "name"] [none, some 1] rfl (pi_list (pe_fldB (pv 0))) (fun _ _ _ _ _ _ => (pg_name (i := 0) (show List.Nodup [("kind" : Str), ("name" : Str)] by decide) rfl (by first | exact Or.inl rfl | exact Or.inr rfl))) (fun _ _ _ _ _ _ => (pifs_one (pt_cmpR op_eq (pe_ix (ix_tupK (K := K)) (pv 0) pe_int (fun _ _ => rfl)) (pv 1) (nomark _)))) (fun _ _ _ _ _ _ => (pe_tup (pa_name (pe_glob (v := .str "glass") rfl T.ex.m_GLASS ⟨_, rfl⟩) (pa_sub (pe_ix (ix_tupK (K := K)) (pv 0) pe_int (fun _ _ => rfl)) pa_nil)))) (cap_def (hcell := by decide) (hf := (show ∀ y : Str × NameKind, y ∈ _ → y.2 = NameKind.free → (defScope s_Shop_pieces_for).names.lookup y.1 = some NameKind.cell by decide))) (by decide) rfl (by decide) rfl (fun i j h => by
      rcases i with _ | _ | i
      · simp at h
      · simp at h; subst h; exact ⟨_, rfl, rfl, rfl, rfl⟩
      · simp at h)))), ?_⟩
  refine ⟨_, rfl, a, _, dx, _, _, rfl, ha, T.ex.l_Shop, T.ex.n_Shop_stock, rfl, ls, rfl, ⟨_, SqL.of hls⟩, ?_⟩
  refine comp_list (K := K) (a := ls) (xs := ks) (fun i σ ys H' => ∃ c0, σ = [c0, some (.str c)] ∧ Same H H' ∧ DVs K H' ys ((glassOf (st.take i) c).map pcD)) ⟨_, rfl, Same.refl _, .nil⟩ ?_ ?_ ?_
  · rintro i σ ys H' hi ⟨c0, rfl, s1, hys⟩
    refine ⟨?_, SqL.of (s1 _ _ hls)⟩
    have h1 := hys.len
    have h2 := glass_le (st.take i) c
    rw [List.length_map] at h1
    rw [List.length_take] at h2
    exact Nat.le_of_lt (small1000 (by omega))
  · rintro i z σ ys H' hi ⟨c0, rfl, s1, hys⟩
    obtain ⟨d, hd, hdx⟩ := hks.get hi
    rw [List.getElem?_map] at hd
    cases e : st[i]? with
    | none => rw [e] at hd; cases hd
    | some k =>
      rw [e] at hd
      cases hd
      obtain ⟨b, x1, x2, rfl, hb, g1, g2⟩ := DV.t2 (show DV K H' z (.tuple [.str k.1, frD k.2]) from hdx.keep s1)
      obtain rfl := DV.str_of g1
      have eg := glass_take (c := c) e
      refine ⟨_, rfl, b, _, _, _, rfl, rfl, hb, atI0, _, rfl, rfl, _, rfl, ?_⟩
      by_cases ek : k.1 = c
      · rw [if_pos (decide_eq_true ek)] at eg
        refine iteT' (by rw [decS]; exact decide_eq_true ek) ⟨_, rfl, b, _, _, _, rfl, rfl, hb, rfl, (by show 2 ≤ sizeLine; decide), fun p hp => nx (lt_of_get hi) ⟨_, rfl, s1.trans (same_new hp _), ?_⟩⟩
        rw [eg, List.map_append]
        exact (hys.keep (same_new hp _)).append (.cons (DV.upd2 hp (.str _) g2) .nil)
      · rw [if_neg (by rw [decide_eq_true_eq]; exact ek), List.append_nil] at eg
        refine iteF' (by rw [decS]; exact decide_eq_false ek) (nx (lt_of_get hi) ⟨_, rfl, s1, ?_⟩)
        rw [eg]
        exact hys
  · rintro σ ys H' p ⟨c0, rfl, s1, hys⟩ hp
    rw [hkl, List.take_length] at hys
    exact q p ys _ (s1.trans (same_new hp _)) (s1.free hp) upd_same (hys.keep (same_new hp _))
theorem mc_kinds (T : Txt K mg ad) : MC P w K mg base 1 ad.Shop "kinds" ["self"] (spShKinds K ad.Shop) := by
  refine T.ex.q_Shop_kinds.mc sc_Shop_kinds (fun _ _ _ _ _ _ => by1 fun _ => rfl) (fun vs H Q E h => ?_) (fun f cdv A outer s H vs Q E hr h => ?_)
  · obtain ⟨_, _, rfl, _⟩ := h; rfl
  obtain ⟨x, st, rfl, hsh, q⟩ := h
  obtain ⟨a, dx, ls, ks, rfl, ha, hls, hks⟩ := hsh
  refine ⟨_, (pss_one (ps_ret (pe_callTy call_list_of rfl T.list bt_list (pa_cons (pe_fldB (pv 0)) pa_nil)))), ?_⟩
  exact ⟨_, rfl, a, _, dx, _, _, rfl, ha, T.ex.l_Shop, T.ex.n_Shop_stock, rfl, ls, ks, rfl, .inl (SqL.of hls), fun p hp => q p ks _ (same_new hp _) hp upd_same (hks.keep (same_new hp _))⟩
theorem mc_bench_for (T : Txt K mg ad) : MC P w K mg base 4 ad.Shop "bench_for" ["self", "gaps", "choice"] (spBenchF K ad.Shop ad.NoBench) := by
  have C_look_at_gaps := c_look_at_gaps (P := P) (w := w) (base := base) T
  refine T.ex.q_Shop_bench_for.mcR sc_Shop_bench_for (fun _ _ _ _ _ _ => by3 fun _ _ _ => rfl) (fun vs H Q E h => ?_) (fun f cdv A outer s H vs Q E hr h => ?_)
  · obtain ⟨_, _, _, _, _, rfl, _⟩ := h; rfl
  obtain ⟨x, y, z, st, d, rfl, hsh, h4, hy, h⟩ := h
  refine ⟨_, (pss_cons (ps_expr (pe_cB C_look_at_gaps (hr.mono (by decide)) (passes1 bodyB) (pa_name (pv 1) pa_nil))) (pss_cons (ps_set (i := 3) sc_Shop_bench_for.nd rfl (Or.inl rfl) (pe_lst (pa_tuple (pe_tup (pa_name (pe_glob (v := .str "gap") rfl T.ex.m_GAP ⟨_, rfl⟩) (pa_sub (pe_ix ix_list (pv 1) pe_int (fun _ _ => rfl)) pa_nil))) pa_nil))) (pss_cons (ps_for PassesOwn.leaving rfl (pi_zipL rfl T.zip (pa_name (pv 2) (pa_sub (pe_slice sl_list (pv 1) (po_some pe_int) po_none) pa_nil))) (pg_tup (n := 2) rfl (pgs_cons (pg_name (i := 4) sc_Shop_bench_for.nd rfl (by first | exact Or.inl rfl | exact Or.inr rfl)) (pgs_cons (pg_name (i := 5) sc_Shop_bench_for.nd rfl (by first | exact Or.inl rfl | exact Or.inr rfl)) pgs_nil))) (pss_cons (ps_expr (pe_bm PySem.F.plainAttrs_list PySem.F.slot_list_extend PySem.F.type_list_extend mt_extend (pv 3) (pa_call (pe_mB (k := 1) (pv 0) (hr.mono (by decide)) (pa_name (pv 4) pa_nil)) pa_nil))) (pss_one (ps_expr (pe_bm PySem.F.plainAttrs_list PySem.F.slot_list_append PySem.F.type_list_append mt_append (pv 3) (pa_tuple (pe_tup (pa_name (pe_glob (v := .str "gap") rfl T.ex.m_GAP ⟨_, rfl⟩) (pa_name (pv 5) pa_nil))) pa_nil)))))) (pss_one (ps_ret (pv 3)))))), ?_⟩
  rcases h with ⟨no, r⟩ | ⟨g0, gs, cs, l, rfl, rfl, hl, ecs, hgs4, k⟩
  · exact ⟨_, rfl, y, d, rfl, hy, fun e => absurd (e.symm.trans no) (by decide), fun _ => r⟩
  · have gg : gapsB (.list ((g0 :: gs).map frD)) = true := by
      show ((decide (1 ≤ ((g0 :: gs).map frD).length) && decide (((g0 :: gs).map frD).length ≤ 5)) && ((g0 :: gs).map frD).all ratD) = true
      rw [List.length_map, List.length_cons, decide_eq_true (by omega), decide_eq_true (by omega), List.all_map, Bool.true_and, Bool.true_and, List.all_eq_true]
      exact fun q0 _ => ratD_fr q0
    refine ⟨_, rfl, y, _, rfl, hy, fun _ H1 s1 => ?_, fun e => absurd (e.symm.trans gg) (by decide)⟩
    obtain ⟨a, dx, ls, ks, rfl, ha, hls, hks⟩ := id hsh
    obtain ⟨b, gv, rfl, hb, hgv⟩ := (hy.keep s1).lst_of
    obtain ⟨gv0, gvs, rfl, hg0, hgvs⟩ := DVs.cons_of (show DVs K H1 gv (frD g0 :: gs.map frD) from hgv)
    have hgl : gvs.length = gs.length := by have := hgvs.len; rw [List.length_map] at this; exact this
    refine ⟨_, rfl, b, _, _, _, rfl, rfl, hb, atI0, (by show 2 ≤ sizeLine; decide), fun p1 hp1 => ?_⟩
    have u1 := same_new hp1 (.tup [.str "gap", gv0])
    have d1 : DV K (upd H1 p1 (.tup [.str "gap", gv0])) (.ref p1) (pcD (.gap g0)) := DV.upd2 hp1 (.str _) hg0
    generalize upd H1 p1 (.tup [.str "gap", gv0]) = H2 at u1 d1 ⊢
    refine ⟨(by show 1 ≤ sizeLine; decide), fun p hp => ?_⟩
    have u2 := same_new hp (.lst [.ref p1])
    have s02 := s1.trans u1
    have np : H p = none := s02.free hp
    have b2 : Bx K H2 p [.gap g0] (upd H2 p (.lst [.ref p1])) := ⟨u2, hp, [.ref p1], upd_same, .cons (d1.keep u2) .nil⟩
    have s12 := u1.trans u2
    have hb3 := hb.keep s12
    generalize upd H2 p (.lst [.ref p1]) = H3 at u2 b2 s12 hb3 ⊢
    have s23 := s02.trans u2
    refine ⟨_, rfl, _, rfl, _, rfl, b, _, rfl, hb3, fun q hq => ⟨l, q, rfl, ⟨_, (hl.keep s23).keep (same_new hq _)⟩, ⟨_, SqL.of upd_same⟩, ?_⟩⟩
    have u4 := same_new hq (.lst (cutV (gv0 :: gvs) (some 1) none))
    have m4 : upd H3 q (.lst (cutV (gv0 :: gvs) (some 1) none)) q = some (.lst gvs) := by rw [upd_same, show (1 : Int) = ((1 : Nat) : Int) from rfl, cut_drop]; rfl
    have b4 := b2.keep u4
    have nq : q ≠ p := by
      obtain ⟨xs, e, _⟩ := b2.ex
      exact fun z => by rw [z, e] at hq; cases hq
    generalize upd H3 q (.lst (cutV (gv0 :: gvs) (some 1) none)) = H4 at u4 m4 b4 ⊢
    have d0 : dueB st g0 (gs.take 0) (cs.take 0) = [.gap g0] := by unfold dueB; rw [List.take_zero, List.take_zero]; rfl
    refine for_zipL (K := K) (a := l) (b := q) (xs := cs.map V.str) (ys := gvs) (fun i σ H' => ∃ c4 c5, σ = [some (.ref a), some (.ref b), some (.ref l), some (.ref p), c4, c5] ∧ Bx K H2 p (dueB st g0 (gs.take i) (cs.take i)) H' ∧ H' q = some (.lst gvs)) (by rw [List.length_map]; omega) ⟨_, _, rfl, by rw [d0]; exact b4, m4⟩ ?_ ?_ ?_
    · rintro i σ H' hi ⟨c4, c5, rfl, bx, hq'⟩
      exact ⟨hl.keep (s02.trans bx.s), SqL.of hq'⟩
    · rintro i x y σ H' r hx hy ⟨c4, c5, rfl, bx, hq'⟩ hr
      rw [List.getElem?_map] at hx
      cases ec : cs[i]? with
      | none => rw [ec] at hx; cases hx
      | some c =>
        rw [ec] at hx
        cases hx
        obtain ⟨dg, hdg, hgx⟩ := hgvs.get hy
        rw [List.getElem?_map] at hdg
        cases eg : gs[i]? with
        | none => rw [eg] at hdg; cases hdg
        | some g =>
          rw [eg] at hdg
          cases hdg
          have hic := lt_of_get ec
          have u5 := same_new hr (.tup [.str c, y])
          have b5 := bx.keep u5
          have hq5 := u5 _ _ hq'
          refine ⟨r, _, rfl, SqT.of upd_same, rfl, _, _, rfl, _, _, rfl, rfl, ?_⟩
          generalize upd H' r (.tup [.str c, y]) = H5 at u5 b5 hq5 ⊢
          obtain ⟨xs, hp5, hxs⟩ := b5.ex
          have s05 := s02.trans b5.s
          have hxl : xs.length ≤ 100 := by
            have h1 := hxs.len
            rw [List.length_map] at h1
            have h2 := due_len st g0 (gs.take i) (cs.take i)
            rw [List.length_take] at h2
            have h3 : min i cs.length * (st.length + 1) ≤ 4 * 5 := Nat.mul_le_mul (by omega) (by omega)
            omega
          refine ⟨_, rfl, .inl ⟨rfl, _, SqL.of hp5⟩, _, rfl, a, _, dx, _, _, _, rfl, s05 _ _ ha, rfl, mc_pieces_for T, _, rfl, .ref a, st, c, rfl, hsh.keep s05, h4, fun m zs H6 s6 nm hm hzs => ?_⟩
          have hp6 := s6 _ _ hp5
          have hzl : zs.length ≤ 4 := by
            have h1 := hzs.len
            rw [List.length_map] at h1
            have h2 := glass_le st c
            omega
          refine ⟨p, m, xs, zs, rfl, rfl, hp6, hm, Nat.le_of_lt (small1000 (by omega)), ?_⟩
          have b7 := Bx.more (b5.s.trans s6) b5.n hp6 (hxs.keep s6) hzs
          have hq7 : upd H6 p (.lst (xs ++ zs)) q = some (.lst gvs) := by rw [upd_ne nq]; exact s6 _ _ hq5
          have hp7 : upd H6 p (.lst (xs ++ zs)) p = some (.lst (xs ++ zs)) := upd_same
          generalize upd H6 p (.lst (xs ++ zs)) = H7 at b7 hq7 hp7 ⊢
          refine ⟨_, rfl, .inl ⟨rfl, _, SqL.of hp7⟩, _, rfl, (by show 2 ≤ sizeLine; decide), fun t ht => ?_⟩
          have u8 := same_new ht (.tup [.str "gap", y])
          have hy7 : DV K H7 y (frD g) := hgx.keep ((u1.trans b7.s))
          have d8 : DV K (upd H7 t (.tup [.str "gap", y])) (.ref t) (pcD (.gap g)) := DV.upd2 ht (.str _) hy7
          have b8 := b7.keep u8
          have hq8 := u8 _ _ hq7
          have hp8 := u8 _ _ hp7
          generalize upd H7 t (.tup [.str "gap", y]) = H8 at u8 d8 b8 hq8 hp8 ⊢
          obtain ⟨xs8, e8, hxs8⟩ := b8.ex
          rw [hp8] at e8
          cases e8
          refine ⟨p, xs ++ zs, _, rfl, rfl, hp8, small1000 (by rw [List.length_append]; omega), ?_⟩
          have b9 := Bx.more (zs := [.ref t]) (qs := [.gap g]) b8.s b8.n hp8 hxs8 (.cons d8 .nil)
          refine ⟨_, _, rfl, ?_, by rw [upd_ne nq]; exact hq8⟩
          rw [due_succ st g0 ec eg]
          unfold stepB
          rw [← List.append_assoc]
          exact b9
    · rintro σ H' ⟨c4, c5, rfl, bx, hq'⟩
      obtain ⟨xs, e, hxs⟩ := bx.ex
      rw [List.length_map] at hxs
      rw [show cs.take cs.length = cs from List.take_length, ecs, show gs.take gs.length = gs from List.take_length] at hxs
      exact ⟨_, rfl, k p xs H' (s02.trans bx.s) np e hxs⟩
theorem kx_Shop (T : Txt K mg ad) : MkC P w K mg base 5 "Shop" ad.Shop ["self", "stock"] (spShopX K ad.NoStock) := by
  have C_is_stock := c_is_stock (P := P) (w := w) (base := base) T
  refine T.ex.i_Shop.mkcR sc_Shop_init (fun _ _ _ _ _ _ => by2 fun _ _ => rfl) (fun vs H Q E h => ?_) (fun f cdv A outer s H vs Q E hr h => ?_)
  · obtain ⟨_, _, _, rfl, _⟩ := h; rfl
  obtain ⟨a, y, d, rfl, hy, ok, bad, r⟩ := h
  refine ⟨_, (pss_cons (ps_if (pt_not (pt_val (pe_cB C_is_stock (hr.mono (by decide)) pass01 (pa_name (pv 1) pa_nil)))) (pss_one (ps_raise bodyB rfl T.ex.c_NoStock (pa_const pe_str pa_nil))) pss_nil) (pss_one (ps_fldB (pv 0) (pe_callTy call_list_of rfl T.list bt_list (pa_name (pv 1) pa_nil))))), ?_⟩
  refine ⟨_, rfl, y, _, rfl, hy, ok, fun H1 s1 => ⟨_, rfl, ?_⟩⟩
  rw [bad]
  exact iteT ⟨by decide, r _ s1⟩
end
end K63
namespace K63
open PySem L2 Lib Fr Op
seal PE PT PW PA PS PSs PG PGs PI PO PIfs
section
variable {P : Program} {w : World} {K : PySem.W.Frag} {mg : Str → Option Value} {base : Heap} {ad : Adr} {c : Bool}
theorem frD_of {q : Rat} {a : Int} {b : Nat} (h1 : q.num = a) (h2 : q.den = b) : frD q = .tuple [.int a, .int (b : Int)] := by
  subst h1 h2
  rfl
theorem f__law_mix (T : Txt K mg ad) : CalB P w K mg base true 1 "_law_mix" ["_law_cell", "_law_by"] spMixF := by
  refine T.t__law_mix.calN sc__law_mix (fun _ _ _ _ _ _ => by2 fun _ _ => rfl) (fun vs H Q E h => ?_) (fun f cdv A outer s H vs Q E hr h => ?_)
  · obtain ⟨_, _, rfl, _⟩ := h; rfl
  obtain ⟨z, b, rfl, b0, b1, q⟩ := h
  refine ⟨_, (pss_cons (ps_set (i := 2) sc__law_mix.nd rfl (Or.inl rfl) (pe_op op_mod (pe_op op_mul (pe_op op_add (pe_op op_mod (pv 0) pe_int) pe_int) (pv 1)) pe_int)) (pss_one (ps_ret (pe_op op_mod (pe_op op_mul (pv 2) (pv 2)) pe_int)))), ?_⟩
  have p32 : (2 : Int) ^ 32 = 4294967296 := by decide
  have p64 : (2 : Int) ^ 64 = 18446744073709551616 := by decide
  refine ⟨_, rfl, _, _, rfl, rfl, (by show (0 : Int) < 1000003; decide), _, _, rfl, rfl, _, rfl, _, _, rfl, rfl, .inr ⟨by omega, by omega⟩, _, _, rfl, rfl, (by show (0 : Int) < 2147483647; decide), ?_⟩
  have o0 : 0 ≤ (z % 1000003 + 7) * b % 2147483647 := Int.emod_nonneg _ (by decide)
  have o1 : (z % 1000003 + 7) * b % 2147483647 < 2147483647 := Int.emod_lt_of_pos _ (by decide)
  exact ⟨_, rfl, _, rfl, _, _, rfl, rfl, .inl ⟨by omega, by omega⟩, _, _, rfl, rfl, (by show (0 : Int) < 2147483629; decide), q⟩
theorem c__law_name (T : Txt K mg ad) : CalB P w K mg base true 2 "_law_name" ["_law_cell", "_law_k"] spNameS := by
  have C__law_mix := f__law_mix (P := P) (w := w) (base := base) T
  refine T.t__law_name.calN sc__law_name (fun _ _ _ _ _ _ => by2 fun _ _ => rfl) (fun vs H Q E h => ?_) (fun f cdv A outer s H vs Q E hr h => ?_)
  · obtain ⟨_, _, rfl, _⟩ := h; rfl
  obtain ⟨z, k, rfl, k0, k1, q⟩ := h
  refine ⟨_, (pss_cons (ps_set (i := 2) sc__law_name.nd rfl (by first | exact Or.inl rfl | exact Or.inr rfl) pe_str) (pss_cons (ps_set (i := 3) sc__law_name.nd rfl (Or.inl rfl) (pe_op op_add pe_int (pe_op op_mod (pe_op op_fdiv (pe_cB C__law_mix (hr.mono (by decide)) pass01 (pa_name (pv 0) (pa_const pe_int pa_nil))) pe_int) pe_int))) (pss_cons (ps_set (i := 4) sc__law_name.nd rfl (by first | exact Or.inl rfl | exact Or.inr rfl) (pe_op op_mod (pe_op op_fdiv (pe_cB C__law_mix (hr.mono (by decide)) pass01 (pa_name (pv 0) (pa_const pe_int pa_nil))) pe_int) (pv 3))) (pss_one (ps_ret (pe_bm PySem.F.plainAttrs_str PySem.F.slot_str_join PySem.F.type_str_join mt_join pe_str (pa_cons (pe_compX ["_law_j", "_law_letters", "_law_k", "_law_cell", "_law_at"] [none, some 2, some 1, some 0, some 4] rfl (pi_range1 rfl T.range (pa_name (pv 3) pa_nil)) (fun _ _ _ _ _ _ => (pg_name (i := 0) (show List.Nodup [("_law_j" : Str), ("_law_letters" : Str), ("_law_k" : Str), ("_law_cell" : Str), ("_law_at" : Str)] by decide) rfl (by first | exact Or.inl rfl | exact Or.inr rfl))) (fun _ _ _ _ _ _ => pifs_nil) (fun _ _ _ _ _ _ => (pe_item_str (pv 1) (pe_op op_mod (pe_op op_add (pe_op op_fdiv (pe_cB C__law_mix (hr.mono (by decide)) pass01 (pa_bin (pe_op op_add (pv 3) (pv 0)) (pa_const pe_int pa_nil))) pe_int) (pe_op op_mul (pv 2) (pe_callTy call_int1 rfl T.int bt_int (pa_cmp (pe_cmpR op_eq (pv 0) (pv 4) (nomark _)) pa_nil)))) pe_int) (fun _ _ => rfl))) (cap_def (hcell := by decide) (hf := (show ∀ y : Str × NameKind, y ∈ _ → y.2 = NameKind.free → (defScope s__law_name).names.lookup y.1 = some NameKind.cell by decide))) (by decide) rfl (by decide) rfl (fun i j h => by
      rcases i with _ | _ | _ | _ | _ | i
      · simp at h
      · simp at h; subst h; exact ⟨_, rfl, rfl, rfl, rfl⟩
      · simp at h; subst h; exact ⟨_, rfl, rfl, rfl, rfl⟩
      · simp at h; subst h; exact ⟨_, rfl, rfl, rfl, rfl⟩
      · simp at h; subst h; exact ⟨_, rfl, rfl, rfl, rfl⟩
      · simp at h)) pa_nil))))))), ?_⟩
  have sb := sizeN_b z
  have pb := placeN_b z
  refine ⟨_, rfl, z, 31541, rfl, by decide, by decide, _, _, rfl, rfl, ⟨by decide, by decide⟩, _, _, rfl, rfl, (by show (0 : Int) < 8; decide), _, _, rfl, rfl, ?_⟩
  refine ⟨_, rfl, z, 44621, rfl, by decide, by decide, _, _, rfl, rfl, ⟨by decide, by decide⟩, _, rfl, _, _, rfl, rfl, (by show (0 : Int) < sizeN z; omega), ?_⟩
  refine ⟨rfl, _, rfl, _, rfl, (by show -(2 ^ 62) ≤ sizeN z; omega), (by show sizeN z < 2 ^ 62; omega), ?_⟩
  refine comp_range0 (lo := 0) (n := (sizeN z).toNat) (fun i σ ys H' => ∃ c0, σ = [c0, some (.str letS), some (.int k), some (.int z), some (.int (placeN z))] ∧ ys = ((nameCs z k i).map fun c => (⟨#[c]⟩ : Str)).map V.str ∧ H' = H) ⟨_, rfl, rfl, rfl⟩ ?_ ?_ ?_
  · rintro i σ ys H' hi ⟨c0, rfl, rfl, rfl⟩
    unfold nameCs
    rw [List.length_map, List.length_map, List.length_map, List.length_range]
    exact Nat.le_of_lt (small1000 (by omega))
  · rintro i σ ys H' hi ⟨c0, rfl, rfl, rfl⟩
    have lb := letN_b z k i
    have c1 : -(2 ^ 64) < k ∧ k < 2 ^ 64 := by
      have p64 : (2 : Int) ^ 64 = 18446744073709551616 := by decide
      omega
    refine ⟨_, rfl, _, rfl, _, rfl, _, _, rfl, rfl, _, 52501, rfl, by decide, by decide, _, _, rfl, rfl, ⟨by decide, by decide⟩, _, rfl, _, rfl, _, rfl, rfl, .inr ⟨_, rfl, _, _, rfl, rfl, .inl c1, _, _, rfl, rfl, _, _, rfl, rfl, (by show (0 : Int) < 26; decide), ?_⟩⟩
    have hlt : (letN z k i).toNat < 26 := by omega
    have p63 : (2 : Int) ^ 63 = 9223372036854775808 := by decide
    refine ⟨letS, letN z k i, 97 + (letN z k i).toNat, rfl, rfl, lb.1, (by omega), (by rw [letS_len]; omega), letS_get _ hlt, nx hi ⟨_, rfl, ?_, rfl⟩⟩
    unfold nameCs
    rw [List.range_succ, List.map_append, List.map_append, List.map_append]
    rfl
  · rintro σ ys H' p ⟨c0, rfl, rfl, rfl⟩ hp
    have u := same_new hp (.lst (((nameCs z k (sizeN z).toNat).map fun c => (⟨#[c]⟩ : Str)).map V.str))
    have jo : JoinOk (PySem.Str.ofString "") ((nameCs z k (sizeN z).toNat).map fun c => (⟨#[c]⟩ : Str)) = true := by
      refine PyProof.Rows.joinOk_of_weight ?_ (by decide +kernel)
      rw [List.map_map, List.length_map]
      have e1 : (nameCs z k (sizeN z).toNat).length = (sizeN z).toNat := by unfold nameCs; rw [List.length_map, List.length_range]
      have e2 : ((nameCs z k (sizeN z).toNat).map ((fun x : Str => x.length) ∘ fun c => (⟨#[c]⟩ : Str))).sum = (nameCs z k (sizeN z).toNat).length := by
        rw [show ((fun x : Str => x.length) ∘ fun c : Nat => (⟨#[c]⟩ : Str)) = fun _ => 1 from rfl]
        generalize nameCs z k (sizeN z).toNat = L
        induction L with
        | nil => rfl
        | cons a L ih => rw [List.map_cons, List.sum_cons, List.length_cons, ih, Nat.add_comm]
      rw [e2, e1]
      omega
    refine ⟨_, p, _, rfl, rfl, upd_same, jo, ?_⟩
    rw [joinT_one]
    exact q _ u
theorem c__law_stock (T : Txt K mg ad) : CalB P w K mg base true 3 "_law_stock" ["_law_cell"] (spLStock K 4) := by
  have C__law_ratio := c__law_ratio (P := P) (w := w) (base := base) T
  have C__law_name := c__law_name (P := P) (w := w) (base := base) T
  have C__law_mix := f__law_mix (P := P) (w := w) (base := base) T
  refine T.t__law_stock.calN sc__law_stock (fun _ _ _ _ _ _ => by1 fun _ => rfl) (fun vs H Q E h => ?_) (fun f cdv A outer s H vs Q E hr h => ?_)
  · obtain ⟨_, rfl, _⟩ := h; rfl
  obtain ⟨z, rfl, q⟩ := h
  refine ⟨_, (pss_cons (ps_set (i := 1) sc__law_stock.nd rfl (Or.inl rfl) (pe_lst pa_nil)) (pss_cons (ps_for PassesOwn.never rfl (pi_range1 rfl T.range (pa_bin (pe_op op_add pe_int (pe_op op_mod (pe_op op_fdiv (pe_cB C__law_mix (hr.mono (by decide)) pass01 (pa_name (pv 0) (pa_const pe_int pa_nil))) pe_int) pe_int)) pa_nil)) (pg_name (i := 2) sc__law_stock.nd rfl (by first | exact Or.inl rfl | exact Or.inr rfl)) (pss_cons (ps_set (i := 3) sc__law_stock.nd rfl (Or.inl rfl) (pe_cB C__law_ratio (hr.mono (by decide)) pass01 (pa_bin (pe_op op_add (pv 0) (pe_op op_mul pe_int (pv 2))) (pa_const pe_int pa_nil)))) (pss_cons (ps_if (pt_cmpR op_eq (pe_ix ix_tup (pv 3) pe_int (fun _ _ => rfl)) pe_int (nomark _)) (pss_one (ps_set (i := 3) sc__law_stock.nd rfl (Or.inl rfl) (pe_tup (pa_un (pe_un un_neg pe_int) (pa_const pe_int pa_nil))))) pss_nil) (pss_one (ps_expr (pe_bm PySem.F.plainAttrs_list PySem.F.slot_list_append PySem.F.type_list_append mt_append (pv 1) (pa_tuple (pe_tup (pa_call (pe_cB C__law_name (hr.mono (by decide)) pass01 (pa_name (pv 0) (pa_name (pv 2) pa_nil))) (pa_name (pv 3) pa_nil))) pa_nil))))))) (pss_one (ps_ret (pv 1))))), ?_⟩
  refine ⟨(by show 0 ≤ sizeLine; decide), fun l hl => ?_⟩
  have u0 := same_new hl (.lst [])
  have l0 : upd H l (.lst []) l = some (.lst []) := upd_same
  generalize upd H l (.lst []) = H1 at u0 l0 ⊢
  have m0 := mixF_0 z 48271
  refine ⟨_, rfl, z, 48271, rfl, by decide, by decide, _, _, rfl, rfl, ⟨by decide, by decide⟩, _, _, rfl, rfl, (by show (0 : Int) < 4; decide), _, _, rfl, rfl, _, rfl, by omega, by omega, ?_⟩
  have n4 : (1 + mixF z 48271 / 64 % 4).toNat ≤ 4 := by omega
  have n1 : 1 ≤ (1 + mixF z 48271 / 64 % 4).toNat := by omega
  refine for_range (lo := 0) (n := (1 + mixF z 48271 / 64 % 4).toNat) (fun i σ H' => ∃ c2 c3 ks st, σ = [some (.int z), some (.ref l), c2, c3] ∧ Same H H' ∧ H' l = some (.lst ks) ∧ DVs K H' ks (st.map kindD) ∧ LStock z st ∧ st.length = i) ⟨_, _, [], [], rfl, u0, l0, .nil, LStock.nil z, rfl⟩ ?_ ?_
  · rintro i σ H' hi ⟨c2, c3, ks, st, rfl, s1, hl1, hks, ls, len⟩
    have kl : ks.length = st.length := by have := hks.len; rw [List.length_map] at this; exact this
    refine ⟨_, rfl, _, rfl, _, _, rfl, rfl, .inl ⟨by decide, by decide⟩, _, _, rfl, rfl, _, 69623, rfl, by decide, by decide, fun v H2 q0 s2 hv bq => ?_⟩
    obtain ⟨b, x1, x2, rfl, hb, g1, g2⟩ := DV.t2 hv
    obtain rfl := DV.int_of g1
    refine ⟨_, rfl, b, _, _, _, rfl, rfl, hb, rfl, rfl, _, rfl, ?_⟩
    have s02 := s1.trans s2
    -- the row behind: the kind is put at the end
    have last : ∀ (v : V) (H3 : Hp) (q0 : Rat) (D : Ends), Same H H3 → H3 l = some (.lst ks) → DVs K H3 ks (st.map kindD) → DV K H3 v (frD q0) → q0 ≠ 0 → Bd 7 q0 →
        (∀ H4, (∃ c2 c3 ks st, ([some (.int z), some (.ref l), some (.int (0 + (i : Int))), some v] : St) = [some (.int z), some (.ref l), c2, c3] ∧ Same H H4 ∧ H4 l = some (.lst ks) ∧ DVs K H4 ks (st.map kindD) ∧ LStock z st ∧ st.length = i + 1) → D.nx [some (.int z), some (.ref l), some (.int (0 + (i : Int))), some v] H4) →
        ∀ p5 H5, Same H3 H5 → H3 p5 = none → H5 = upd H3 p5 (.tup [.str (nameS z (0 + (i : Int))), v]) → D.nx [some (.int z), some (.ref l), some (.int (0 + (i : Int))), some v] (upd H5 l (.lst (ks ++ [.ref p5]))) := by
      intro v H3 q0 D s3 hl3 hks3 hv nz bq q p5 H5 s5 hp5 e5
      subst e5
      have d5 : DV K (upd H3 p5 (.tup [.str (nameS z (0 + (i : Int))), v])) (.ref p5) (kindD (nameS z (st.length : Int), q0)) := by
        have en : ((st.length : Nat) : Int) = 0 + (i : Int) := by omega
        rw [en]
        exact DV.upd2 hp5 (.str _) hv
      have hl5 := s5 _ _ hl3
      have uT := sameT_upd hl5 (.lst (ks ++ [.ref p5]))
      refine q _ ⟨_, _, ks ++ [.ref p5], st ++ [(nameS z (st.length : Int), q0)], rfl, ?_, upd_same, ?_, ls.push nz bq, by rw [List.length_append, len]; rfl⟩
      · intro b o e
        rw [upd_ne (ne_of_none e hl)]
        exact (s3.trans s5) _ _ e
      · rw [List.map_append]
        exact dvs_keepT uT (by rw [← List.map_append]; exact noLs_map (fun _ => rfl) _) ((hks3.keep s5).append (.cons d5 .nil))
    by_cases hz : q0 = 0
    · refine iteT' (by rw [decI]; exact decide_eq_true (by rw [hz]; rfl)) ⟨_, rfl, (by show 2 ≤ sizeLine; decide), fun p4 hp4 => ?_⟩
      have u4 := same_new hp4 (.tup [.int (-2), .int 3])
      have d4 : DV K (upd H2 p4 (.tup [.int (-2), .int 3])) (.ref p4) (frD (-2 / 3)) := by
        have e : frD (-2 / 3) = .tuple [.int (-2), .int 3] := frD_of (b := 3) (by decide +kernel) (by decide +kernel)
        rw [e]
        exact .tup (SqT.of upd_same) (.cons (.int _) (.cons (.int _) .nil))
      have s04 := s02.trans u4
      have hl4 := (s2.trans u4) _ _ hl1
      have hk4 := hks.keep (s2.trans u4)
      generalize upd H2 p4 (.tup [.int (-2), .int 3]) = H4 at u4 d4 s04 hl4 hk4 ⊢
      refine ⟨_, rfl, .inl ⟨rfl, _, SqL.of hl4⟩, _, rfl, _, rfl, z, _, rfl, by omega, by omega, fun H5 s5 => ⟨_, rfl, (by show 2 ≤ sizeLine; decide), fun p6 hp6 => ?_⟩⟩
      refine ⟨l, ks, _, rfl, rfl, (s5.trans (same_new hp6 _)) _ _ hl4, small1000 (by omega), ?_⟩
      exact last _ H5 (-2 / 3) _ (s04.trans s5) (s5 _ _ hl4) (hk4.keep s5) (d4.keep s5) (by decide +kernel) ⟨by decide +kernel, by decide +kernel⟩ (fun H6 h => h) p6 _ (same_new hp6 _) hp6 rfl
    · refine iteF' (by rw [decI]; exact decide_eq_false (fun e => hz (Rat.num_eq_zero.mp e))) ?_
      have hl2 := s2 _ _ hl1
      refine ⟨_, rfl, .inl ⟨rfl, _, SqL.of hl2⟩, _, rfl, _, rfl, z, _, rfl, by omega, by omega, fun H5 s5 => ⟨_, rfl, (by show 2 ≤ sizeLine; decide), fun p6 hp6 => ?_⟩⟩
      refine ⟨l, ks, _, rfl, rfl, (s5.trans (same_new hp6 _)) _ _ hl2, small1000 (by omega), ?_⟩
      exact last _ H5 q0 _ (s02.trans s5) (s5 _ _ hl2) ((hks.keep s2).keep s5) (hv.keep s5) hz bq (fun H6 h => h) p6 _ (same_new hp6 _) hp6 rfl
  · rintro σ H' ⟨c2, c3, ks, st, rfl, s1, hl1, hks, ls, len⟩
    exact ⟨_, rfl, q l ks st H' s1 hl hl1 hks ls (by omega) (by omega)⟩
end
end K63
namespace K63
open PySem L2 Lib Fr Op
seal PE PT PW PA PS PSs PG PGs PI PO PIfs
section
variable {P : Program} {w : World} {K : PySem.W.Frag} {mg : Str → Option Value} {base : Heap} {ad : Adr} {c : Bool}
theorem kind_name {a b : PyData} (h : nameD a = false) : kindB (.tuple [a, b]) = false := by
  show (nameD a && _) = false
  rw [h, Bool.false_and]
theorem c__law_bad (T : Txt K mg ad) : CalB P w K mg base true 2 "_law_bad" ["_law_stock_here", "_law_cell"] (spBadS K) := by
  have C__law_mix := c__law_mix (P := P) (w := w) (base := base) T
  refine T.t__law_bad.calN sc__law_bad (fun _ _ _ _ _ _ => by2 fun _ _ => rfl) (fun vs H Q E h => ?_) (fun f cdv A outer s H0 vs Q E hr h => ?_)
  · obtain ⟨_, _, _, _, _, rfl, _⟩ := h; rfl
  obtain ⟨l, ks, st, z, cc, rfl, hl, hks, ls, n1, n4, q⟩ := h
  have hkl : ks.length = st.length := by have := hks.len; rw [List.length_map] at this; exact this
  refine ⟨_, (pss_cons (ps_set (i := 2) sc__law_bad.nd rfl (by first | exact Or.inl rfl | exact Or.inr rfl) (pe_op op_mod (pe_op op_fdiv (pe_cB C__law_mix (hr.mono (by decide)) pass01 (pa_name (pv 1) (pa_const pe_int pa_nil))) pe_int) (pe_callB call_len_seq rfl T.len bt_len (pa_name (pv 0) pa_nil)))) (pss_cons (ps_asg (pe_ix ix_list (pv 0) (pv 2) (fun _ _ => rfl)) (pg_tup (n := 2) rfl (pgs_cons (pg_name (i := 3) sc__law_bad.nd rfl (by first | exact Or.inl rfl | exact Or.inr rfl)) (pgs_cons (pg_name (i := 4) sc__law_bad.nd rfl (by first | exact Or.inl rfl | exact Or.inr rfl)) pgs_nil)))) (pss_cons (ps_set (i := 5) sc__law_bad.nd rfl (Or.inl rfl) (pe_lst (pa_tuple (pe_tup (pa_name (pv 3) (pa_tuple (pe_tup (pa_const pe_int (pa_const pe_int pa_nil))) pa_nil))) (pa_tuple (pe_tup (pa_const pe_str (pa_name (pv 4) pa_nil))) (pa_tuple (pe_tup (pa_bin (pe_op op_add_str (pv 3) pe_str) (pa_name (pv 4) pa_nil))) (pa_tuple (pe_tup (pa_const pe_str (pa_name (pv 4) pa_nil))) (pa_tuple (pe_tup (pa_name (pv 3) (pa_const pe_int pa_nil))) pa_nil))))))) (pss_cons (ps_set (i := 5) sc__law_bad.nd rfl (Or.inl rfl) (pe_op op_cat (pv 5) (pe_lst (pa_list (pe_lst (pa_name (pv 3) (pa_name (pv 4) pa_nil))) (pa_tuple (pe_tup (pa_name (pv 3) (pa_tuple (pe_tup (pa_const pe_int (pa_const pe_int pa_nil))) pa_nil))) (pa_tuple (pe_tup (pa_name (pv 3) pa_nil)) (pa_tuple (pe_tup (pa_const pe_int (pa_name (pv 4) pa_nil))) (pa_tuple (pe_tup (pa_name (pv 3) (pa_name (pv 4) (pa_name (pv 4) pa_nil)))) (pa_const pe_non pa_nil))))))))) (pss_cons (ps_set (i := 5) sc__law_bad.nd rfl (Or.inl rfl) (pe_op op_cat (pv 5) (pe_lst (pa_tuple (pe_tup (pa_bin (pe_op op_add_str (pv 3) pe_str) (pa_name (pv 4) pa_nil))) pa_nil)))) (pss_cons (ps_set (i := 6) sc__law_bad.nd rfl (Or.inl rfl) (pe_op op_mod (pe_op op_fdiv (pe_cB C__law_mix (hr.mono (by decide)) pass01 (pa_name (pv 1) (pa_const pe_int pa_nil))) pe_int) pe_int)) (pss_cons (ps_if (pt_cmpR op_eq (pv 6) pe_int (nomark _)) (pss_one (ps_ret (pe_op op_cat (pv 0) (pe_lst (pa_tuple (pe_tup (pa_name (pv 3) (pa_tuple (pe_tup (pa_const pe_int (pa_const pe_int pa_nil))) pa_nil))) pa_nil))))) pss_nil) (pss_cons (ps_if (pt_cmpR op_eq (pv 6) pe_int (nomark _)) (pss_one (ps_ret (pe_ix ix_list (pe_lst (pa_list (pe_lst pa_nil) (pa_const pe_non (pa_call (pe_callTy call_tuple_of rfl T.tuple bt_tuple (pa_name (pv 0) pa_nil)) (pa_const pe_str (pa_dict pe_dnew (pa_bin (pe_op op_rep (pv 0) pe_int) pa_nil))))))) (pe_op op_mod (pe_op op_fdiv (pe_cB C__law_mix (hr.mono (by decide)) pass01 (pa_name (pv 1) (pa_const pe_int pa_nil))) pe_int) pe_int) (fun _ _ => rfl)))) pss_nil) (pss_one (ps_ret (pe_op op_cat (pe_op op_cat (pe_slice sl_list (pv 0) po_none (po_some (pv 2))) (pe_lst (pa_sub (pe_ix ix_list (pv 5) (pv 6) (fun _ _ => rfl)) pa_nil))) (pe_slice sl_list (pv 0) (po_some (pe_op op_add (pv 2) pe_int)) po_none)))))))))))), ?_⟩
  refine ⟨_, rfl, cc, 55051, rfl, by decide, by decide, fun x x0 x1 => ⟨_, _, rfl, rfl, ⟨by decide, by decide⟩, _, rfl, l, _, rfl, .inl (SqL.of hl), _, _, rfl, rfl, (by show (0 : Int) < ((ks.length : Nat) : Int); omega), ?_⟩⟩
  have a0 : 0 ≤ x / 64 % ((ks.length : Nat) : Int) := Int.emod_nonneg _ (by omega)
  have a1 : x / 64 % ((ks.length : Nat) : Int) < ((ks.length : Nat) : Int) := Int.emod_lt_of_pos _ (by omega)
  obtain ⟨i, hi⟩ := Int.eq_ofNat_of_zero_le a0
  dsimp only
  rw [hi] at a1 ⊢
  have il : i < st.length := by omega
  have ek : st[i]? = some st[i] := List.getElem?_eq_getElem il
  obtain ⟨xk, hxk⟩ : ∃ xk, ks[i]? = some xk := ⟨_, List.getElem?_eq_getElem (by omega)⟩
  obtain ⟨d, hd, hdx⟩ := hks.get hxk
  rw [List.getElem?_map, ek] at hd
  cases hd
  obtain ⟨bt, y1, sv, rfl, hbt, g1, hsv⟩ := DV.t2 (show DV K H0 xk (.tuple [.str (st[i]).1, frD (st[i]).2]) from hdx)
  obtain rfl := DV.str_of g1
  refine ⟨_, rfl, _, rfl, l, _, _, _, rfl, rfl, SqL.of hl, atI_nat hxk, bt, _, rfl, hbt, rfl, _, _, rfl, _, _, rfl, rfl, ?_⟩
  have nmi := ls.nm i _ ek
  have nb : nameB (st[i]).1 = true := by rw [nmi]; exact nameB_S _ _
  have nl := nameB_le nb
  have nl1 : 1 ≤ (st[i]).1.length := by rw [nmi, nameS_len]; have := sizeN_b z; omega
  have snz : (st[i]).2 ≠ 0 := ls.nz _ (List.mem_of_getElem? ek)
  generalize esq : (st[i]).2 = sq at hsv snz ⊢
  generalize enm : (st[i]).1 = nm at nb nl nl1 hbt g1 ⊢
  have q8 : (PySem.Str.ofString "abcdefgh").length = 8 := by decide +kernel
  have q1 : (PySem.Str.ofString " ").length = 1 := by decide +kernel
  have zl8 : nm.length + (PySem.Str.ofString "abcdefgh").length ≤ sizeLine := Nat.le_of_lt (small1000 (by omega))
  have zl1 : nm.length + (PySem.Str.ofString " ").length ≤ sizeLine := Nat.le_of_lt (small1000 (by omega))
  refine ⟨_, rfl, (by show 2 ≤ sizeLine; decide), fun p1 hp1 => ?_⟩
  have u1 := same_new hp1 (.tup [.int 0, .int 1])
  have d1 : DV K (upd H0 p1 (.tup [.int 0, .int 1])) (.ref p1) (.tuple [.int 0, .int 1]) := .tup (SqT.of upd_same) (.cons (.int _) (.cons (.int _) .nil))
  generalize upd H0 p1 (.tup [.int 0, .int 1]) = H1 at u1 d1 ⊢
  refine ⟨(by show 2 ≤ sizeLine; decide), fun p2 hp2 => ?_⟩
  have u2 := same_new hp2 (.tup [.str nm, .ref p1])
  have d2 : DV K (upd H1 p2 (.tup [.str nm, .ref p1])) (.ref p2) (.tuple [.str nm, .tuple [.int 0, .int 1]]) := .tup (SqT.of upd_same) (.cons (.str _) (.cons (d1.keep (u2)) .nil))
  generalize upd H1 p2 (.tup [.str nm, .ref p1]) = H2 at u2 d2 ⊢
  refine ⟨_, rfl, (by show 2 ≤ sizeLine; decide), fun p3 hp3 => ?_⟩
  have u3 := same_new hp3 (.tup [.str "", sv])
  have d3 : DV K (upd H2 p3 (.tup [.str "", sv])) (.ref p3) (.tuple [.str "", frD sq]) := .tup (SqT.of upd_same) (.cons (.str _) (.cons (hsv.keep (u1.trans (u2.trans (u3)))) .nil))
  generalize upd H2 p3 (.tup [.str "", sv]) = H3 at u3 d3 ⊢
  refine ⟨_, rfl, _, _, rfl, rfl, zl8, _, rfl, (by show 2 ≤ sizeLine; decide), fun p4 hp4 => ?_⟩
  have u4 := same_new hp4 (.tup [.str (nm ++ PySem.Str.ofString "abcdefgh"), sv])
  have d4 : DV K (upd H3 p4 (.tup [.str (nm ++ PySem.Str.ofString "abcdefgh"), sv])) (.ref p4) (.tuple [.str (nm ++ PySem.Str.ofString "abcdefgh"), frD sq]) := .tup (SqT.of upd_same) (.cons (.str _) (.cons (hsv.keep (u1.trans (u2.trans (u3.trans (u4))))) .nil))
  generalize upd H3 p4 (.tup [.str (nm ++ PySem.Str.ofString "abcdefgh"), sv]) = H4 at u4 d4 ⊢
  refine ⟨_, rfl, (by show 2 ≤ sizeLine; decide), fun p5 hp5 => ?_⟩
  have u5 := same_new hp5 (.tup [.str "Flint", sv])
  have d5 : DV K (upd H4 p5 (.tup [.str "Flint", sv])) (.ref p5) (.tuple [.str "Flint", frD sq]) := .tup (SqT.of upd_same) (.cons (.str _) (.cons (hsv.keep (u1.trans (u2.trans (u3.trans (u4.trans (u5)))))) .nil))
  generalize upd H4 p5 (.tup [.str "Flint", sv]) = H5 at u5 d5 ⊢
  refine ⟨_, rfl, (by show 2 ≤ sizeLine; decide), fun p6 hp6 => ?_⟩
  have u6 := same_new hp6 (.tup [.str nm, .int 2])
  have d6 : DV K (upd H5 p6 (.tup [.str nm, .int 2])) (.ref p6) (.tuple [.str nm, .int 2]) := .tup (SqT.of upd_same) (.cons (.str _) (.cons (.int _) .nil))
  generalize upd H5 p6 (.tup [.str nm, .int 2]) = H6 at u6 d6 ⊢
  refine ⟨(by show 5 ≤ sizeLine; decide), fun p7 hp7 => ?_⟩
  have u7 := same_new hp7 (.lst [.ref p2, .ref p3, .ref p4, .ref p5, .ref p6])
  have d7 : DV K (upd H6 p7 (.lst [.ref p2, .ref p3, .ref p4, .ref p5, .ref p6])) (.ref p7) (.list [.tuple [.str nm, .tuple [.int 0, .int 1]], .tuple [.str "", frD sq], .tuple [.str (nm ++ PySem.Str.ofString "abcdefgh"), frD sq], .tuple [.str "Flint", frD sq], .tuple [.str nm, .int 2]]) := .lst (SqL.of upd_same) (.cons (d2.keep (u3.trans (u4.trans (u5.trans (u6.trans (u7)))))) (.cons (d3.keep (u4.trans (u5.trans (u6.trans (u7))))) (.cons (d4.keep (u5.trans (u6.trans (u7)))) (.cons (d5.keep (u6.trans (u7))) (.cons (d6.keep (u7)) .nil)))))
  have l7 : (upd H6 p7 (.lst [.ref p2, .ref p3, .ref p4, .ref p5, .ref p6])) p7 = some (.lst [.ref p2, .ref p3, .ref p4, .ref p5, .ref p6]) := upd_same
  generalize upd H6 p7 (.lst [.ref p2, .ref p3, .ref p4, .ref p5, .ref p6]) = H7 at u7 d7 l7 ⊢
  refine ⟨_, rfl, _, rfl, _, rfl, (by show 2 ≤ sizeLine; decide), fun p8 hp8 => ?_⟩
  have u8 := same_new hp8 (.lst [.str nm, sv])
  have d8 : DV K (upd H7 p8 (.lst [.str nm, sv])) (.ref p8) (.list [.str nm, frD sq]) := .lst (SqL.of upd_same) (.cons (.str _) (.cons (hsv.keep (u1.trans (u2.trans (u3.trans (u4.trans (u5.trans (u6.trans (u7.trans (u8))))))))) .nil))
  have l8 : (upd H7 p8 (.lst [.str nm, sv])) p8 = some (.lst [.str nm, sv]) := upd_same
  generalize upd H7 p8 (.lst [.str nm, sv]) = H8 at u8 d8 l8 ⊢
  refine ⟨_, rfl, (by show 2 ≤ sizeLine; decide), fun p9 hp9 => ?_⟩
  have u9 := same_new hp9 (.tup [.int 2, .int 4])
  have d9 : DV K (upd H8 p9 (.tup [.int 2, .int 4])) (.ref p9) (.tuple [.int 2, .int 4]) := .tup (SqT.of upd_same) (.cons (.int _) (.cons (.int _) .nil))
  generalize upd H8 p9 (.tup [.int 2, .int 4]) = H9 at u9 d9 ⊢
  refine ⟨(by show 2 ≤ sizeLine; decide), fun p10 hp10 => ?_⟩
  have u10 := same_new hp10 (.tup [.str nm, .ref p9])
  have d10 : DV K (upd H9 p10 (.tup [.str nm, .ref p9])) (.ref p10) (.tuple [.str nm, .tuple [.int 2, .int 4]]) := .tup (SqT.of upd_same) (.cons (.str _) (.cons (d9.keep (u10)) .nil))
  generalize upd H9 p10 (.tup [.str nm, .ref p9]) = H10 at u10 d10 ⊢
  refine ⟨_, rfl, (by show 1 ≤ sizeLine; decide), fun p11 hp11 => ?_⟩
  have u11 := same_new hp11 (.tup [.str nm])
  have d11 : DV K (upd H10 p11 (.tup [.str nm])) (.ref p11) (.tuple [.str nm]) := .tup (SqT.of upd_same) (.cons (.str _) .nil)
  generalize upd H10 p11 (.tup [.str nm]) = H11 at u11 d11 ⊢
  refine ⟨_, rfl, (by show 2 ≤ sizeLine; decide), fun p12 hp12 => ?_⟩
  have u12 := same_new hp12 (.tup [.int 7, sv])
  have d12 : DV K (upd H11 p12 (.tup [.int 7, sv])) (.ref p12) (.tuple [.int 7, frD sq]) := .tup (SqT.of upd_same) (.cons (.int _) (.cons (hsv.keep (u1.trans (u2.trans (u3.trans (u4.trans (u5.trans (u6.trans (u7.trans (u8.trans (u9.trans (u10.trans (u11.trans (u12))))))))))))) .nil))
  generalize upd H11 p12 (.tup [.int 7, sv]) = H12 at u12 d12 ⊢
  refine ⟨_, rfl, _, rfl, _, rfl, (by show 3 ≤ sizeLine; decide), fun p13 hp13 => ?_⟩
  have u13 := same_new hp13 (.tup [.str nm, sv, sv])
  have d13 : DV K (upd H12 p13 (.tup [.str nm, sv, sv])) (.ref p13) (.tuple [.str nm, frD sq, frD sq]) := .tup (SqT.of upd_same) (.cons (.str _) (.cons (hsv.keep (u1.trans (u2.trans (u3.trans (u4.trans (u5.trans (u6.trans (u7.trans (u8.trans (u9.trans (u10.trans (u11.trans (u12.trans (u13)))))))))))))) (.cons (hsv.keep (u1.trans (u2.trans (u3.trans (u4.trans (u5.trans (u6.trans (u7.trans (u8.trans (u9.trans (u10.trans (u11.trans (u12.trans (u13)))))))))))))) .nil)))
  generalize upd H12 p13 (.tup [.str nm, sv, sv]) = H13 at u13 d13 ⊢
  refine ⟨(by show 6 ≤ sizeLine; decide), fun p14 hp14 => ?_⟩
  have u14 := same_new hp14 (.lst [.ref p8, .ref p10, .ref p11, .ref p12, .ref p13, .non])
  have d14 : DV K (upd H13 p14 (.lst [.ref p8, .ref p10, .ref p11, .ref p12, .ref p13, .non])) (.ref p14) (.list [.list [.str nm, frD sq], .tuple [.str nm, .tuple [.int 2, .int 4]], .tuple [.str nm], .tuple [.int 7, frD sq], .tuple [.str nm, frD sq, frD sq], .none]) := .lst (SqL.of upd_same) (.cons (d8.keep (u9.trans (u10.trans (u11.trans (u12.trans (u13.trans (u14))))))) (.cons (d10.keep (u11.trans (u12.trans (u13.trans (u14))))) (.cons (d11.keep (u12.trans (u13.trans (u14)))) (.cons (d12.keep (u13.trans (u14))) (.cons (d13.keep (u14)) (.cons .non .nil))))))
  have l14 : (upd H13 p14 (.lst [.ref p8, .ref p10, .ref p11, .ref p12, .ref p13, .non])) p14 = some (.lst [.ref p8, .ref p10, .ref p11, .ref p12, .ref p13, .non]) := upd_same
  generalize upd H13 p14 (.lst [.ref p8, .ref p10, .ref p11, .ref p12, .ref p13, .non]) = H14 at u14 d14 l14 ⊢
  refine ⟨p7, p14, _, _, rfl, rfl, (u8.trans (u9.trans (u10.trans (u11.trans (u12.trans (u13.trans (u14))))))) _ _ l7, (Same.refl _) _ _ l14, (by show 11 ≤ sizeLine; decide), fun p15 hp15 => ?_⟩
  have u15 := same_new hp15 (.lst ([(.ref p2 : V), .ref p3, .ref p4, .ref p5, .ref p6] ++ [(.ref p8 : V), .ref p10, .ref p11, .ref p12, .ref p13, .non]))
  have l15 : (upd H14 p15 (.lst ([(.ref p2 : V), .ref p3, .ref p4, .ref p5, .ref p6] ++ [(.ref p8 : V), .ref p10, .ref p11, .ref p12, .ref p13, .non]))) p15 = some (.lst ([(.ref p2 : V), .ref p3, .ref p4, .ref p5, .ref p6] ++ [(.ref p8 : V), .ref p10, .ref p11, .ref p12, .ref p13, .non])) := upd_same
  generalize upd H14 p15 (.lst ([(.ref p2 : V), .ref p3, .ref p4, .ref p5, .ref p6] ++ [(.ref p8 : V), .ref p10, .ref p11, .ref p12, .ref p13, .non])) = H15 at u15 l15 ⊢
  refine ⟨_, rfl, _, rfl, _, _, rfl, rfl, zl1, _, rfl, (by show 2 ≤ sizeLine; decide), fun p16 hp16 => ?_⟩
  have u16 := same_new hp16 (.tup [.str (nm ++ PySem.Str.ofString " "), sv])
  have d16 : DV K (upd H15 p16 (.tup [.str (nm ++ PySem.Str.ofString " "), sv])) (.ref p16) (.tuple [.str (nm ++ PySem.Str.ofString " "), frD sq]) := .tup (SqT.of upd_same) (.cons (.str _) (.cons (hsv.keep (u1.trans (u2.trans (u3.trans (u4.trans (u5.trans (u6.trans (u7.trans (u8.trans (u9.trans (u10.trans (u11.trans (u12.trans (u13.trans (u14.trans (u15.trans (u16))))))))))))))))) .nil))
  generalize upd H15 p16 (.tup [.str (nm ++ PySem.Str.ofString " "), sv]) = H16 at u16 d16 ⊢
  refine ⟨(by show 1 ≤ sizeLine; decide), fun p17 hp17 => ?_⟩
  have u17 := same_new hp17 (.lst [.ref p16])
  have d17 : DV K (upd H16 p17 (.lst [.ref p16])) (.ref p17) (.list [.tuple [.str (nm ++ PySem.Str.ofString " "), frD sq]]) := .lst (SqL.of upd_same) (.cons (d16.keep (u17)) .nil)
  have l17 : (upd H16 p17 (.lst [.ref p16])) p17 = some (.lst [.ref p16]) := upd_same
  generalize upd H16 p17 (.lst [.ref p16]) = H17 at u17 d17 l17 ⊢
  refine ⟨p15, p17, _, _, rfl, rfl, (u16.trans (u17)) _ _ l15, (Same.refl _) _ _ l17, (by show 12 ≤ sizeLine; decide), fun p18 hp18 => ?_⟩
  have u18 := same_new hp18 (.lst (([(.ref p2 : V), .ref p3, .ref p4, .ref p5, .ref p6] ++ [(.ref p8 : V), .ref p10, .ref p11, .ref p12, .ref p13, .non]) ++ [(.ref p16 : V)]))
  have l18 : (upd H17 p18 (.lst (([(.ref p2 : V), .ref p3, .ref p4, .ref p5, .ref p6] ++ [(.ref p8 : V), .ref p10, .ref p11, .ref p12, .ref p13, .non]) ++ [(.ref p16 : V)]))) p18 = some (.lst (([(.ref p2 : V), .ref p3, .ref p4, .ref p5, .ref p6] ++ [(.ref p8 : V), .ref p10, .ref p11, .ref p12, .ref p13, .non]) ++ [(.ref p16 : V)])) := upd_same
  generalize upd H17 p18 (.lst (([(.ref p2 : V), .ref p3, .ref p4, .ref p5, .ref p6] ++ [(.ref p8 : V), .ref p10, .ref p11, .ref p12, .ref p13, .non]) ++ [(.ref p16 : V)])) = H18 at u18 l18 ⊢
  have all : DVs K H18 [.ref p2, .ref p3, .ref p4, .ref p5, .ref p6, .ref p8, .ref p10, .ref p11, .ref p12, .ref p13, .non, .ref p16] [.tuple [.str nm, .tuple [.int 0, .int 1]], .tuple [.str "", frD sq], .tuple [.str (nm ++ PySem.Str.ofString "abcdefgh"), frD sq], .tuple [.str "Flint", frD sq], .tuple [.str nm, .int 2], .list [.str nm, frD sq], .tuple [.str nm, .tuple [.int 2, .int 4]], .tuple [.str nm], .tuple [.int 7, frD sq], .tuple [.str nm, frD sq, frD sq], .none, .tuple [.str (nm ++ PySem.Str.ofString " "), frD sq]] := (.cons (d2.keep (u3.trans (u4.trans (u5.trans (u6.trans (u7.trans (u8.trans (u9.trans (u10.trans (u11.trans (u12.trans (u13.trans (u14.trans (u15.trans (u16.trans (u17.trans (u18))))))))))))))))) (.cons (d3.keep (u4.trans (u5.trans (u6.trans (u7.trans (u8.trans (u9.trans (u10.trans (u11.trans (u12.trans (u13.trans (u14.trans (u15.trans (u16.trans (u17.trans (u18)))))))))))))))) (.cons (d4.keep (u5.trans (u6.trans (u7.trans (u8.trans (u9.trans (u10.trans (u11.trans (u12.trans (u13.trans (u14.trans (u15.trans (u16.trans (u17.trans (u18))))))))))))))) (.cons (d5.keep (u6.trans (u7.trans (u8.trans (u9.trans (u10.trans (u11.trans (u12.trans (u13.trans (u14.trans (u15.trans (u16.trans (u17.trans (u18)))))))))))))) (.cons (d6.keep (u7.trans (u8.trans (u9.trans (u10.trans (u11.trans (u12.trans (u13.trans (u14.trans (u15.trans (u16.trans (u17.trans (u18))))))))))))) (.cons (d8.keep (u9.trans (u10.trans (u11.trans (u12.trans (u13.trans (u14.trans (u15.trans (u16.trans (u17.trans (u18))))))))))) (.cons (d10.keep (u11.trans (u12.trans (u13.trans (u14.trans (u15.trans (u16.trans (u17.trans (u18))))))))) (.cons (d11.keep (u12.trans (u13.trans (u14.trans (u15.trans (u16.trans (u17.trans (u18)))))))) (.cons (d12.keep (u13.trans (u14.trans (u15.trans (u16.trans (u17.trans (u18))))))) (.cons (d13.keep (u14.trans (u15.trans (u16.trans (u17.trans (u18)))))) (.cons .non (.cons (d16.keep (u17.trans (u18))) .nil))))))))))))
  have t0 : Same H0 H18 := (u1.trans (u2.trans (u3.trans (u4.trans (u5.trans (u6.trans (u7.trans (u8.trans (u9.trans (u10.trans (u11.trans (u12.trans (u13.trans (u14.trans (u15.trans (u16.trans (u17.trans (u18))))))))))))))))))
  have bad : ∀ d ∈ [.tuple [.str nm, .tuple [.int 0, .int 1]], .tuple [.str "", frD sq], .tuple [.str (nm ++ PySem.Str.ofString "abcdefgh"), frD sq], .tuple [.str "Flint", frD sq], .tuple [.str nm, .int 2], .list [.str nm, frD sq], .tuple [.str nm, .tuple [.int 2, .int 4]], .tuple [.str nm], .tuple [.int 7, frD sq], .tuple [.str nm, frD sq, frD sq], .none, .tuple [.str (nm ++ PySem.Str.ofString " "), frD sq]], kindB d = false ∧ KOk d := by
    intro d hd
    have e8 : nameB (nm ++ PySem.Str.ofString "abcdefgh") = false := nameB_long (by rw [PySem.Str.length_append]; omega)
    have e1 : nameB (nm ++ PySem.Str.ofString " ") = false := nameB_blank nm
    have s8 : StrOk (.str (nm ++ PySem.Str.ofString "abcdefgh")) := fun z e => by cases e; rw [PySem.Str.length_append]; exact zl8
    have s1 : StrOk (.str (nm ++ PySem.Str.ofString " ")) := fun z e => by cases e; rw [PySem.Str.length_append]; exact zl1
    have s0 : StrOk (.str nm) := fun z e => by cases e; exact Nat.le_trans nl (by decide)
    have rat : ∀ i j : Int, ratD (.tuple [.int i, .int j]) = false → True := fun _ _ _ => trivial
    simp only [List.mem_cons, List.not_mem_nil, or_false] at hd
    rcases hd with rfl | rfl | rfl | rfl | rfl | rfl | rfl | rfl | rfl | rfl | rfl | rfl
    · exact ⟨by show (nameB nm && _) = false; rw [nb]; decide +kernel, kok2 s0⟩
    · exact ⟨kind_name (by decide +kernel), kok2 fun z e => by cases e; decide⟩
    · exact ⟨by show (nameB (nm ++ PySem.Str.ofString "abcdefgh") && _) = false; rw [e8]; rfl, kok2 s8⟩
    · exact ⟨kind_name (by decide +kernel), kok2 fun z e => by cases e; decide⟩
    · exact ⟨by show (nameB nm && _) = false; rw [nb]; rfl, kok2 s0⟩
    · exact ⟨rfl, kokN rfl⟩
    · exact ⟨by show (nameB nm && _) = false; rw [nb]; decide +kernel, kok2 s0⟩
    · exact ⟨rfl, kokL (by simp)⟩
    · exact ⟨rfl, kok2 fun z e => by cases e⟩
    · exact ⟨rfl, kokL (by simp)⟩
    · exact ⟨rfl, kokN rfl⟩
    · exact ⟨by show (nameB (nm ++ PySem.Str.ofString " ") && _) = false; rw [e1]; rfl, kok2 s1⟩
  have hl18 := t0 _ _ hl
  have hks18 := hks.keep t0
  refine ⟨_, rfl, cc, 57089, rfl, by decide, by decide, fun y y0 y1 => ⟨_, _, rfl, rfl, ⟨by decide, by decide⟩, _, _, rfl, rfl, (by show (0 : Int) < 14; decide), ?_⟩⟩
  have w0 : 0 ≤ y / 64 % 14 := Int.emod_nonneg _ (by decide)
  have w1 : y / 64 % 14 < 14 := Int.emod_lt_of_pos _ (by decide)
  dsimp only
  generalize y / 64 % 14 = way at w0 w1 ⊢
  have kg : ∀ k ∈ st, kindB (kindD k) = true ∧ KOk (kindD k) := fun k hk => by
    obtain ⟨j, hj⟩ := List.getElem?_of_mem hk
    have e := ls.nm j k hj
    have nb : nameB k.1 = true := by rw [e]; exact nameB_S _ _
    exact ⟨kindB_good nb (ls.nz k hk), kok2 fun z e => by cases e; exact Nat.le_trans (nameB_le nb) (by decide)⟩
  refine ⟨_, rfl, rfl, _, rfl, ite2 (fun e12 => ?_) (fun n12 => ?_)⟩
  · -- one name twice
    refine ⟨_, rfl, _, rfl, (by show 2 ≤ sizeLine; decide), fun p1 hp1 => ?_⟩
    have u1 := same_new hp1 (.tup [.int 5, .int 7])
    have d1 : DV K (upd H18 p1 (.tup [.int 5, .int 7])) (.ref p1) (frD (5 / 7)) := by
      rw [show frD (5 / 7) = .tuple [.int 5, .int 7] from frD_of (b := 7) (by decide +kernel) (by decide +kernel)]
      exact .tup (SqT.of upd_same) (.cons (.int _) (.cons (.int _) .nil))
    generalize upd H18 p1 (.tup [.int 5, .int 7]) = G1 at u1 d1 ⊢
    refine ⟨(by show 2 ≤ sizeLine; decide), fun p2 hp2 => ?_⟩
    have u2 := same_new hp2 (.tup [.str nm, .ref p1])
    have d2 : DV K (upd G1 p2 (.tup [.str nm, .ref p1])) (.ref p2) (kindD (nm, 5 / 7)) := DV.upd2 hp2 (.str _) d1
    generalize upd G1 p2 (.tup [.str nm, .ref p1]) = G2 at u2 d2 ⊢
    refine ⟨(by show 1 ≤ sizeLine; decide), fun p3 hp3 => ?_⟩
    have u3 := same_new hp3 (.lst [.ref p2])
    have m3 : upd G2 p3 (.lst [.ref p2]) p3 = some (.lst [.ref p2]) := upd_same
    generalize upd G2 p3 (.lst [.ref p2]) = G3 at u3 m3 ⊢
    have s3 := u1.trans (u2.trans u3)
    refine ⟨l, p3, ks, _, rfl, rfl, s3 _ _ hl18, m3, Nat.le_of_lt (small1000 (by simp only [List.length_cons, List.length_nil]; omega)), fun p4 hp4 => ?_⟩
    have u4 := same_new hp4 (.lst (ks ++ [.ref p2]))
    refine q _ (.list ((st ++ [(nm, 5 / 7)]).map kindD)) _ (t0.trans (s3.trans u4)) (.lst (SqL.of upd_same) ?_) (sok_all ?_) (stock_twice (k := st[i]) (List.mem_of_getElem? ek) enm n4)
    · rw [List.map_append]
      exact (hks18.keep (s3.trans u4)).append (.cons (d2.keep (u3.trans u4)) .nil)
    · intro d hd
      obtain ⟨k, hk, rfl⟩ := List.mem_map.mp hd
      rcases List.mem_append.mp hk with h | h
      · exact (kg k h).2
      · rw [List.mem_singleton.mp h]
        exact kok2 fun z e => by cases e; exact Nat.le_trans nl (by decide)
  refine ⟨_, rfl, rfl, _, rfl, ite2 (fun e13 => ?_) (fun n13 => ?_)⟩
  · -- no list of one to four
    refine ⟨(by show 0 ≤ sizeLine; decide), fun p1 hp1 => ?_⟩
    have u1 := same_new hp1 (.lst [])
    have d1 : DV K (upd H18 p1 (.lst [])) (.ref p1) (.list []) := .lst (SqL.of upd_same) .nil
    generalize upd H18 p1 (.lst []) = G1 at u1 d1 ⊢
    refine ⟨_, rfl, l, ks, rfl, .inl ⟨SqL.of (u1 _ _ hl18), fun p2 hp2 => ?_⟩⟩
    have u2 := same_new hp2 (.tup ks)
    have d2 : DV K (upd G1 p2 (.tup ks)) (.ref p2) (.tuple (st.map kindD)) := .tup (SqT.of upd_same) (hks18.keep (u1.trans u2))
    generalize upd G1 p2 (.tup ks) = G2 at u2 d2 ⊢
    refine fun p3 hp3 => ?_
    have u3 := same_new hp3 (.dK [])
    have d3 : DV K (upd G2 p3 (.dK [])) (.ref p3) (.dict []) := .dct upd_same
    generalize upd G2 p3 (.dK []) = G3 at u3 d3 ⊢
    have s3 := u1.trans (u2.trans u3)
    refine ⟨_, rfl, l, 5, ks, rfl, rfl, s3 _ _ hl18, (by decide), (by decide), Nat.le_of_lt (small1000 (by show ks.length * 5 ≤ 1000; omega)), fun p4 hp4 => ?_⟩
    have u4 := same_new hp4 (.lst (List.replicate (Int.toNat 5) ks).flatten)
    have d4 : DV K (upd G3 p4 (.lst (List.replicate (Int.toNat 5) ks).flatten)) (.ref p4) (.list (List.replicate 5 (st.map kindD)).flatten) := .lst (SqL.of upd_same) (dvs_rep5 (hks18.keep (s3.trans u4)))
    generalize upd G3 p4 (.lst (List.replicate (Int.toNat 5) ks).flatten) = G4 at u4 d4 ⊢
    refine ⟨(by show 6 ≤ sizeLine; decide), fun p5 hp5 => ?_⟩
    have u5 := same_new hp5 (.lst [.ref p1, .non, .ref p2, .str "glass", .ref p3, .ref p4])
    have m5 : upd G4 p5 (.lst [.ref p1, .non, .ref p2, .str "glass", .ref p3, .ref p4]) p5 = some (.lst [.ref p1, .non, .ref p2, .str "glass", .ref p3, .ref p4]) := upd_same
    generalize upd G4 p5 (.lst [.ref p1, .non, .ref p2, .str "glass", .ref p3, .ref p4]) = G5 at u5 m5 ⊢
    have all : DVs K G5 [.ref p1, .non, .ref p2, .str "glass", .ref p3, .ref p4] [.list [], .none, .tuple (st.map kindD), .str "glass", .dict [], .list (List.replicate 5 (st.map kindD)).flatten] :=
      .cons (d1.keep (u2.trans (u3.trans (u4.trans u5)))) (.cons .non (.cons (d2.keep (u3.trans (u4.trans u5))) (.cons (.str _) (.cons (d3.keep (u4.trans u5)) (.cons (d4.keep u5) .nil)))))
    refine ⟨_, rfl, cc, 60013, rfl, by decide, by decide, fun y2 y20 y21 => ⟨_, _, rfl, rfl, ⟨by decide, by decide⟩, ?_⟩⟩
    obtain ⟨v, hv, hm⟩ := atI_in (xs := [(.ref p1 : V), .non, .ref p2, .str "glass", .ref p3, .ref p4]) (r := y2 / 64 % 6) (by omega) (by simp only [List.length_cons, List.length_nil]; omega)
    refine ⟨_, _, rfl, rfl, (by show (0 : Int) < 6; decide), p5, _, _, v, rfl, rfl, SqL.of m5, hv, ?_⟩
    obtain ⟨j, hj⟩ := List.getElem?_of_mem hm
    obtain ⟨d, hd, hxd⟩ := all.get hj
    have hd := List.mem_of_getElem? hd
    refine q v d _ (t0.trans (s3.trans (u4.trans u5))) hxd ?_ ?_
    · simp only [List.mem_cons, List.not_mem_nil, or_false] at hd
      rcases hd with rfl | rfl | rfl | rfl | rfl | rfl
      · exact sok_all fun x hx => nomatch hx
      · exact fun ds e => by cases e
      · exact fun ds e => by cases e
      · exact fun ds e => by cases e
      · exact fun ds e => by cases e
      · refine sok_all fun x hx => ?_
        obtain ⟨L, hL, hx⟩ := List.mem_flatten.mp hx
        rw [List.eq_of_mem_replicate hL] at hx
        obtain ⟨k, hk, rfl⟩ := List.mem_map.mp hx
        exact (kg k hk).2
    · simp only [List.mem_cons, List.not_mem_nil, or_false] at hd
      rcases hd with rfl | rfl | rfl | rfl | rfl | rfl
      · rfl
      · rfl
      · rfl
      · rfl
      · rfl
      · refine stock_len (.inr ?_)
        rw [List.length_flatten]
        simp
        omega
  · -- one thing that is no kind
    have hway : way < 12 := by
      have h1 : ¬ way = 12 := fun e => n12 (by rw [e, decI]; decide)
      have h2 : ¬ way = 13 := fun e => n13 (by rw [e, decI]; decide)
      omega
    obtain ⟨v, hv, hm⟩ := atI_in (xs := (([(.ref p2 : V), .ref p3, .ref p4, .ref p5, .ref p6] ++ [(.ref p8 : V), .ref p10, .ref p11, .ref p12, .ref p13, .non]) ++ [(.ref p16 : V)])) (r := way) (by omega) (by simp only [List.length_append, List.length_cons, List.length_nil]; omega)
    refine ⟨_, rfl, _, rfl, _, rfl, l, _, rfl, SqL.of hl18, fun p1 hp1 => ?_⟩
    have u1 := same_new hp1 (.lst (cutV ks none (some (i : Int))))
    have m1 : upd H18 p1 (.lst (cutV ks none (some (i : Int)))) p1 = some (.lst (ks.take i)) := by rw [upd_same, cut_take]
    generalize upd H18 p1 (.lst (cutV ks none (some (i : Int)))) = G1 at u1 m1 ⊢
    refine ⟨_, rfl, _, rfl, p18, _, _, v, rfl, rfl, SqL.of (u1 _ _ l18), hv, (by show 1 ≤ sizeLine; decide), fun p2 hp2 => ?_⟩
    have u2 := same_new hp2 (.lst [v])
    have m2 : upd G1 p2 (.lst [v]) p2 = some (.lst [v]) := upd_same
    generalize upd G1 p2 (.lst [v]) = G2 at u2 m2 ⊢
    refine ⟨p1, p2, _, _, rfl, rfl, u2 _ _ m1, m2, Nat.le_of_lt (small1000 (by rw [List.length_take]; simp only [List.length_cons, List.length_nil]; omega)), fun p3 hp3 => ?_⟩
    have u3 := same_new hp3 (.lst (ks.take i ++ [v]))
    have m3 : upd G2 p3 (.lst (ks.take i ++ [v])) p3 = some (.lst (ks.take i ++ [v])) := upd_same
    generalize upd G2 p3 (.lst (ks.take i ++ [v])) = G3 at u3 m3 ⊢
    have s3 := u1.trans (u2.trans u3)
    refine ⟨_, rfl, _, rfl, _, _, rfl, rfl, _, rfl, l, _, rfl, SqL.of (s3 _ _ hl18), fun p4 hp4 => ?_⟩
    have u4 := same_new hp4 (.lst (cutV ks (some ((i : Int) + 1)) none))
    have m4 : upd G3 p4 (.lst (cutV ks (some ((i : Int) + 1)) none)) p4 = some (.lst (ks.drop (i + 1))) := by rw [upd_same, show ((i : Int) + 1) = ((i + 1 : Nat) : Int) from rfl, cut_drop]
    generalize upd G3 p4 (.lst (cutV ks (some ((i : Int) + 1)) none)) = G4 at u4 m4 ⊢
    refine ⟨p3, p4, _, _, rfl, rfl, u4 _ _ m3, m4, Nat.le_of_lt (small1000 (by rw [List.length_append, List.length_take, List.length_drop]; simp only [List.length_cons, List.length_nil]; omega)), fun p5 hp5 => ?_⟩
    have u5 := same_new hp5 (.lst (ks.take i ++ [v] ++ ks.drop (i + 1)))
    obtain ⟨j, hj⟩ := List.getElem?_of_mem hm
    obtain ⟨d, hd, hxd⟩ := all.get hj
    obtain ⟨kb, ko⟩ := bad d (List.mem_of_getElem? hd)
    have s5 := s3.trans (u4.trans u5)
    refine q _ (.list ((st.map kindD).take i ++ [d] ++ (st.map kindD).drop (i + 1))) _ (t0.trans s5) (.lst (SqL.of upd_same) ?_) (sok_all ?_) (stock_bad (d := d) (by simp) kb)
    · exact (((hks18.take i).keep s5).append (.cons (hxd.keep s5) .nil)).append ((hks18.drop (i + 1)).keep s5)
    · intro x hx
      rcases List.mem_append.mp hx with h | h
      · rcases List.mem_append.mp h with h | h
        · obtain ⟨k, hk, rfl⟩ := List.mem_map.mp (List.mem_of_mem_take h)
          exact (kg k hk).2
        · rw [List.mem_singleton.mp h]; exact ko
      · obtain ⟨k, hk, rfl⟩ := List.mem_map.mp (List.mem_of_mem_drop h)
        exact (kg k hk).2
end
end K63
namespace K63
open PySem L2 Lib Fr Op
seal PE PT PW PA PS PSs PG PGs PI PO PIfs
section
variable {P : Program} {w : World} {K : PySem.W.Frag} {mg : Str → Option Value} {base : Heap} {ad : Adr} {c : Bool}
theorem c__law_which (T : Txt K mg ad) : CalB P w K mg base true 7 "_law_which" ["_law_way", "_law_thing", "_law_shop"] (spWhich63 K ad.Shop) := by
  have M_Shop := kx_Shop (P := P) (w := w) (base := base) T
  refine T.t__law_which.calN sc__law_which (fun _ _ _ _ _ _ => by3 fun _ _ _ => rfl) (fun vs H Q E h => ?_) (fun f cdv A outer s H vs Q E hr h => ?_)
  · obtain ⟨_, _, _, _, _, rfl, _⟩ := h; rfl
  obtain ⟨n, v, x, st, d, rfl, hsh, h4, hv, h, q⟩ := h
  have X := T.ex
  have ek := X.e_NoBench
  have ew := X.e_NoStock
  obtain ⟨fI, fd, Fn, O⟩ := X.j_NoBench.ex
  refine ⟨_, (pss_cons (ps_set (i := 3) sc__law_which.nd rfl (Or.inl rfl) pe_non) (pss_cons (ps_tryGD (i := 4) (ptb_if (pt_cmpR op_eq (pv 0) pe_int (nomark _)) (ptb_make M_Shop (hr.mono (by decide)) (pa_name (pv 1) pa_nil)) (ptb_meth (k := 4) (pv 2) (hr.mono (by decide)) (pa_name (pv 1) (pa_list (pe_lst pa_nil) pa_nil)))) rfl rfl T.ex.m_BenchError (fun _ => (pss_one (ps_set (i := 3) sc__law_which.nd rfl (Or.inl rfl) (pv 4)))) sc__law_which.nd rfl rfl) (pss_cons (ps_if (PW.pt (pw_or (pt_not (pt_val (pe_callB (call_isiD1K (K := K)) rfl T.isinstance bt_isinstance (pa_name (pv 3) (pa_name (pe_bltn (v := .ty "ValueError") rfl T.ValueError bt_ValueError rfl) pa_nil))))) (pw_or (pt_val (pe_callB (call_isiD1K (K := K)) rfl T.isinstance bt_isinstance (pa_name (pv 3) (pa_name (pe_glob (v := .ref ad.NoNumber) rfl T.ex.m_NoNumber rfl) pa_nil)))) (pw_or1 (pt_val (pe_callB (call_isiD1K (K := K)) rfl T.isinstance bt_isinstance (pa_name (pv 3) (pa_name (pe_glob (v := .ref ad.NoWish) rfl T.ex.m_NoWish rfl) pa_nil)))))))) (pss_one (ps_ret pe_bl)) pss_nil) (pss_cons (ps_if (pt_cmpR op_eq (pv 0) pe_int (nomark _)) (pss_one (ps_ret (pe_and (pe_callB (call_isiD1K (K := K)) rfl T.isinstance bt_isinstance (pa_name (pv 3) (pa_name (pe_glob (v := .ref ad.NoStock) rfl T.ex.m_NoStock rfl) pa_nil))) (pe_one (pe_not (pe_callB (call_isiD1K (K := K)) rfl T.isinstance bt_isinstance (pa_name (pv 3) (pa_name (pe_glob (v := .ref ad.NoBench) rfl T.ex.m_NoBench rfl) pa_nil)))))))) pss_nil) (pss_one (ps_ret (pe_and (pe_callB (call_isiD1K (K := K)) rfl T.isinstance bt_isinstance (pa_name (pv 3) (pa_name (pe_glob (v := .ref ad.NoBench) rfl T.ex.m_NoBench rfl) pa_nil))) (pe_and (pe_not (pe_callB (call_isiD1K (K := K)) rfl T.isinstance bt_isinstance (pa_name (pv 3) (pa_name (pe_glob (v := .ref ad.NoStock) rfl T.ex.m_NoStock rfl) pa_nil)))) (pe_one (pe_cmpR op_isN (pe_xatK (K := K) (pv 3)) pe_non (nomark _))))))))))), ?_⟩
  rcases h with ⟨rfl, ok, bad⟩ | ⟨rfl, bad⟩
  · refine ⟨_, rfl, rfl, _, rfl, iteT' (by decide) ⟨_, rfl, fun y dx ny ndx ne => ?_⟩⟩
    have w1 : Same H (upd (upd H dx (.own y)) y (.ins ad.Shop dx [])) := fun b o e => by rw [upd_ne (ne_of_none e ny), upd_ne (ne_of_none e ndx)]; exact e
    refine ⟨.ref y, v, d, rfl, hv.keep w1, ok, bad, fun H' s' => ⟨ad.NoStock, rfl, X.x_NoStock_BenchError, fun a ha => ?_⟩⟩
    have ua := same_new ha (xC a ad.NoStock none)
    have hc : upd H' a (xC a ad.NoStock none) a = some (xC a ad.NoStock none) := upd_same
    have t2 := w1.trans (s'.trans ua)
    generalize upd H' a (xC a ad.NoStock none) = G at t2 hc ⊢
    refine ⟨_, rfl, ?_⟩
    refine ⟨_, rfl, a, _, _, _, _, _, rfl, hc, ew, rfl, X.k_NoStock_ValueError, _, rfl, iteF ?_⟩
    refine ⟨_, rfl, a, _, _, _, _, _, rfl, hc, ew, rfl, X.k_NoStock_NoNumber, _, rfl, iteF ?_⟩
    refine ⟨_, rfl, a, _, _, _, _, _, rfl, hc, ew, rfl, X.k_NoStock_NoWish, _, rfl, iteF ?_⟩
    refine ⟨_, rfl, rfl, _, rfl, iteT' (by decide) ?_⟩
    refine ⟨_, rfl, a, _, _, _, _, _, rfl, hc, ew, rfl, X.k_NoStock_NoStock, _, rfl, iteT ?_⟩
    exact ⟨_, rfl, a, _, _, _, _, _, rfl, hc, ew, rfl, X.k_NoStock_NoBench, _, rfl, q _ t2⟩
  · obtain ⟨a, dx, ls, ks, rfl, ha, hls, hks⟩ := id hsh
    refine ⟨_, rfl, rfl, _, rfl, iteF' (by decide) ⟨_, rfl, a, _, dx, _, _, _, rfl, ha, rfl, mc_bench_for T, _, rfl, (by show 0 ≤ sizeLine; decide), fun p hp => ?_⟩⟩
    have u1 := same_new hp (.lst [])
    refine ⟨.ref a, v, .ref p, st, d, rfl, hsh.keep u1, h4, hv.keep u1, .inl ⟨bad, fun H' dx s' hx => ⟨ad.NoBench, rfl, X.x_NoBench_BenchError, fun a ha => ?_⟩⟩⟩
    have ua := same_new ha (xC a ad.NoBench (some dx))
    have hc : upd H' a (xC a ad.NoBench (some dx)) a = some (xC a ad.NoBench (some dx)) := upd_same
    have hdx := ua _ _ hx
    have t2 := u1.trans (s'.trans ua)
    generalize upd H' a (xC a ad.NoBench (some dx)) = G at t2 hc hdx ⊢
    refine ⟨_, rfl, ?_⟩
    refine ⟨_, rfl, a, _, _, _, _, _, rfl, hc, ek, rfl, X.k_NoBench_ValueError, _, rfl, iteF ?_⟩
    refine ⟨_, rfl, a, _, _, _, _, _, rfl, hc, ek, rfl, X.k_NoBench_NoNumber, _, rfl, iteF ?_⟩
    refine ⟨_, rfl, a, _, _, _, _, _, rfl, hc, ek, rfl, X.k_NoBench_NoWish, _, rfl, iteF ?_⟩
    refine ⟨_, rfl, rfl, _, rfl, iteF' (by decide) ?_⟩
    refine ⟨_, rfl, a, _, _, _, _, _, rfl, hc, ek, rfl, X.k_NoBench_NoBench, _, rfl, iteT ?_⟩
    refine ⟨_, rfl, a, _, _, _, _, _, rfl, hc, ek, rfl, X.k_NoBench_NoStock, _, rfl, _, rfl, iteT ?_⟩
    exact ⟨_, rfl, a, _, dx, _, _, rfl, hc, hdx, ek, O.hd, O.na, rfl, rfl, q _ t2⟩
end
end K63
namespace K63
open PySem L2 Lib Fr Op
seal PE PT PW PA PS PSs PG PGs PI PO PIfs
section
variable {P : Program} {w : World} {K : PySem.W.Frag} {mg : Str → Option Value} {base : Heap} {ad : Adr} {c : Bool}
theorem l_tail (T : Txt K mg ad) {f : Addr} {cdv : Value} {A : Around} {outer : List Env} {s : Shared} {H : Hp} {E : XK} (hr : RoomB true 7 (cxB true P w K mg base ["_law_cell", "_law_stock_here", "_law_handed", "_law_shop", "_law_gaps", "_law_choice", "_law_due", "_law_k", "_law_kind", "_law_told", "_law_odd"] "_law_step" (defScope s__law_step) f cdv A outer s H E).nox.A) : ∃ tr, PSs (cxB true P w K mg base ["_law_cell", "_law_stock_here", "_law_handed", "_law_shop", "_law_gaps", "_law_choice", "_law_due", "_law_k", "_law_kind", "_law_told", "_law_odd"] "_law_step" (defScope s__law_step) f cdv A outer s H E).nox ((defBody s__law_step).drop 8) tr ∧
    ∀ (z : Int) (l ga cl du : Addr) (x : V) (c2 c7 c8 c9 c10 : Option V) (ks ys gv : List V) (st : List (Str × Rat)) (g0 : Rat) (gs : List Rat) (cs : List Str) (H0 : Hp) (D : Ends),
      H0 l = some (.lst ks) → DVs K H0 ks (st.map kindD) → LStock z st → 1 ≤ st.length → st.length ≤ 4 → ShopAt K ad.Shop H0 x st → H0 ga = some (.lst gv) → DVs K H0 gv ((g0 :: gs).map frD) → gs.length ≤ 4 → cs.length = gs.length →
      H0 cl = some (.lst (cs.map V.str)) → H0 du = some (.lst ys) → DVs K H0 ys ((dueB st g0 gs cs).map pcD) →
      (∀ H3, Same H0 H3 → D.rt (.bl true) H3) →
      tr D [some (.int z), some (.ref l), c2, some x, some (.ref ga), some (.ref cl), some (.ref du), c7, c8, c9, c10] H0 := by
  have C__law_mix := c__law_mix (P := P) (w := w) (base := base) T
  have C__law_which := c__law_which (P := P) (w := w) (base := base) T
  have C__law_bad := c__law_bad (P := P) (w := w) (base := base) T
  refine ⟨_, (pss_cons (ps_set (i := 9) sc__law_step.nd rfl (Or.inl rfl) (pe_mB (k := 4) (pv 3) (hr.mono (by decide)) (pa_name (pv 4) (pa_name (pv 5) pa_nil)))) (pss_cons (ps_if (PW.pt (pw_or (pt_cmpR (op_neD hr.units) (pe_mB0 (k := 1) (pv 3) (hr.mono (by decide))) (pv 1) (nomark _)) (pw_or1 (pt_cmpR (op_neD hr.units) (pv 9) (pv 6) (nomark _))))) (pss_one (ps_ret pe_bl)) pss_nil) (pss_cons (ps_expr (pe_bm0 PySem.F.plainAttrs_list PySem.F.slot_list_clear PySem.F.type_list_clear mt_clear (pv 9))) (pss_cons (ps_if (pt_cmpR (op_neD hr.units) (pe_mB (k := 4) (pv 3) (hr.mono (by decide)) (pa_name (pv 4) (pa_name (pv 5) pa_nil))) (pv 6) (nomark _)) (pss_one (ps_ret pe_bl)) pss_nil) (pss_cons (ps_expr (pe_bm PySem.F.plainAttrs_list PySem.F.slot_list_append PySem.F.type_list_append mt_append (pe_mB0 (k := 1) (pv 3) (hr.mono (by decide))) (pa_tuple (pe_tup (pa_const pe_str (pa_tuple (pe_tup (pa_const pe_int (pa_const pe_int pa_nil))) pa_nil))) pa_nil))) (pss_cons (ps_set (i := 10) sc__law_step.nd rfl (Or.inl rfl) (pe_lst (pa_list (pe_lst pa_nil) (pa_const pe_non (pa_bin (pe_op op_rep (pe_lst (pa_tuple (pe_tup (pa_const pe_int (pa_const pe_int pa_nil))) pa_nil)) pe_int) (pa_list (pe_lst (pa_const pe_int pa_nil)) (pa_tuple (pe_tup (pa_tuple (pe_tup (pa_const pe_int (pa_const pe_int pa_nil))) pa_nil)) (pa_list (pe_lst (pa_tuple (pe_tup (pa_const pe_int (pa_const pe_int pa_nil))) (pa_tuple (pe_tup (pa_const pe_int (pa_const pe_int pa_nil))) pa_nil))) (pa_const pe_str (pa_list (pe_lst (pa_tuple (pe_tup (pa_const pe_int (pa_const pe_int pa_nil))) (pa_const pe_non pa_nil))) pa_nil)))))))))) (pss_cons (ps_if (PW.pt (pw_or (pt_not (pt_val (pe_cB C__law_which (hr.mono (by decide)) pass01 (pa_const pe_int (pa_sub (pe_ix ix_list (pv 10) (pe_op op_mod (pe_op op_fdiv (pe_cB C__law_mix (hr.mono (by decide)) pass01 (pa_name (pv 0) (pa_const pe_int pa_nil))) pe_int) pe_int) (fun _ _ => rfl)) (pa_name (pv 3) pa_nil)))))) (pw_or1 (pt_cmpR (op_neD hr.units) (pe_mB0 (k := 1) (pv 3) (hr.mono (by decide))) (pv 1) (nomark _))))) (pss_one (ps_ret pe_bl)) pss_nil) (pss_one (ps_ret (pe_cB C__law_which (hr.mono (by decide)) pass01 (pa_const pe_int (pa_call (pe_cB C__law_bad (hr.mono (by decide)) pass01 (pa_name (pv 1) (pa_name (pv 0) pa_nil))) (pa_name (pv 3) pa_nil))))))))))))), ?_⟩
  intro z l ga cl du x c2 c7 c8 c9 c10 ks ys gv st g0 gs cs HH D hl hks ls n1 n4 hsh hga hgv hgs4 ecs hcl hdu hys q
  obtain ⟨a, dx, l3, k3, rfl, ha, hl3, hk3⟩ := id hsh
  have hgd : DV K HH (.ref ga) (.list ((g0 :: gs).map frD)) := .lst (SqL.of hga) hgv
  have hkd : DV K HH (.ref l) (.list (st.map kindD)) := .lst (SqL.of hl) hks
  have hdd : DV K HH (.ref du) (benchD (dueB st g0 gs cs)) := .lst (SqL.of hdu) hys
  refine ⟨_, rfl, a, _, dx, _, _, _, rfl, ha, rfl, mc_bench_for T, _, rfl, _, rfl, .ref a, .ref ga, .ref cl, st, _, rfl, hsh, n4, hgd, .inr ⟨g0, gs, cs, cl, rfl, rfl, SqL.of hcl, ecs, hgs4, fun t1 xs1 H1 s1 nt1 ht1 hx1 => ?_⟩⟩
  refine ⟨_, rfl, a, _, dx, _, _, _, rfl, s1 _ _ ha, rfl, mc_kinds T, .ref a, st, rfl, hsh.keep s1, fun k1 ks1 H2 s2 nk1 hk1 hks1 => ?_⟩
  have s02 := s1.trans s2
  refine ⟨_, rfl, ?_⟩
  refine ne_same (d := .list (st.map kindD)) (n := 3) (.lst (SqL.of hk1) hks1) (hkd.keep s02) (flat_stock ls) ⟨_, rfl, iteF ?_⟩
  refine ⟨_, rfl, _, rfl, ?_⟩
  refine ne_same (d := benchD (dueB st g0 gs cs)) (n := 3) (.lst (SqL.of (s2 _ _ ht1)) (hx1.keep s2)) (hdd.keep s02) (flat_bench _) ⟨_, rfl, iteF ?_⟩
  have ht2 := s2 _ _ ht1
  refine ⟨_, rfl, .inl ⟨rfl, _, SqL.of ht2⟩, t1, xs1, rfl, rfl, ht2, ?_⟩
  have s03 : Same HH (upd H2 t1 (.lst [])) := same_but s02 nt1 _
  generalize upd H2 t1 (.lst []) = H3 at s03 ⊢
  refine ⟨_, rfl, a, _, dx, _, _, _, rfl, s03 _ _ ha, rfl, mc_bench_for T, _, rfl, _, rfl, .ref a, .ref ga, .ref cl, st, _, rfl, hsh.keep s03, n4, hgd.keep s03, .inr ⟨g0, gs, cs, cl, rfl, rfl, SqL.of (s03 _ _ hcl), ecs, hgs4, fun t2 xs2 H4 s4 nt2 htt hx2 => ?_⟩⟩
  have s04 := s03.trans s4
  refine ⟨_, rfl, ?_⟩
  refine ne_same (d := benchD (dueB st g0 gs cs)) (n := 3) (.lst (SqL.of htt) hx2) (hdd.keep s04) (flat_bench _) ⟨_, rfl, iteF ?_⟩
  refine ⟨_, rfl, a, _, dx, _, _, _, rfl, s04 _ _ ha, rfl, mc_kinds T, .ref a, st, rfl, hsh.keep s04, fun k2 ks2 H5 s5 nk2 hk2 hks2 => ?_⟩
  refine ⟨.inl ⟨rfl, _, SqL.of hk2⟩, (by show 2 ≤ sizeLine; decide), fun r1 hr1 => ⟨(by show 2 ≤ sizeLine; decide), fun r2 hr2 => ?_⟩⟩
  have u6 := (same_new hr1 (.tup [.int 1, .int 1])).trans (same_new hr2 (.tup [.str "more", .ref r1]))
  have kl2 : ks2.length = st.length := by have := hks2.len; rw [List.length_map] at this; exact this
  refine ⟨k2, ks2, _, rfl, rfl, u6 _ _ hk2, small1000 (by omega), ?_⟩
  have s06 : Same HH (upd (upd (upd H5 r1 (.tup [.int 1, .int 1])) r2 (.tup [.str "more", .ref r1])) k2 (.lst (ks2 ++ [.ref r2]))) := same_but (s04.trans (s5.trans u6)) (s04.free nk2) _
  generalize upd (upd (upd H5 r1 (.tup [.int 1, .int 1])) r2 (.tup [.str "more", .ref r1])) k2 (.lst (ks2 ++ [.ref r2])) = H0 at s06 ⊢
  have hsh := hsh.keep s06
  have hl := s06 _ _ hl
  have hks := hks.keep s06
  have hkd := hkd.keep s06
  have ha := s06 _ _ ha
  refine ⟨(by show 0 ≤ sizeLine; decide), fun p1 hp1 => ?_⟩
  have u1 := same_new hp1 (.lst [])
  have d1 : DV K (upd H0 p1 (.lst [])) (.ref p1) (.list []) := .lst (SqL.of upd_same) .nil
  have l1 : (upd H0 p1 (.lst [])) p1 = some (.lst []) := upd_same
  generalize upd H0 p1 (.lst []) = H1 at u1 d1 l1 ⊢
  refine ⟨(by show 2 ≤ sizeLine; decide), fun p2 hp2 => ?_⟩
  have u2 := same_new hp2 (.tup [.int 1, .int 1])
  have d2 : DV K (upd H1 p2 (.tup [.int 1, .int 1])) (.ref p2) (.tuple [.int 1, .int 1]) := .tup (SqT.of upd_same) (.cons (.int _) (.cons (.int _) .nil))
  generalize upd H1 p2 (.tup [.int 1, .int 1]) = H2 at u2 d2 ⊢
  refine ⟨(by show 1 ≤ sizeLine; decide), fun p3 hp3 => ?_⟩
  have u3 := same_new hp3 (.lst [.ref p2])
  have d3 : DV K (upd H2 p3 (.lst [.ref p2])) (.ref p3) (.list [.tuple [.int 1, .int 1]]) := .lst (SqL.of upd_same) (.cons (d2.keep (u3)) .nil)
  have l3 : (upd H2 p3 (.lst [.ref p2])) p3 = some (.lst [.ref p2]) := upd_same
  generalize upd H2 p3 (.lst [.ref p2]) = H3 at u3 d3 l3 ⊢
  refine ⟨p3, 6, [.ref p2], rfl, rfl, (Same.refl _) _ _ l3, (by decide), (by decide), (by show 1 * 6 ≤ sizeLine; decide), fun p4 hp4 => ?_⟩
  have u4 := same_new hp4 (.lst (List.replicate (Int.toNat 6) [.ref p2]).flatten)
  have d4 : DV K (upd H3 p4 (.lst (List.replicate (Int.toNat 6) [.ref p2]).flatten)) (.ref p4) (.list (List.replicate 6 (.tuple [.int 1, .int 1]))) := .lst (SqL.of (by rw [upd_same, rep_flat1]; rfl)) (dvs_repl (d2.keep (u3.trans (u4))) _)
  generalize upd H3 p4 (.lst (List.replicate (Int.toNat 6) [.ref p2]).flatten) = H4 at u4 d4 ⊢
  refine ⟨(by show 1 ≤ sizeLine; decide), fun p5 hp5 => ?_⟩
  have u5 := same_new hp5 (.lst [.int 1])
  have d5 : DV K (upd H4 p5 (.lst [.int 1])) (.ref p5) (.list [.int 1]) := .lst (SqL.of upd_same) (.cons (.int _) .nil)
  have l5 : (upd H4 p5 (.lst [.int 1])) p5 = some (.lst [.int 1]) := upd_same
  generalize upd H4 p5 (.lst [.int 1]) = H5 at u5 d5 l5 ⊢
  refine ⟨(by show 2 ≤ sizeLine; decide), fun p6 hp6 => ?_⟩
  have u6 := same_new hp6 (.tup [.int 1, .int 1])
  have d6 : DV K (upd H5 p6 (.tup [.int 1, .int 1])) (.ref p6) (.tuple [.int 1, .int 1]) := .tup (SqT.of upd_same) (.cons (.int _) (.cons (.int _) .nil))
  generalize upd H5 p6 (.tup [.int 1, .int 1]) = H6 at u6 d6 ⊢
  refine ⟨(by show 1 ≤ sizeLine; decide), fun p7 hp7 => ?_⟩
  have u7 := same_new hp7 (.tup [.ref p6])
  have d7 : DV K (upd H6 p7 (.tup [.ref p6])) (.ref p7) (.tuple [.tuple [.int 1, .int 1]]) := .tup (SqT.of upd_same) (.cons (d6.keep (u7)) .nil)
  generalize upd H6 p7 (.tup [.ref p6]) = H7 at u7 d7 ⊢
  refine ⟨(by show 2 ≤ sizeLine; decide), fun p8 hp8 => ?_⟩
  have u8 := same_new hp8 (.tup [.int 1, .int 1])
  have d8 : DV K (upd H7 p8 (.tup [.int 1, .int 1])) (.ref p8) (.tuple [.int 1, .int 1]) := .tup (SqT.of upd_same) (.cons (.int _) (.cons (.int _) .nil))
  generalize upd H7 p8 (.tup [.int 1, .int 1]) = H8 at u8 d8 ⊢
  refine ⟨(by show 2 ≤ sizeLine; decide), fun p9 hp9 => ?_⟩
  have u9 := same_new hp9 (.tup [.int 2, .int 2])
  have d9 : DV K (upd H8 p9 (.tup [.int 2, .int 2])) (.ref p9) (.tuple [.int 2, .int 2]) := .tup (SqT.of upd_same) (.cons (.int _) (.cons (.int _) .nil))
  generalize upd H8 p9 (.tup [.int 2, .int 2]) = H9 at u9 d9 ⊢
  refine ⟨(by show 2 ≤ sizeLine; decide), fun p10 hp10 => ?_⟩
  have u10 := same_new hp10 (.lst [.ref p8, .ref p9])
  have d10 : DV K (upd H9 p10 (.lst [.ref p8, .ref p9])) (.ref p10) (.list [.tuple [.int 1, .int 1], .tuple [.int 2, .int 2]]) := .lst (SqL.of upd_same) (.cons (d8.keep (u9.trans (u10))) (.cons (d9.keep (u10)) .nil))
  have l10 : (upd H9 p10 (.lst [.ref p8, .ref p9])) p10 = some (.lst [.ref p8, .ref p9]) := upd_same
  generalize upd H9 p10 (.lst [.ref p8, .ref p9]) = H10 at u10 d10 l10 ⊢
  refine ⟨(by show 2 ≤ sizeLine; decide), fun p11 hp11 => ?_⟩
  have u11 := same_new hp11 (.tup [.int 1, .int 1])
  have d11 : DV K (upd H10 p11 (.tup [.int 1, .int 1])) (.ref p11) (.tuple [.int 1, .int 1]) := .tup (SqT.of upd_same) (.cons (.int _) (.cons (.int _) .nil))
  generalize upd H10 p11 (.tup [.int 1, .int 1]) = H11 at u11 d11 ⊢
  refine ⟨(by show 2 ≤ sizeLine; decide), fun p12 hp12 => ?_⟩
  have u12 := same_new hp12 (.lst [.ref p11, .non])
  have d12 : DV K (upd H11 p12 (.lst [.ref p11, .non])) (.ref p12) (.list [.tuple [.int 1, .int 1], .none]) := .lst (SqL.of upd_same) (.cons (d11.keep (u12)) (.cons .non .nil))
  have l12 : (upd H11 p12 (.lst [.ref p11, .non])) p12 = some (.lst [.ref p11, .non]) := upd_same
  generalize upd H11 p12 (.lst [.ref p11, .non]) = H12 at u12 d12 l12 ⊢
  refine ⟨(by show 8 ≤ sizeLine; decide), fun p13 hp13 => ?_⟩
  have u13 := same_new hp13 (.lst [.ref p1, .non, .ref p4, .ref p5, .ref p7, .ref p10, .str "gaps", .ref p12])
  have d13 : DV K (upd H12 p13 (.lst [.ref p1, .non, .ref p4, .ref p5, .ref p7, .ref p10, .str "gaps", .ref p12])) (.ref p13) (.list [.list [], .none, .list (List.replicate 6 (.tuple [.int 1, .int 1])), .list [.int 1], .tuple [.tuple [.int 1, .int 1]], .list [.tuple [.int 1, .int 1], .tuple [.int 2, .int 2]], .str "gaps", .list [.tuple [.int 1, .int 1], .none]]) := .lst (SqL.of upd_same) (.cons (d1.keep (u2.trans (u3.trans (u4.trans (u5.trans (u6.trans (u7.trans (u8.trans (u9.trans (u10.trans (u11.trans (u12.trans (u13))))))))))))) (.cons .non (.cons (d4.keep (u5.trans (u6.trans (u7.trans (u8.trans (u9.trans (u10.trans (u11.trans (u12.trans (u13)))))))))) (.cons (d5.keep (u6.trans (u7.trans (u8.trans (u9.trans (u10.trans (u11.trans (u12.trans (u13))))))))) (.cons (d7.keep (u8.trans (u9.trans (u10.trans (u11.trans (u12.trans (u13))))))) (.cons (d10.keep (u11.trans (u12.trans (u13)))) (.cons (.str _) (.cons (d12.keep (u13)) .nil))))))))
  have l13 : (upd H12 p13 (.lst [.ref p1, .non, .ref p4, .ref p5, .ref p7, .ref p10, .str "gaps", .ref p12])) p13 = some (.lst [.ref p1, .non, .ref p4, .ref p5, .ref p7, .ref p10, .str "gaps", .ref p12]) := upd_same
  generalize upd H12 p13 (.lst [.ref p1, .non, .ref p4, .ref p5, .ref p7, .ref p10, .str "gaps", .ref p12]) = H13 at u13 d13 l13 ⊢
  have all : DVs K H13 [.ref p1, .non, .ref p4, .ref p5, .ref p7, .ref p10, .str "gaps", .ref p12] [.list [], .none, .list (List.replicate 6 (.tuple [.int 1, .int 1])), .list [.int 1], .tuple [.tuple [.int 1, .int 1]], .list [.tuple [.int 1, .int 1], .tuple [.int 2, .int 2]], .str "gaps", .list [.tuple [.int 1, .int 1], .none]] := (.cons (d1.keep (u2.trans (u3.trans (u4.trans (u5.trans (u6.trans (u7.trans (u8.trans (u9.trans (u10.trans (u11.trans (u12.trans (u13))))))))))))) (.cons .non (.cons (d4.keep (u5.trans (u6.trans (u7.trans (u8.trans (u9.trans (u10.trans (u11.trans (u12.trans (u13)))))))))) (.cons (d5.keep (u6.trans (u7.trans (u8.trans (u9.trans (u10.trans (u11.trans (u12.trans (u13))))))))) (.cons (d7.keep (u8.trans (u9.trans (u10.trans (u11.trans (u12.trans (u13))))))) (.cons (d10.keep (u11.trans (u12.trans (u13)))) (.cons (.str _) (.cons (d12.keep (u13)) .nil))))))))
  have gok : ∀ d ∈ [.list [], .none, .list (List.replicate 6 (.tuple [.int 1, .int 1])), .list [.int 1], .tuple [.tuple [.int 1, .int 1]], .list [.tuple [.int 1, .int 1], .tuple [.int 2, .int 2]], .str "gaps", .list [.tuple [.int 1, .int 1], .none]], gapsB d = false := by
    intro d hd
    simp only [List.mem_cons, List.not_mem_nil, or_false] at hd
    rcases hd with rfl | rfl | rfl | rfl | rfl | rfl | rfl | rfl <;> decide +kernel
  have tt : Same H0 H13 := (u1.trans (u2.trans (u3.trans (u4.trans (u5.trans (u6.trans (u7.trans (u8.trans (u9.trans (u10.trans (u11.trans (u12.trans (u13)))))))))))))
  refine ⟨_, rfl, _, rfl, z, 61001, rfl, by decide, by decide, fun n n0 n1' => ⟨_, _, rfl, rfl, ⟨by decide, by decide⟩, ?_⟩⟩
  obtain ⟨v, hv, hm⟩ := atI_in (xs := [(.ref p1 : V), .non, .ref p4, .ref p5, .ref p7, .ref p10, .str "gaps", .ref p12]) (r := n / 64 % 8) (by omega) (by simp only [List.length_cons, List.length_nil]; omega)
  refine ⟨_, _, rfl, rfl, (by show (0 : Int) < 8; decide), p13, _, _, v, rfl, rfl, SqL.of l13, hv, ?_⟩
  obtain ⟨i, hi⟩ := List.getElem?_of_mem hm
  obtain ⟨d, hd, hxd⟩ := all.get hi
  have no := gok d (List.mem_of_getElem? hd)
  refine ⟨_, rfl, 1, v, .ref a, st, d, rfl, hsh.keep tt, n4, hxd, .inr ⟨rfl, no⟩, fun Ha sa => ⟨_, rfl, iteF ?_⟩⟩
  have ta := tt.trans sa
  refine ⟨_, rfl, a, _, dx, _, _, _, rfl, ta _ _ ha, rfl, mc_kinds T, .ref a, st, rfl, hsh.keep ta, fun k5 ks5 Hb sb nk5 hk5 hks5 => ?_⟩
  have tb := ta.trans sb
  refine ⟨_, rfl, ?_⟩
  refine ne_same (d := .list (st.map kindD)) (n := 3) (.lst (SqL.of hk5) hks5) (hkd.keep tb) (flat_stock ls) ⟨_, rfl, iteF ?_⟩
  refine ⟨_, rfl, _, rfl, l, ks, st, z, z, rfl, tb _ _ hl, hks.keep tb, ls, n1, n4, fun v5 d5 Hc sc hv5 ok5 bad5 => ?_⟩
  exact ⟨_, rfl, 0, v5, .ref a, st, d5, rfl, hsh.keep (tb.trans sc), n4, hv5, .inl ⟨rfl, ok5, bad5⟩, fun Hd sd => q _ (s06.trans (tb.trans (sc.trans sd)))⟩
end
end K63
namespace K63
open PySem L2 Lib Fr Op
seal PE PT PW PA PS PSs PG PGs PI PO PIfs
section
variable {P : Program} {w : World} {K : PySem.W.Frag} {mg : Str → Option Value} {base : Heap} {ad : Adr} {c : Bool}
def body63 : List Stmt := forBody ((defBody s__law_step).getD 7 (.Pass ⟨0, 0, 0, 0⟩))
theorem l_body (T : Txt K mg ad) {f : Addr} {cdv : Value} {A : Around} {outer : List Env} {s : Shared} {H : Hp} {E : XK} (hr : RoomB true 7 (cxB true P w K mg base ["_law_cell", "_law_stock_here", "_law_handed", "_law_shop", "_law_gaps", "_law_choice", "_law_due", "_law_k", "_law_kind", "_law_told", "_law_odd"] "_law_step" (defScope s__law_step) f cdv A outer s H E).nox.A) : ∃ tr, PSs (cxB true P w K mg base ["_law_cell", "_law_stock_here", "_law_handed", "_law_shop", "_law_gaps", "_law_choice", "_law_due", "_law_k", "_law_kind", "_law_told", "_law_odd"] "_law_step" (defScope s__law_step) f cdv A outer s H E).nox body63 tr ∧
    ∀ (z : Int) (l ga cl du : Addr) (x : V) (c2 c8 c9 c10 : Option V) (ks gv : List V) (st : List (Str × Rat)) (g0 g : Rat) (gs : List Rat) (cs : List Str) (i : Nat) (HB H0 : Hp) (D : Ends),
      HB l = some (.lst ks) → DVs K HB ks (st.map kindD) → LStock z st → 1 ≤ st.length → st.length ≤ 4 → HB ga = some (.lst gv) → DVs K HB gv ((g0 :: gs).map frD) → gs[i]? = some g → cs.length = i → i < 4 →
      Two K HB cl du cs (dueB st g0 (gs.take i) cs) H0 →
      (∀ c8 nm H3, Two K HB cl du (cs ++ [nm]) (dueB st g0 (gs.take (i + 1)) (cs ++ [nm])) H3 → D.nx [some (.int z), some (.ref l), c2, some x, some (.ref ga), some (.ref cl), some (.ref du), some (.int (0 + (i : Int))), c8, c9, c10] H3) →
      tr D [some (.int z), some (.ref l), c2, some x, some (.ref ga), some (.ref cl), some (.ref du), some (.int (0 + (i : Int))), c8, c9, c10] H0 := by
  have C__law_mix := c__law_mix (P := P) (w := w) (base := base) T
  obtain ⟨tR, hR, kR⟩ : ∃ tr, PSs (cxB true P w K mg base ["_law_cell", "_law_stock_here", "_law_handed", "_law_shop", "_law_gaps", "_law_choice", "_law_due", "_law_k", "_law_kind", "_law_told", "_law_odd"] "_law_step" (defScope s__law_step) f cdv A outer s H E).nox (body63.drop 3) tr ∧ ∀ (z : Int) (l ga cl du : Addr) (x : V) (c2 c8 c9 c10 : Option V) (gv : List V) (g0 g : Rat) (gs : List Rat) (cs : List Str) (ps : List Pc) (i : Nat) (HB H0 : Hp) (D : Ends),
      HB ga = some (.lst gv) → DVs K HB gv ((g0 :: gs).map frD) → gs[i]? = some g → ps.length ≤ 100 → Two K HB cl du cs ps H0 → (∀ H3, Two K HB cl du cs (ps ++ [.gap g]) H3 → D.nx [some (.int z), some (.ref l), c2, some x, some (.ref ga), some (.ref cl), some (.ref du), some (.int (0 + (i : Int))), c8, c9, c10] H3) →
      tr D [some (.int z), some (.ref l), c2, some x, some (.ref ga), some (.ref cl), some (.ref du), some (.int (0 + (i : Int))), c8, c9, c10] H0 := by
    refine ⟨_, (pss_one (ps_expr (pe_bm PySem.F.plainAttrs_list PySem.F.slot_list_append PySem.F.type_list_append mt_append (pv 6) (pa_tuple (pe_tup (pa_const pe_str (pa_sub (pe_ix ix_list (pv 4) (pe_op op_add (pv 7) pe_int) (fun _ _ => rfl)) pa_nil))) pa_nil)))), ?_⟩
    intro z l ga cl du x c2 c8 c9 c10 gv g0 g gs cs ps i HB H0 D hga hgv hg pl tw q
    obtain ⟨ys, h1, h2⟩ := tw.d
    obtain ⟨xg, hxg⟩ : ∃ xg, gv[i + 1]? = some xg := by
      have := hgv.len
      rw [List.length_map, List.length_cons] at this
      exact ⟨_, List.getElem?_eq_getElem (by have := lt_of_get hg; omega)⟩
    obtain ⟨dg, hdg, hgx⟩ := hgv.get hxg
    rw [List.getElem?_map, List.getElem?_cons_succ, hg] at hdg
    cases hdg
    have ei : (0 + (i : Int)) + 1 = ((i + 1 : Nat) : Int) := by omega
    refine ⟨_, rfl, .inl ⟨rfl, _, SqL.of h1⟩, _, rfl, _, rfl, _, _, rfl, rfl, ga, _, _, _, rfl, rfl, SqL.of (tw.s _ _ hga), (by rw [ei]; exact atI_nat hxg), (by show 2 ≤ sizeLine; decide), fun t ht => ?_⟩
    have u := same_new ht (.tup [.str "gap", xg])
    have yl : ys.length = ps.length := by have := h2.len; rw [List.length_map] at this; exact this
    refine ⟨du, ys, _, rfl, rfl, u _ _ h1, small1000 (by omega), ?_⟩
    exact q _ ((tw.keep u).addD (u _ _ h1) (h2.keep u) (DV.upd2 ht (.str _) (hgx.keep tw.s)))
  refine ⟨_, (pss_cons (ps_set (i := 8) sc__law_step.nd rfl (Or.inl rfl) (pe_ix ix_list (pe_op op_cat (pv 1) (pe_lst (pa_const pe_non pa_nil))) (pe_op op_mod (pe_op op_fdiv (pe_cB C__law_mix (hr.mono (by decide)) pass01 (pa_bin (pe_op op_add (pv 0) (pv 7)) (pa_const pe_int pa_nil))) pe_int) (pe_op op_add (pe_callB call_len_seq rfl T.len bt_len (pa_name (pv 1) pa_nil)) pe_int)) (fun _ _ => rfl))) (pss_cons (ps_expr (pe_bm PySem.F.plainAttrs_list PySem.F.slot_list_append PySem.F.type_list_append mt_append (pv 5) (pa_const pe_str pa_nil))) (pss_cons (ps_if (pt_cmpR op_notN (pv 8) pe_non (nomark _)) (pss_cons (ps_asg (pe_ix ix_tup (pv 8) pe_int (fun _ _ => rfl)) (pg_sub (pv 5) (pv 7) set_list)) (pss_one (ps_expr (pe_bm PySem.F.plainAttrs_list PySem.F.slot_list_append PySem.F.type_list_append mt_append (pv 6) (pa_tuple (pe_tup (pa_const pe_str (pa_sub (pe_ix ix_tup (pv 8) pe_int (fun _ _ => rfl)) pa_nil))) pa_nil))))) pss_nil) hR))), ?_⟩
  intro z l ga cl du x c2 c8 c9 c10 ks gv st g0 g gs cs i HB H0 D hl hks ls n1 n4 hga hgv hg ecs i4 tw q
  have kl : ks.length = st.length := by have := hks.len; rw [List.length_map] at this; exact this
  have pl : (dueB st g0 (gs.take i) cs).length ≤ 50 := by
    have h1 := due_len st g0 (gs.take i) cs
    have h2 : cs.length * (st.length + 1) ≤ 4 * 5 := Nat.mul_le_mul (by omega) (by omega)
    omega
  refine ⟨_, rfl, (by show 1 ≤ sizeLine; decide), fun p1 hp1 => ?_⟩
  have u1 := same_new hp1 (.lst [.non])
  have m1 : upd H0 p1 (.lst [.non]) p1 = some (.lst [.non]) := upd_same
  have tw1 := tw.keep u1
  generalize upd H0 p1 (.lst [.non]) = H1 at u1 m1 tw1 ⊢
  refine ⟨l, p1, ks, _, rfl, rfl, tw1.s _ _ hl, m1, Nat.le_of_lt (small1000 (by simp only [List.length_cons, List.length_nil]; omega)), fun p2 hp2 => ?_⟩
  have u2 := same_new hp2 (.lst (ks ++ [.non]))
  have m2 : upd H1 p2 (.lst (ks ++ [.non])) p2 = some (.lst (ks ++ [.non])) := upd_same
  have tw2 := tw1.keep u2
  generalize upd H1 p2 (.lst (ks ++ [.non])) = H2 at u2 m2 tw2 ⊢
  refine ⟨_, rfl, _, rfl, _, _, rfl, rfl, _, 18149, rfl, by decide, by decide, fun n n0 n1' => ⟨_, _, rfl, rfl, ⟨by decide, by decide⟩, _, rfl, l, _, rfl, .inl (SqL.of (tw2.s _ _ hl)), _, _, rfl, rfl, ?_⟩⟩
  obtain ⟨v, hv, hm⟩ := atI_in (xs := ks ++ [.non]) (r := n / 64 % (((ks.length : Nat) : Int) + 1)) (Int.emod_nonneg _ (by omega)) (by rw [List.length_append]; exact Int.emod_lt_of_pos _ (by omega))
  refine ⟨_, _, rfl, rfl, (by show (0 : Int) < ((ks.length : Nat) : Int) + 1; omega), p2, _, _, v, rfl, rfl, SqL.of m2, hv, ?_⟩
  refine ⟨_, rfl, .inl ⟨rfl, _, SqL.of tw2.c⟩, cl, _, _, rfl, rfl, tw2.c, small1000 (by rw [List.length_map]; omega), ?_⟩
  have tw3 := tw2.setC (cs' := cs ++ [PySem.Str.ofString ""]) (xs := cs.map V.str ++ [.str (PySem.Str.ofString "")]) (by rw [List.map_append]; rfl)
  generalize upd H2 cl (.lst (cs.map V.str ++ [.str (PySem.Str.ofString "")])) = H3 at tw3 ⊢
  have et : gs.take (i + 1) = gs.take i ++ [g] := by rw [List.take_add_one, hg]; rfl
  have due : ∀ nm, dueB st g0 (gs.take (i + 1)) (cs ++ [nm]) = dueB st g0 (gs.take i) cs ++ glassOf st nm ++ [.gap g] := fun nm => by
    unfold dueB
    rw [et, List.zip_append (by rw [List.length_take]; have := lt_of_get hg; omega), List.map_append, List.flatten_append, List.append_assoc]
    show _ = .gap g0 :: (_ ++ (glassOf st nm ++ [.gap g]))
    congr 2
    show [stepB st (nm, g)].flatten = _
    rw [List.flatten_cons, List.flatten_nil, List.append_nil]
    rfl
  refine ⟨_, rfl, rfl, _, rfl, ?_⟩
  rcases List.mem_append.mp hm with hk | hk
  · obtain ⟨j, hj⟩ := List.getElem?_of_mem hk
    obtain ⟨d, hd, hdx⟩ := hks.get hj
    rw [List.getElem?_map] at hd
    cases ej : st[j]? with
    | none => rw [ej] at hd; cases hd
    | some kk =>
      rw [ej] at hd
      cases hd
      obtain ⟨b, x1, x2, rfl, hb, g1, g2⟩ := DV.t2 (show DV K HB v (.tuple [.str kk.1, frD kk.2]) from hdx)
      obtain rfl := DV.str_of g1
      have gl := glass_one ls n4 (List.mem_of_getElem? ej)
      refine iteT' (by rfl) ?_
      refine ⟨_, rfl, b, _, _, _, rfl, rfl, hb.keep tw3.s, atI0, _, rfl, _, rfl, cl, _, _, i, rfl, rfl, tw3.c, ?_, ?_⟩
      · have hli : ((cs ++ [PySem.Str.ofString ""]).map V.str).length = i + 1 := by rw [List.length_map, List.length_append, ecs]; rfl
        rw [hli]
        unfold ixN
        rw [if_pos (by omega), if_pos (by omega)]
        congr 1
        omega
      have tw4 := tw3.setC (cs' := cs ++ [kk.1]) (xs := ((cs ++ [PySem.Str.ofString ""]).map V.str).set i (.str kk.1)) (by
        rw [List.map_append, List.set_append_right _ _ (by rw [List.length_map]; omega), List.length_map, ecs, Nat.sub_self, List.map_append]; rfl)
      have hb4 := hb.keep tw4.s
      have d4 := g2.keep tw4.s
      generalize upd H3 cl (.lst (((cs ++ [PySem.Str.ofString ""]).map V.str).set i (.str kk.1))) = H4 at tw4 hb4 d4 ⊢
      obtain ⟨ys, e1, e2⟩ := tw4.d
      have yl : ys.length = (dueB st g0 (gs.take i) cs).length := by have := e2.len; rw [List.length_map] at this; exact this
      refine ⟨_, rfl, .inl ⟨rfl, _, SqL.of e1⟩, _, rfl, b, _, _, _, rfl, rfl, hb4, rfl, (by show 2 ≤ sizeLine; decide), fun t ht => ?_⟩
      have u5 := same_new ht (.tup [.str "glass", x2])
      refine ⟨du, ys, _, rfl, rfl, u5 _ _ e1, small1000 (by omega), ?_⟩
      have tw5 := (tw4.keep u5).addD (p := .glass kk.2) (u5 _ _ e1) (e2.keep u5) (DV.upd2 ht (.str _) d4)
      refine kR z l ga cl du x c2 _ c9 c10 gv g0 g gs (cs ++ [kk.1]) _ i HB _ D hga hgv hg (by rw [List.length_append]; simp only [List.length_cons, List.length_nil]; omega) tw5 fun H6 tw6 => q _ kk.1 H6 ?_
      rw [due, gl]
      exact tw6
  · obtain rfl := List.mem_singleton.mp hk
    refine iteF' (by rfl) ?_
    refine kR z l ga cl du x c2 _ c9 c10 gv g0 g gs (cs ++ [PySem.Str.ofString ""]) _ i HB _ D hga hgv hg (by omega) tw3 fun H6 tw6 => q _ (PySem.Str.ofString "") H6 ?_
    rw [due, glass_none ls, List.append_nil]
    exact tw6
theorem c__law_step (T : Txt K mg ad) : CalB P w K mg base true 8 "_law_step" ["_law_cell"] spStep63 := by
  have C__law_mix := c__law_mix (P := P) (w := w) (base := base) T
  have C__law_stock := c__law_stock (P := P) (w := w) (base := base) T
  have C__law_ratio := c__law_ratio (P := P) (w := w) (base := base) T
  have M_Shop := k_Shop (P := P) (w := w) (base := base) T
  refine T.t__law_step.calN sc__law_step (fun _ _ _ _ _ _ => by1 fun _ => rfl) (fun vs H Q E h => ?_) (fun f cdv A outer s H vs Q E hr h => ?_)
  · obtain ⟨_, rfl, _⟩ := h; rfl
  obtain ⟨z, rfl, q⟩ := h
  obtain ⟨tR, hR, kR⟩ := l_tail (P := P) (w := w) (base := base) (f := f) (cdv := cdv) (A := A) (outer := outer) (s := s) (H := H) (E := E) T hr
  obtain ⟨tB, hB, kB⟩ := l_body (P := P) (w := w) (base := base) (f := f) (cdv := cdv) (A := A) (outer := outer) (s := s) (H := H) (E := E) T hr
  refine ⟨_, (pss_cons (ps_set (i := 1) sc__law_step.nd rfl (Or.inl rfl) (pe_cB C__law_stock (hr.mono (by decide)) pass01 (pa_name (pv 0) pa_nil))) (pss_cons (ps_set (i := 2) sc__law_step.nd rfl (Or.inl rfl) (pe_callTy call_list_of rfl T.list bt_list (pa_name (pv 1) pa_nil))) (pss_cons (ps_set (i := 3) sc__law_step.nd rfl (Or.inl rfl) (pe_mkB M_Shop (hr.mono (by decide)) (pa_name (pv 2) pa_nil))) (pss_cons (ps_expr (pe_bm0 PySem.F.plainAttrs_list PySem.F.slot_list_clear PySem.F.type_list_clear mt_clear (pv 2))) (pss_cons (ps_compX (i := 4) sc__law_step.nd rfl (by first | exact Or.inl rfl | exact Or.inr rfl) ["_law_k", "_law_cell"] [none, some 0] rfl (pi_range1 rfl T.range (pa_bin (pe_op op_add pe_int (pe_op op_mod (pe_op op_fdiv (pe_cB C__law_mix (hr.mono (by decide)) pass01 (pa_name (pv 0) (pa_const pe_int pa_nil))) pe_int) pe_int)) pa_nil)) (fun _ _ _ _ _ _ => (pg_name (i := 0) (show List.Nodup [("_law_k" : Str), ("_law_cell" : Str)] by decide) rfl (by first | exact Or.inl rfl | exact Or.inr rfl))) (fun _ _ _ _ _ _ => pifs_nil) (fun _ _ _ _ _ _ => (pe_cB C__law_ratio (hr.mono (by decide)) pass01 (pa_bin (pe_op op_add (pv 1) (pe_op op_mul pe_int (pv 0))) (pa_const pe_int pa_nil)))) (cap_def (hcell := by decide) (hf := (show ∀ y : Str × NameKind, y ∈ _ → y.2 = NameKind.free → (defScope s__law_step).names.lookup y.1 = some NameKind.cell by decide))) (by decide) rfl (by decide) rfl (fun i j h => by
      rcases i with _ | _ | i
      · simp at h
      · simp at h; subst h; exact ⟨_, rfl, rfl, rfl, rfl⟩
      · simp at h)) (pss_cons (ps_set (i := 5) sc__law_step.nd rfl (Or.inl rfl) (pe_lst pa_nil)) (pss_cons (ps_set (i := 6) sc__law_step.nd rfl (Or.inl rfl) (pe_lst (pa_tuple (pe_tup (pa_const pe_str (pa_sub (pe_ix ix_list (pv 4) pe_int (fun _ _ => rfl)) pa_nil))) pa_nil))) (pss_cons (ps_for PassesOwn.never rfl (pi_range1 rfl T.range (pa_bin (pe_op op_sub (pe_callB call_len_seq rfl T.len bt_len (pa_name (pv 4) pa_nil)) pe_int) pa_nil)) (pg_name (i := 7) sc__law_step.nd rfl (by first | exact Or.inl rfl | exact Or.inr rfl)) hB) hR)))))))), ?_⟩
  refine ⟨_, rfl, z, rfl, fun l ks st H1 s1 nl hl hks ls n1 n4 => ?_⟩
  have so : StockOk st := ls.ok n1 n4
  refine ⟨_, rfl, l, ks, rfl, .inl (SqL.of hl), fun l2 hl2 => ?_⟩
  have u2 := same_new hl2 (.lst ks)
  have m2 : upd H1 l2 (.lst ks) l2 = some (.lst ks) := upd_same
  generalize upd H1 l2 (.lst ks) = H2 at u2 m2 ⊢
  refine ⟨_, rfl, fun x dx nx1 ndx ne => ?_⟩
  have w1 : Same H2 (upd (upd H2 dx (.own x)) x (.ins ad.Shop dx [])) := fun b o e => by rw [upd_ne (ne_of_none e nx1), upd_ne (ne_of_none e ndx)]; exact e
  refine ⟨x, dx, .ref l2, _, rfl, upd_same, .lst (SqL.of (w1 _ _ m2)) ((hks.keep u2).keep w1), stockB_good so, sok_good so.nm, fun ks2 l3 H3 s3 nl3 hl3 hks3 => ⟨rfl, ?_⟩⟩
  have ne3 : l3 ≠ x := fun e => by rw [e, upd_same] at nl3; cases nl3
  have ne32 : l3 ≠ l2 := fun e => by rw [e, w1 _ _ m2] at nl3; cases nl3
  have nex2 : x ≠ l2 := fun e => by rw [e, m2] at nx1; cases nx1
  have sx : Same H2 (upd H3 x (.ins ad.Shop dx [("stock", .ref l3)])) := fun b o e => by
    rw [upd_ne (ne_of_none e nx1)]
    exact s3 _ _ (w1 _ _ e)
  have uT : SameT H3 (upd H3 x (.ins ad.Shop dx [("stock", .ref l3)])) := sameT_ins (s3 _ _ upd_same) _
  have ex : upd H3 x (.ins ad.Shop dx [("stock", .ref l3)]) x = some (.ins ad.Shop dx [("stock", .ref l3)]) := upd_same
  have el3 : upd H3 x (.ins ad.Shop dx [("stock", .ref l3)]) l3 = some (.lst ks2) := (upd_ne ne3).trans hl3
  have ek2 : DVs K (upd H3 x (.ins ad.Shop dx [("stock", .ref l3)])) ks2 (st.map kindD) := dvs_keepT uT (noLs_map (fun _ => rfl) _) hks3
  generalize upd H3 x (.ins ad.Shop dx [("stock", .ref l3)]) = HS at sx ex el3 ek2 ⊢
  have mS := sx _ _ m2
  refine ⟨_, rfl, .inl ⟨rfl, _, SqL.of mS⟩, l2, ks, rfl, rfl, mS, ?_⟩
  have sT : Same H1 (upd HS l2 (.lst [])) := same_but (u2.trans sx) hl2 _
  have hsh : ShopAt K ad.Shop (upd HS l2 (.lst [])) (.ref x) st := ⟨x, dx, l3, ks2, rfl, by rw [upd_ne nex2]; exact ex, by rw [upd_ne ne32]; exact el3, dvs_keepT (sameT_upd mS _) (noLs_map (fun _ => rfl) _) ek2⟩
  generalize upd HS l2 (.lst []) = HT at sT hsh ⊢
  have hl := sT _ _ hl
  have hks := hks.keep sT
  have s0 := s1.trans sT
  refine ⟨_, rfl, z, 27437, rfl, by decide, by decide, fun n n0 nx1' => ?_⟩
  refine ⟨_, _, rfl, rfl, ⟨by decide, by decide⟩, _, _, rfl, rfl, (by show (0 : Int) < 5; decide), _, _, rfl, rfl, _, rfl, by omega, by omega, ?_⟩
  have n5 : (1 + n / 64 % 5 : Int).toNat ≤ 5 := by omega
  have n1' : 1 ≤ (1 + n / 64 % 5 : Int).toNat := by omega
  refine comp_range0 (lo := 0) (n := (1 + n / 64 % 5 : Int).toNat) (fun i σ ys H' => ∃ c0 qs, σ = [c0, some (.int z)] ∧ Same HT H' ∧ DVs K H' ys (qs.map frD) ∧ qs.length = i) ⟨_, [], rfl, Same.refl _, .nil, rfl⟩ ?_ ?_ ?_
  · rintro i σ ys H' hi ⟨c0, qs, rfl, s1, hys, hl⟩
    have := hys.len
    rw [List.length_map] at this
    exact Nat.le_of_lt (small1000 (by omega))
  · rintro i σ ys H' hi ⟨c0, qs, rfl, s1, hys, hl⟩
    refine ⟨_, rfl, _, rfl, _, _, rfl, rfl, .inl ⟨by decide, by decide⟩, _, _, rfl, rfl, _, 40709, rfl, by decide, by decide, fun v H3 q0 s3 hv bq => nx hi ⟨_, qs ++ [q0], rfl, s1.trans s3, ?_, ?_⟩⟩
    · rw [List.map_append]
      exact (hys.keep s3).append (.cons hv .nil)
    · rw [List.length_append, hl]; rfl
  · rintro σ gv H' ga ⟨c0, qs, rfl, sg, hgv, eq⟩ hga
    have ug := sg.trans (same_new hga (.lst gv))
    have mg : upd H' ga (.lst gv) ga = some (.lst gv) := upd_same
    have hgv := hgv.keep (same_new hga (.lst gv))
    generalize upd H' ga (.lst gv) = HB at ug mg hgv ⊢
    rcases qs with _ | ⟨g0, gs⟩
    · simp at eq
      omega
    have hl := ug _ _ hl
    have hks := hks.keep ug
    have hsh := hsh.keep ug
    have gl : gv.length = gs.length + 1 := by have := hgv.len; rw [List.length_map] at this; exact this
    have gs4 : gs.length ≤ 4 := by rw [List.length_cons] at eq; omega
    obtain ⟨gv0, gvs, rfl, hg0, hgvs⟩ := DVs.cons_of (show DVs K HB gv (frD g0 :: gs.map frD) from hgv)
    refine ⟨(by show 0 ≤ sizeLine; decide), fun cl hcl => ?_⟩
    have u5 := same_new hcl (.lst [])
    have m5 : upd HB cl (.lst []) cl = some (.lst []) := upd_same
    generalize upd HB cl (.lst []) = H5 at u5 m5 ⊢
    refine ⟨_, rfl, ga, _, _, _, rfl, rfl, SqL.of (u5 _ _ mg), atI0, (by show 2 ≤ sizeLine; decide), fun r1 hr1 => ?_⟩
    have u6 := same_new hr1 (.tup [.str "gap", gv0])
    have d6 : DV K (upd H5 r1 (.tup [.str "gap", gv0])) (.ref r1) (pcD (.gap g0)) := DV.upd2 hr1 (.str _) (hg0.keep u5)
    have m6 := u6 _ _ m5
    generalize upd H5 r1 (.tup [.str "gap", gv0]) = H6 at u6 d6 m6 ⊢
    refine ⟨(by show 1 ≤ sizeLine; decide), fun du hdu => ?_⟩
    have u7 := same_new hdu (.lst [.ref r1])
    have s57 := u5.trans (u6.trans u7)
    have tw : Two K HB cl du [] (dueB st g0 (gs.take 0) []) (upd H6 du (.lst [.ref r1])) :=
      ⟨s57, hcl, (u5.trans u6).free hdu, (fun e => by rw [← e, m6] at hdu; cases hdu), u7 _ _ m6, [.ref r1], upd_same, .cons (d6.keep u7) .nil⟩
    generalize upd H6 du (.lst [.ref r1]) = H7 at tw s57 ⊢
    refine ⟨_, rfl, ga, _, rfl, .inl (SqL.of (s57 _ _ mg)), _, _, rfl, rfl, _, rfl, by omega, by omega, ?_⟩
    have en : ((((gv0 :: gvs).length : Nat) : Int) - 1).toNat = gs.length := by omega
    refine for_range (lo := 0) (n := ((((gv0 :: gvs).length : Nat) : Int) - 1).toNat) (fun i σ H' => ∃ c7 c8 cs, σ = [some (.int z), some (.ref l), some (.ref l2), some (.ref x), some (.ref ga), some (.ref cl), some (.ref du), c7, c8, none, none] ∧ Two K HB cl du cs (dueB st g0 (gs.take i) cs) H' ∧ cs.length = i) ⟨_, _, [], rfl, tw, rfl⟩ ?_ ?_
    · rintro i σ H' hi ⟨c7, c8, cs, rfl, tw, ecs⟩
      rw [en] at hi
      exact kB z l ga cl du (.ref x) _ c8 none none ks _ st g0 gs[i] gs cs i HB H' _ hl hks ls n1 n4 mg hgv (List.getElem?_eq_getElem hi) ecs (by omega) tw fun c8 nm H3 tw3 => ⟨_, _, cs ++ [nm], rfl, tw3, by rw [List.length_append, ecs]; rfl⟩
    · rintro σ H' ⟨c7, c8, cs, rfl, tw, ecs⟩
      rw [en] at ecs tw
      rw [List.take_length] at tw
      obtain ⟨ys, e1, e2⟩ := tw.d
      exact kR z l ga cl du (.ref x) _ c7 c8 none none ks ys _ st g0 gs cs H' _ (tw.s _ _ hl) (hks.keep tw.s) ls n1 n4 (hsh.keep tw.s) (tw.s _ _ mg) (hgv.keep tw.s) gs4 ecs tw.c e1 e2 fun H3 s3 => q _ (s0.trans (ug.trans (tw.s.trans s3)))
theorem ok_law (T : Txt K mg ad) {fa : Addr} {fd : FuncData} (F : Fun K "law" "law" s_law fa fd) : FnB P w K mg base true 11 fa fd ["_law_script"] (spLaw K) := by
  have C__law_step := c__law_step (P := P) (w := w) (base := base) T
  have M_Shop := k_Shop (P := P) (w := w) (base := base) T
  refine F.okB sc_law (fun vs H Q E h => ?_) (fun cdv A outer s H vs Q E hr h => ?_)
  · obtain ⟨a, ns, rfl, _⟩ := h; rfl
  obtain ⟨a, ns, rfl, hS, h63, q⟩ := h
  refine ⟨_, (pss_cons (ps_for PassesOwn.never rfl (pi_list (pe_slice sl_list (pv 0) po_none (po_some pe_int))) (pg_name (i := 1) sc_law.nd rfl (by first | exact Or.inl rfl | exact Or.inr rfl)) (pss_one (ps_if (pt_not (pt_val (pe_cB C__law_step (hr.mono (by decide)) pass01 (pa_name (pv 1) pa_nil)))) (pss_one (ps_ret pe_bl)) pss_nil))) (pss_one (ps_ret (pe_cmpR (op_eqD hr.units) (pe_mB0 (k := 1) (pe_mkB M_Shop (hr.mono (by decide)) (pa_list (pe_lst (pa_tuple (pe_tup (pa_const pe_str (pa_tuple (pe_tup (pa_const pe_int (pa_const pe_int pa_nil))) pa_nil))) pa_nil)) pa_nil)) (hr.mono (by decide))) (pe_lst (pa_tuple (pe_tup (pa_const pe_str (pa_tuple (pe_tup (pa_const pe_int (pa_const pe_int pa_nil))) pa_nil))) pa_nil)) (nomark _))))), ?_⟩
  refine ⟨_, rfl, _, rfl, a, _, rfl, hS, fun p5 hp5 => ⟨p5, rfl, ⟨_, SqL.of upd_same⟩, ?_⟩⟩
  have v5 := same_new hp5 (.lst (cutV (ns.map V.int) none (some 30)))
  have hL := cut_ints ns none (some 30)
  have l5 : (upd H p5 (.lst (cutV (ns.map V.int) none (some 30)))) p5 = some (.lst (cutV (ns.map V.int) none (some 30))) := upd_same
  generalize upd H p5 (.lst (cutV (ns.map V.int) none (some 30))) = HH at l5 ⊢
  generalize cutV (ns.map V.int) none (some 30) = L at hL l5 ⊢
  refine for_list (K := K) (a := p5) (xs := L) (fun i σ H2 => ∃ c1, σ = [some (.ref a), c1] ∧ Same HH H2) ⟨_, rfl, Same.refl _⟩ ?_ ?_ ?_
  · rintro i σ H2 hi ⟨c1, rfl, s2⟩
    exact SqL.of (s2 _ _ l5)
  · rintro i y σ H2 hi ⟨c1, rfl, s2⟩
    obtain ⟨z, rfl⟩ := hL y (List.mem_of_getElem? hi)
    exact ⟨_, rfl, z, rfl, fun H3 s3 => ⟨_, rfl, iteF ⟨_, rfl, s2.trans s3⟩⟩⟩
  · rintro σ H0 ⟨c1, rfl, s2⟩
    refine ⟨(by show 2 ≤ sizeLine; decide), fun q1 hq1 => ?_⟩
    have u1 := same_new hq1 (.tup [.int 1, .int 1])
    have d1 : DV K (upd H0 q1 (.tup [.int 1, .int 1])) (.ref q1) (frD 1) := .tup (SqT.of upd_same) (.cons (.int _) (.cons (.int _) .nil))
    generalize upd H0 q1 (.tup [.int 1, .int 1]) = H1 at u1 d1 ⊢
    refine ⟨(by show 2 ≤ sizeLine; decide), fun q2 hq2 => ?_⟩
    have d2 : DV K (upd H1 q2 (.tup [.str "a", .ref q1])) (.ref q2) (kindD (PySem.Str.ofString "a", 1)) := DV.upd2 hq2 (.str _) d1
    generalize upd H1 q2 (.tup [.str "a", .ref q1]) = H2 at d2 ⊢
    refine ⟨(by show 1 ≤ sizeLine; decide), fun q3 hq3 => ?_⟩
    have u3 := same_new hq3 (.lst [.ref q2])
    have d3 : DV K (upd H2 q3 (.lst [.ref q2])) (.ref q3) (.list ([(PySem.Str.ofString "a", 1)].map kindD)) := .lst (SqL.of upd_same) (.cons (d2.keep u3) .nil)
    generalize upd H2 q3 (.lst [.ref q2]) = H3 at d3 ⊢
    have so : StockOk [(PySem.Str.ofString "a", 1)] := ⟨by decide, (fun k hk => by rw [List.mem_singleton.mp hk]; decide +kernel), (fun k hk => by rw [List.mem_singleton.mp hk]; decide), by simp⟩
    refine fun x dx nx1 ndx ne => ?_
    have w1 : Same H3 (upd (upd H3 dx (.own x)) x (.ins ad.Shop dx [])) := fun b o e => by rw [upd_ne (ne_of_none e nx1), upd_ne (ne_of_none e ndx)]; exact e
    refine ⟨x, dx, .ref q3, _, rfl, upd_same, d3.keep w1, stockB_good so, sok_good so.nm, fun ks2 l3 H4 s4 nl3 hl3 hks3 => ⟨rfl, ?_⟩⟩
    have ne3 : l3 ≠ x := fun e => by rw [e, upd_same] at nl3; cases nl3
    have uT : SameT H4 (upd H4 x (.ins ad.Shop dx [("stock", .ref l3)])) := sameT_ins (s4 _ _ upd_same) _
    have hsh : ShopAt K ad.Shop (upd H4 x (.ins ad.Shop dx [("stock", .ref l3)])) (.ref x) [(PySem.Str.ofString "a", 1)] := ⟨x, dx, l3, ks2, rfl, upd_same, (upd_ne ne3).trans hl3, dvs_keepT uT (noLs_map (fun _ => rfl) _) hks3⟩
    generalize upd H4 x (.ins ad.Shop dx [("stock", .ref l3)]) = H5 at hsh ⊢
    obtain ⟨a6, dx6, l6, k6, e6, ha6, _⟩ := id hsh
    cases e6
    refine ⟨x, _, dx6, _, _, _, rfl, ha6, rfl, mc_kinds T, .ref x, _, rfl, hsh, fun t1 ks1 H6 s6 nt1 ht1 hk1 => ?_⟩
    refine ⟨(by show 2 ≤ sizeLine; decide), fun r1 hr1 => ?_⟩
    have v1 := same_new hr1 (.tup [.int 1, .int 1])
    have e1 : DV K (upd H6 r1 (.tup [.int 1, .int 1])) (.ref r1) (frD 1) := .tup (SqT.of upd_same) (.cons (.int _) (.cons (.int _) .nil))
    generalize upd H6 r1 (.tup [.int 1, .int 1]) = H7 at v1 e1 ⊢
    refine ⟨(by show 2 ≤ sizeLine; decide), fun r2 hr2 => ?_⟩
    have v2 := same_new hr2 (.tup [.str "a", .ref r1])
    have e2 : DV K (upd H7 r2 (.tup [.str "a", .ref r1])) (.ref r2) (kindD (PySem.Str.ofString "a", 1)) := DV.upd2 hr2 (.str _) e1
    generalize upd H7 r2 (.tup [.str "a", .ref r1]) = H8 at v2 e2 ⊢
    refine ⟨(by show 1 ≤ sizeLine; decide), fun r3 hr3 => ?_⟩
    have v3 := same_new hr3 (.lst [.ref r2])
    refine eq_same (d := .list ([(PySem.Str.ofString "a", 1)].map kindD)) (n := 3) (.lst (SqL.of ((v1.trans (v2.trans v3)) _ _ ht1)) (hk1.keep (v1.trans (v2.trans v3)))) (.lst (SqL.of upd_same) (.cons (e2.keep v3) .nil)) (flat_lst fun d hd => by rw [List.mem_singleton.mp hd]; exact flat_kind _ (by decide +kernel)) (q _)
theorem law_fd {fa : Addr} (F : TopFn K mg "law" s_law) (hmg : mg "law" = some (.ref fa)) : ∃ fd, Fun K "law" "law" s_law fa fd ∧ ∀ (s : Shared) (u : Value), BindsTo s fd ⟨[u], []⟩ [("_law_script", u)] := by
  obtain ⟨f, fd, F, hm⟩ := F.ex
  cases hmg.symm.trans hm
  obtain ⟨oc, od, kV, doc, pm, an, cdv, ct, osl, rfl, l, c⟩ := id F.ex
  exact ⟨_, F, fun s u => .of_eq rfl⟩
end
end K63
namespace K63
open PySem L2 Lib
theorem walk {l : PySem.W.OpenLaw} {q : Program} {loose : List Str} {XP : (Str → Option Value) → Heap → Prop} {YP : World → Heap → Prop} {d : DefRec} {K : Params → PySem.W.Frag} (hn : l.most = some 63) (hdf : d.params.defaults = [])
    (hY : ∀ (w : World) (h : Heap), YP w h → (K w.params).In h)
    (F : ∀ (w : World) (mg : Str → Option Value) (fa : Addr) (h : Heap), (K w.params).In h → h.Ns mainGlobals mg → mg d.name = some (.ref fa) →
      ∃ fd : FuncData, (∀ (s : Shared) (u : Value), BindsTo s fd ⟨[u], []⟩ [("_law_script", u)]) ∧ ∀ base : Heap, (K w.params).In base → base.Ns mainGlobals mg → FnOk l.prog w (K w.params) mg base (CX1 l.prog w) 11 fa fd ["_law_script"] (spLaw (K w.params))) :
    PySem.W.WalkO q loose XP YP l.row.toRowW d [] (fun f vs => PySem.call f vs) :=
  L2.walk_of (n := 63) (k := 11) (x := "_law_script") (CX := fun w => CX1 l.prog w) (sp := fun w => spLaw (K w.params)) hn (by decide) hdf ⟨rfl, by decide, by decide⟩ hY F (fun _ _ a ns hl _ hS => ⟨a, ns, rfl, hS, hl, fun _ => rfl⟩) fun _ _ _ _ _ z => by
    obtain ⟨_, _, _, _, _, _, _, _, _, _, _, _, q⟩ := z
    exact q
end K63
def PySem.W.Fast.tw13110822227224622120 : Unit := ()
def PySem.W.Fast.tw5670223743432227266 : Unit := ()
def PySem.W.Fast.tw13436860387006063701 : Unit := ()
def PySem.W.Fast.tw5183890518801163641 : Unit := ()
def PySem.W.Fast.tw12419118562243578177 : Unit := ()
def PySem.W.Fast.tw7197447201475591696 : Unit := ()
def PySem.W.Fast.tw1082539565254541974 : Unit := ()
def PySem.W.Fast.tw2130179308311276573 : Unit := ()
def PySem.W.Fast.tw13041177967749936964 : Unit := ()
def PySem.W.Fast.tw4735336804070698960 : Unit := ()
def PySem.W.Fast.tw339022051442967349 : Unit := ()
def PySem.W.Fast.tw14990536074713279874 : Unit := ()
def PySem.W.Fast.tw8266481262334628251 : Unit := ()
def PySem.W.Fast.tw4741421703771188637 : Unit := ()
def PySem.W.Fast.tw16450720169922269605 : Unit := ()
def PySem.W.Fast.tw9673810983131719494 : Unit := ()
def PySem.W.Fast.tw5783351617299277618 : Unit := ()
def PySem.W.Fast.tw5463135946066652302 : Unit := ()
def PySem.W.Fast.tw13511084989581930930 : Unit := ()
def PySem.W.Fast.tw12180087511684467252 : Unit := ()
def PySem.W.Fast.tw6685879615855701453 : Unit := ()
def PySem.W.Fast.tw5168231360446036373 : Unit := ()
def PySem.W.Fast.tw156457418694496484 : Unit := ()
def PySem.W.Fast.tw1803579974862887870 : Unit := ()
def PySem.W.Fast.tw14910673413296154401 : Unit := ()
def PySem.W.Fast.tw11554545558128313363 : Unit := ()
open PySem PySem.W PyProof.Rows
set_option maxRecDepth 100000 in
set_option maxHeartbeats 0 in
theorem PySem.Challenge.cw_grindbench_k63_stocks_holds : PySem.Challenge.rw_grindbench_k63_stocks.Holds := by
  w_on; o_law; k_head; (case hw => w_witness2)
  k_fill
  refine K63.walk (l := PySem.Challenge.rw_grindbench_k63_stocks) rfl rfl (fun w h Y => PySem.W.kIn_of Y) ?F
  case F =>
    intro w mg fa h KX G hmg
    have t_is_whole : L2.TopFn (L2.KOf KX) mg "is_whole" K63.s_is_whole := by
      dsimp only [L2.KOf]
      refine' L2.topFn_mk KX G ?a ?l ?c ?k
      (case a => k_is); (case l => k_is); (case c => k_is); (case k => k_is)
    have t_common_divisor : L2.TopFn (L2.KOf KX) mg "common_divisor" K63.s_common_divisor := by
      dsimp only [L2.KOf]
      refine' L2.topFn_mk KX G ?a ?l ?c ?k
      (case a => k_is); (case l => k_is); (case c => k_is); (case k => k_is)
    have t_is_ratio : L2.TopFn (L2.KOf KX) mg "is_ratio" K63.s_is_ratio := by
      dsimp only [L2.KOf]
      refine' L2.topFn_mk KX G ?a ?l ?c ?k
      (case a => k_is); (case l => k_is); (case c => k_is); (case k => k_is)
    have t_is_name : L2.TopFn (L2.KOf KX) mg "is_name" K63.s_is_name := by
      dsimp only [L2.KOf]
      refine' L2.topFn_mk KX G ?a ?l ?c ?k
      (case a => k_is); (case l => k_is); (case c => k_is); (case k => k_is)
    have t_is_kind : L2.TopFn (L2.KOf KX) mg "is_kind" K63.s_is_kind := by
      dsimp only [L2.KOf]
      refine' L2.topFn_mk KX G ?a ?l ?c ?k
      (case a => k_is); (case l => k_is); (case c => k_is); (case k => k_is)
    have t_is_stock : L2.TopFn (L2.KOf KX) mg "is_stock" K63.s_is_stock := by
      dsimp only [L2.KOf]
      refine' L2.topFn_mk KX G ?a ?l ?c ?k
      (case a => k_is); (case l => k_is); (case c => k_is); (case k => k_is)
    have t_look_at_gaps : L2.TopFn (L2.KOf KX) mg "look_at_gaps" K63.s_look_at_gaps := by
      dsimp only [L2.KOf]
      refine' L2.topFn_mk KX G ?a ?l ?c ?k
      (case a => k_is); (case l => k_is); (case c => k_is); (case k => k_is)
    have t__law_mix : L2.TopFn (L2.KOf KX) mg "_law_mix" K63.s__law_mix := by
      dsimp only [L2.KOf]
      refine' L2.topFn_mk KX G ?a ?l ?c ?k
      (case a => k_is); (case l => k_is); (case c => k_is); (case k => k_is)
    have t__law_lowest : L2.TopFn (L2.KOf KX) mg "_law_lowest" K63.s__law_lowest := by
      dsimp only [L2.KOf]
      refine' L2.topFn_mk KX G ?a ?l ?c ?k
      (case a => k_is); (case l => k_is); (case c => k_is); (case k => k_is)
    have t__law_ratio : L2.TopFn (L2.KOf KX) mg "_law_ratio" K63.s__law_ratio := by
      dsimp only [L2.KOf]
      refine' L2.topFn_mk KX G ?a ?l ?c ?k
      (case a => k_is); (case l => k_is); (case c => k_is); (case k => k_is)
    have t__law_name : L2.TopFn (L2.KOf KX) mg "_law_name" K63.s__law_name := by
      dsimp only [L2.KOf]
      refine' L2.topFn_mk KX G ?a ?l ?c ?k
      (case a => k_is); (case l => k_is); (case c => k_is); (case k => k_is)
    have t__law_stock : L2.TopFn (L2.KOf KX) mg "_law_stock" K63.s__law_stock := by
      dsimp only [L2.KOf]
      refine' L2.topFn_mk KX G ?a ?l ?c ?k
      (case a => k_is); (case l => k_is); (case c => k_is); (case k => k_is)
    have t__law_bad : L2.TopFn (L2.KOf KX) mg "_law_bad" K63.s__law_bad := by
      dsimp only [L2.KOf]
      refine' L2.topFn_mk KX G ?a ?l ?c ?k
      (case a => k_is); (case l => k_is); (case c => k_is); (case k => k_is)
    have t__law_which : L2.TopFn (L2.KOf KX) mg "_law_which" K63.s__law_which := by
      dsimp only [L2.KOf]
      refine' L2.topFn_mk KX G ?a ?l ?c ?k
      (case a => k_is); (case l => k_is); (case c => k_is); (case k => k_is)
    have t__law_step : L2.TopFn (L2.KOf KX) mg "_law_step" K63.s__law_step := by
      dsimp only [L2.KOf]
      refine' L2.topFn_mk KX G ?a ?l ?c ?k
      (case a => k_is); (case l => k_is); (case c => k_is); (case k => k_is)
    have t_law : L2.TopFn (L2.KOf KX) mg "law" K63.s_law := by
      dsimp only [L2.KOf]
      refine' L2.topFn_mk KX G ?a ?l ?c ?k
      (case a => k_is); (case l => k_is); (case c => k_is); (case k => k_is)
    have z_ValueError : mg "ValueError" = none := by
      refine' PySem.W.mg_none_of KX G ?a
      (case a => k_is)
    have z_abs : mg "abs" = none := by
      refine' PySem.W.mg_none_of KX G ?a
      (case a => k_is)
    have z_all : mg "all" = none := by
      refine' PySem.W.mg_none_of KX G ?a
      (case a => k_is)
    have z_bool : mg "bool" = none := by
      refine' PySem.W.mg_none_of KX G ?a
      (case a => k_is)
    have z_int : mg "int" = none := by
      refine' PySem.W.mg_none_of KX G ?a
      (case a => k_is)
    have z_isinstance : mg "isinstance" = none := by
      refine' PySem.W.mg_none_of KX G ?a
      (case a => k_is)
    have z_len : mg "len" = none := by
      refine' PySem.W.mg_none_of KX G ?a
      (case a => k_is)
    have z_list : mg "list" = none := by
      refine' PySem.W.mg_none_of KX G ?a
      (case a => k_is)
    have z_range : mg "range" = none := by
      refine' PySem.W.mg_none_of KX G ?a
      (case a => k_is)
    have z_set : mg "set" = none := by
      refine' PySem.W.mg_none_of KX G ?a
      (case a => k_is)
    have z_str : mg "str" = none := by
      refine' PySem.W.mg_none_of KX G ?a
      (case a => k_is)
    have z_tuple : mg "tuple" = none := by
      refine' PySem.W.mg_none_of KX G ?a
      (case a => k_is)
    have z_zip : mg "zip" = none := by
      refine' PySem.W.mg_none_of KX G ?a
      (case a => k_is)
    have X0 : ∃ ad, K63.Exc (L2.KOf KX) mg ad := by
      dsimp only [L2.KOf]
      refine' ⟨_, K63.exc_mk KX G ?m_BenchError ?m_NoNumber ?m_NoStock ?m_NoWish ?m_NoBench ?m_Shop ?m_GAP ?m_GLASS ?m_LETTERS ?m_MOST_LETTERS ?m_MOST_KINDS ?m_MOST_GAPS ?o_NoStock ?x_NoStock_BenchError ?x_NoBench_BenchError ?k_NoStock_NoNumber ?k_NoStock_NoStock ?k_NoStock_NoBench ?k_NoStock_NoWish ?k_NoStock_ValueError ?k_NoBench_NoNumber ?k_NoBench_NoStock ?k_NoBench_NoBench ?k_NoBench_NoWish ?k_NoBench_ValueError ?ecl_NoStock ?ega_NoStock ?egt_NoStock ?eha_NoStock ?ehn_NoStock ?eht_NoStock ?ehm_NoStock ?ehb_NoStock ?ecl_NoBench ?ega_NoBench ?egt_NoBench ?eha_NoBench ?ehn_NoBench ?eht_NoBench ?ehm_NoBench ?ehb_NoBench ?pg_Shop ?hd_Shop ?po_Shop ?sa_Shop ?mk_Shop_init ?a_Shop_init ?fn_Shop_init ?kc_Shop_init ?l_Shop_init ?c_Shop_init ?kp_Shop_init ?a_Shop_kinds ?fn_Shop_kinds ?kp_Shop_kinds ?l_Shop_kinds ?c_Shop_kinds ?a_Shop_pieces_for ?fn_Shop_pieces_for ?kp_Shop_pieces_for ?l_Shop_pieces_for ?c_Shop_pieces_for ?a_Shop_bench_for ?fn_Shop_bench_for ?kp_Shop_bench_for ?l_Shop_bench_for ?c_Shop_bench_for ?n_Shop_stock ?ob_NoBench_init ?o_cb_NoBench_init ?it_NoBench_init ?kp0_NoBench_init ?hm_NoBench_init ?hd_NoBench_init ?fn_NoBench_init ?sa_NoBench_init ?na_NoBench_init ?rd_NoBench_init ?fc_NoBench_init ?sg_NoBench_init ?l_NoBench_init ?c_NoBench_init ?kp_NoBench_init ?m_NOUGHT ?lk_NOUGHT⟩
      (case m_BenchError => k_is); (case m_NoNumber => k_is); (case m_NoStock => k_is); (case m_NoWish => k_is); (case m_NoBench => k_is); (case m_Shop => k_is); (case m_GAP => k_is); (case m_GLASS => k_is); (case m_LETTERS => k_is); (case m_MOST_LETTERS => k_is); (case m_MOST_KINDS => k_is); (case m_MOST_GAPS => k_is); (case o_NoStock => k_exc); (case x_NoStock_BenchError => kts_exm); (case x_NoBench_BenchError => kts_exm); (case k_NoStock_NoNumber => kit_is); (case k_NoStock_NoStock => kit_is); (case k_NoStock_NoBench => kit_is); (case k_NoStock_NoWish => kit_is); (case k_NoStock_ValueError => kit_is); (case k_NoBench_NoNumber => kit_is); (case k_NoBench_NoStock => kit_is); (case k_NoBench_NoBench => kit_is); (case k_NoBench_NoWish => kit_is); (case k_NoBench_ValueError => kit_is); (case ecl_NoStock => k_is); (case ega_NoStock => k_is); (case egt_NoStock => k_is); (case eha_NoStock => k_is); (case ehn_NoStock => k_is); (case eht_NoStock => k_is); (case ehm_NoStock => k_is); (case ehb_NoStock => k_is); (case ecl_NoBench => k_is); (case ega_NoBench => k_is); (case egt_NoBench => k_is); (case eha_NoBench => k_is); (case ehn_NoBench => k_is); (case eht_NoBench => k_is); (case ehm_NoBench => k_is); (case ehb_NoBench => k_is); (case pg_Shop => k_is); (case hd_Shop => k_is); (case po_Shop => k_is); (case sa_Shop => k_is); (case mk_Shop_init => k_is); (case a_Shop_init => k_is); (case fn_Shop_init => k_is); (case kc_Shop_init => k_is); (case l_Shop_init => k_is); (case c_Shop_init => k_is); (case kp_Shop_init => k_is); (case a_Shop_kinds => k_is); (case fn_Shop_kinds => k_is); (case kp_Shop_kinds => k_is); (case l_Shop_kinds => k_is); (case c_Shop_kinds => k_is); (case a_Shop_pieces_for => k_is); (case fn_Shop_pieces_for => k_is); (case kp_Shop_pieces_for => k_is); (case l_Shop_pieces_for => k_is); (case c_Shop_pieces_for => k_is); (case a_Shop_bench_for => k_is); (case fn_Shop_bench_for => k_is); (case kp_Shop_bench_for => k_is); (case l_Shop_bench_for => k_is); (case c_Shop_bench_for => k_is); (case n_Shop_stock => k_is); (case ob_NoBench_init => k_is); (case o_cb_NoBench_init => k_exc); (case it_NoBench_init => k_is); (case kp0_NoBench_init => k_is); (case hm_NoBench_init => k_is); (case hd_NoBench_init => k_is); (case fn_NoBench_init => k_is); (case sa_NoBench_init => k_is); (case na_NoBench_init => k_is); (case rd_NoBench_init => k_is); (case fc_NoBench_init => k_is); (case sg_NoBench_init => k_is); (case l_NoBench_init => k_is); (case c_NoBench_init => k_is); (case kp_NoBench_init => k_is); (case m_NOUGHT => k_is); (case lk_NOUGHT => k_is)
    obtain ⟨ad, X0⟩ := X0
    obtain ⟨fd, FL, bL⟩ := K63.law_fd t_law hmg
    exact ⟨fd, bL, fun base _ _ => L2.FnB.ok (K63.ok_law ⟨X0, z_ValueError, z_abs, z_all, z_bool, z_int, z_isinstance, z_len, z_list, z_range, z_set, z_str, z_tuple, z_zip, t_is_whole, t_common_divisor, t_is_ratio, t_is_name, t_is_kind, t_is_stock, t_look_at_gaps, t__law_mix, t__law_lowest, t__law_ratio, t__law_name, t__law_stock, t__law_bad, t__law_which, t__law_step⟩ FL)⟩
#print axioms PySem.Challenge.cw_grindbench_k63_stocks_holds
